import PyProof.Rows.All
import Wide.All
import OpenK.AllK
import Wide.FinOn
import Lean
import PyProof.EqAt
import PyProof.EqKinds
import PyProof.TupleCall
import PyProof.Rows.SortRuns
import PyProof.Draws
import PyProof.EnumMake
import KE.KDictLaws
import PySem.Challenge.RW_boxsums_k48_whole_best_and_counted
set_option Elab.async false
set_option linter.all false
set_option maxRecDepth 100000
set_option maxHeartbeats 4000000
open PySem.Heap renaming get?_push_of_some → g0,lt_size → B0,get?_push_size → J0,size_push → W1,get?_update_self → V2,get?_update_other → V3,SameBut → o5,get?_push_ne → W6,ExtBut → E7,size_update → u8,get?_update_ne → j9
open List renaming length_map → i0,mem_cons_of_mem → u0,mem_cons_self → A0,mem_map → K0,getElem?_eq_getElem → L0,length_append → M0,getElem?_set_ne → O0,map_map → P0,size_toArray → Q0,range → V0,getElem?_eq_some_iff → W0,getElem?_map → X0,map_cons → Z0,getD_eq_getElem?_getD → B1,length_singleton → E1,length_cons → K1,getElem?_append_right → O1,mem_append_right → P1,Nodup → Q1,replicate → V1,getElem?_append_left → X1,mem_of_getElem? → Y1,mem_cons → B2,flatMap_cons → E2,map_congr_left → G2,mem_singleton → K2,mem_append → O2,append_nil → P2,append_assoc → Q2,map_append → T2,extract_eq_take_drop → X2,drop_eq_getElem_cons → Y2,mem_range → B3,mem_flatMap → K3,getElem_of_mem → M3,pairwise_cons → O3,mem_filter → P3,foldl_cons → Q3,length_take → S3,lookup_cons → U3,pairwise_iff_getElem → W3,replicate_succ → X3,take_append_drop → Z3,length_set → i4,find?_cons → j4,map → A4,length_range → B4,take_of_length_le → E4,flatMap_append → J4,of_mem_zip → K4,length_zip → L4,getElem?_eq_none_iff → M4,pairwise_reverse → N4,length_filter_le → O4,getElem_mem → Q4,zip_cons_cons → S4,length → U4,pairwise_map → X4,getElem?_cons_succ → Y4,nodup_cons → Z4,range_succ → i5,map_nil → q5,mem_iff_getElem? → G5,getElem?_zip_eq_some → L5,forIn_cons → O5,flatten_cons → U5,pairwise_append → X5,sum_cons → Y5,forIn_nil → j6,length_drop → m6,all_eq_true → o6,pairwise_singleton → t6,filter_cons_of_pos → u6,filter_cons_of_neg → v6,flatMap_singleton → A6,pairwise_flatMap → E6,length_nil → N6,drop_sublist → V6,getElem?_set_self → Y6,drop_of_length_le → Z6,perm_append_comm → i7,zipIdx_cons → j7,countP_cons → o7,flatMap_map → u7,flatMap_nil → v7,mem_append_left → G7,getElem_toArray → J7,zipIdx_nil → L7,filterMap_cons → M7,mem_map_of_mem → N7,perm_ext_iff_of_nodup → X7,lookup → Y7,reverse_perm → h8,any_cons → j8,getElem?_take_of_lt → n8,mem_reverse → t8,ext_getElem → v8,map_flatMap → w8,getElem?_replicate → y8,zip_map → E8,filter_eq_nil_iff → J8,nil_append → K8,length_replicate → Q8,eq_nil_or_concat → R8,drop_zero → T8,drop_drop → U8,mem_iff_getElem → W8,mem_of_mem_take → X8,mem_of_mem_drop → Y8,getElem?_zipIdx → Z8,length_reverse → h9,take_succ_cons → i9,getElem?_range → m9,all_cons → o9,mem_filterMap → t9,getElem?_drop → v9,forIn_toArray → x9,map_id → M9,foldl → P9
open PySem.PyData renaming int → n0,tuple → Z1,list → V4,bool → F7,canLayAll0 → g8,depthAll → M8,canLay0 → S8,depth → B9
open PySem.W renaming Frag → q0,mg_none_of → T1,nsIn → Z2,keepIn → A5,fnOf → Q5,findIn → T6,codeIn → T7,methodObj → b8,cellsFrom_some → F8,OpenLaw → L8,specialIn → K9,instObj → N9
open Nat renaming le_refl → G0,lt_of_lt_of_le → N0,ne_of_lt → R0,le_trans → A1,ne_of_gt → J1,lt_irrefl → A3,le_add_right → E3,add_sub_cancel_left → N3,lt_of_le_of_lt → o4,zero_le → u4,le_of_lt → j5,mul_comm → S5,zero_add → T5,le_of_succ_le → V5,mod_eq_of_lt → L6,add_mul → P6,one_mul → Q6,lt_succ_of_lt → X6,div_eq_of_lt → t7,mul_assoc → y7,mul_le_mul_right → K7,lt_trans → P7,sub_zero → Q7,add_zero → R7,zero_mul → S7,le_succ → Z7,le_of_not_lt → r8,le_mul_of_pos_right → A8,div_add_mod → O8,mul_le_mul → V8,pow_le_pow_right → b9,add_le_add_left → g9,succ_mul → y9,add_comm → A9,lt_or_ge → E9
open PySem.Builtin.SmallTypes renaming nextOf → T0,ownedTupleIsFree → Y0,ownedTupleHandOut → Y3
open Array renaming length_toList → U0,toList_append → U2,getElem_toList → v3,toList_extract → v4,perm_iff_toList_perm → E5,getElem?_toList → J5,getElem?_eq_getElem → M5,toList_reverse → K6,size_extract → O6,toList_push → U6,toList_map → m7
open Bool renaming false_ne_true → G1,false_eq_true → G3,and_eq_true → P4,eq_iff_iff → N5,beq_eq_decide_eq → B6,false_and → J6,true_and → A7,eq_false_iff → i8,not_true → q9
open Ne renaming symm → L1
open Option.some renaming inj → S1
open PySem.Value renaming ref → U1,none → x6,type → G6,bool → O9
open PyProof.Rows renaming callWith_type1 → J2,slot_tuple_getitem → g7
open PySem.Obj renaming mapSeq → S2,data_mapFields → B5,isFreed_of_fields → h7
open Int renaming mul_le_mul_of_nonneg_left → W2,mul_le_mul_of_nonneg_right → T4,one_mul → W4,mul_assoc → v5,toNat_natCast → W5,eq_ofNat_of_zero_le → w6,le_refl → S6,mul_one → B7,toNat_of_nonneg → O7,emod_lt_of_pos → U7,mul_comm → B8,natCast_mul → N8,emod_nonneg → P8,le_trans → F9,mul_zero → G9
open Option renaming map_eq_some_iff → J3,getD_some → T3,map_some → P5,isSome_iff_exists → m8,isSome_some → u9
open PySem.Heap.SameBut renaming update → G4
open PySem.Builtin.List renaming listExtendWith → u5,listTooLong → i6,listFitsIndex → W7,listSameRef → o8,listItems → G8
open PySem.Builtin.Slice renaming slicePlaces → K5,sliceAdjust → M6,sliceApplied → V7
open PySem.Builtin.Tuple renaming tupleExact → Z5
open PySem.Builtin.Range renaming rangeSize → x8
open Nat.succ renaming inj → J9
open PySem.Heap.ExtBut renaming push → L9
namespace L2
open PySem PySem.Spec PyProof.Rows
noncomputable abbrev GQ:=Sum Int Str
noncomputable def xV:GQ->Value->Bool
 | .inl k,v=>Value.isInt k v
 | .inr x,v=>Value.isStrOf x v
noncomputable def wN(w:World):GQ->Int
 | .inl k=>hashInt k
 | .inr x=>hashStr w x
theorem YQ:∀{k:GQ}{v:Value},xV k v=true->(∃i t,k=Sum.inl i/\v=Value.int i t)\/(∃x t,k=Sum.inr x/\v=Value.str x t)
 | .inl i,v,h=>by
  obtain⟨t,e⟩:=Value.isInt_shape (k:=i) (v:=v) h
  exact .inl ⟨i,t,rfl,e⟩
 | .inr x,v,h=>by
  obtain⟨t,e⟩:=Value.isStrOf_shape (x:=x) (v:=v) h
  exact .inr ⟨x,t,rfl,e⟩
theorem Gq(i:Int)(t:Tok):xV (.inl i) (.int i t)=true:=by simp[xV,Value.isInt]
theorem Hq(x:Str)(t:Tok):xV (.inr x) (.str x t)=true:=by simp[xV,Value.isStrOf]
theorem nB(a b:Int):decide ((Sum.inl a:GQ)=Sum.inl b)=(a==b):=by
 by_cases e:a=b
 ·subst e;simp
 ·have h:¬(Sum.inl a:GQ)=Sum.inl b:=λq=>e (Sum.inl.inj q)
  rw[decide_eq_false h]
  exact (beq_eq_false_iff_ne.mpr e).symm
theorem oB(a b:Str):decide ((Sum.inr a:GQ)=Sum.inr b)=decide (a=b):=by
 by_cases e:a=b
 ·subst e;simp
 ·have h:¬(Sum.inr a:GQ)=Sum.inr b:=λq=>e (Sum.inr.inj q)
  rw[decide_eq_false h,decide_eq_false e]
theorem pB(a:Int)(b:Str):decide ((Sum.inl a:GQ)=Sum.inr b)=false:=decide_eq_false (λq=>nomatch q)
theorem qB(a:Str)(b:Int):decide ((Sum.inr a:GQ)=Sum.inl b)=false:=decide_eq_false (λq=>nomatch q)
noncomputable def TQ(prog:Program)(w:World):PySem.KeyKind prog w GQ where
 is:=xV
 hash:=wN w
 inj:=λv a b ha hb=>by
  rcases YQ ha with⟨i,t,rfl,rfl⟩|⟨x,t,rfl,rfl⟩
  ·rcases YQ hb with⟨j,u,rfl,e⟩|⟨y,u,rfl,e⟩
   ·injection e with e1 _;rw[e1]
   ·exact nomatch e
  ·rcases YQ hb with⟨j,u,rfl,e⟩|⟨y,u,rfl,e⟩
   ·exact nomatch e
   ·injection e with e1 _;rw[e1]
 byValue:=λk v h=>by
  rcases YQ h with⟨i,t,rfl,rfl⟩|⟨x,t,rfl,rfl⟩<;>rfl
 pyHash:=λhv h=>by
  rcases YQ hv with⟨i,t,rfl,rfl⟩|⟨x,t,rfl,rfl⟩
  ·exact wpAny_pyHash_int h
  ·exact wpAny_pyHash_str h
 eqBool:=λhu hv h=>by
  rcases YQ hu with⟨i,t,rfl,rfl⟩|⟨x,t,rfl,rfl⟩
  ·rcases YQ hv with⟨j,u,rfl,rfl⟩|⟨y,u,rfl,rfl⟩
   ·rw[nB]at h;exact wpAny_eqBool_int h
   ·rw[pB]at h;exact SeqAt.EqAt.int_str i t y u _ _ _ _ h
  ·rcases YQ hv with⟨j,u,rfl,rfl⟩|⟨y,u,rfl,rfl⟩
   ·rw[qB]at h;exact SeqAt.EqAt.str_int x t j u _ _ _ _ h
   ·rw[oB]at h;exact wpAny_eqBool_str h
 «strs»:=λk x t v h=>by
  rcases YQ h with⟨i,u,rfl,e⟩|⟨y,u,rfl,e⟩
  ·exact nomatch e
  ·injection e with e1 _
   subst e1
   cases v<;>rfl
theorem ZU(prog:Program)(w:World)(i:Int)(t:Tok):(TQ prog w).is (.inl i) (.int i t)=true:=Gq i t
theorem aH(prog:Program)(w:World)(x:Str)(t:Tok):(TQ prog w).is (.inr x) (.str x t)=true:=Hq x t
inductive V where
 | non|bl (b:Bool)|int (i:Int)|str (x:Str)|byt (b:Array UInt8)|flt (b:UInt64)|ref (a:Addr)|ty (n:String)
 deriving DecidableEq
noncomputable def RelV:V->Value->Prop
 | .non,u=>u=x6
 | .bl b,u=>u=O9 b
 | .int i,u=>∃t,u=Value.int i t
 | .str x,u=>∃t,u=Value.str x t
 | .byt b,u=>∃t,u=Value.bytes b t
 | .flt b,u=>∃t,u=Value.float b t
 | .ref a,u=>u=U1 a
 | .ty n,u=>u=G6 n
noncomputable abbrev Vals:List V->List Value->Prop:=Paired RelV
theorem Vals.length{xs:List V}{us:List Value}(r:Vals xs us):xs.length=us.length:=Paired.length r
theorem Vals.get:∀{xs:List V}{us:List Value}{i:Nat}{x:V},Vals xs us->xs[i]?=some x->∃u,us[i]?=some u/\RelV x u
 | _,_,_,_,.nil,e=>by simp at e
 | _,_,0,_,.cons r _,e=>by simp at e;subst e;exact ⟨_,rfl,r⟩
 | _,_,i+1,x,.cons _ t,e=>by
  obtain⟨u,h1,h2⟩:=Vals.get (i:=i) (x:=x) t (by simpa using e)
  exact ⟨u,by simpa using h1,h2⟩
theorem Vals.set{x:V}{u:Value}(r:RelV x u):∀{xs:List V}{us:List Value} (i:Nat),Vals xs us->Vals (xs.set i x) (us.set i u)
 | _,_,_,.nil=>.nil
 | _,_,0,.cons _ t=>.cons r t
 | _,_,i+1,.cons q t=>.cons q (Vals.set r i t)
theorem Vals.append:∀{xs ys:List V}{us ws:List Value},Vals xs us->Vals ys ws->Vals (xs++ys) (us++ws)
 | _,_,_,_,.nil,s=>s
 | _,_,_,_,.cons r t,s=>.cons r (Vals.append t s)
theorem Vals.take:∀{xs:List V}{us:List Value} (n:Nat),Vals xs us->Vals (xs.take n) (us.take n)
 | _,_,0,_=>.nil
 | _,_,_+1,.nil=>.nil
 | _,_,n+1,.cons r t=>.cons r (Vals.take n t)
theorem Vals.drop:∀{xs:List V}{us:List Value} (n:Nat),Vals xs us->Vals (xs.drop n) (us.drop n)
 | _,_,0,r=>r
 | _,_,_+1,.nil=>.nil
 | _,_,n+1,.cons _ t=>Vals.drop n t
theorem Vals.none_of:∀{xs:List V}{us:List Value}{i:Nat},Vals xs us->xs[i]?=none->us[i]?=none:=λ{xs us i} r e=>by
 have h1:=r.length
 have h2:xs.length<=i:=M4.mp e
 exact M4.mpr (by omega)
noncomputable def RelO:Option V->Option Value->Prop
 | some v,some u=>RelV v u
 | none,none=>True
 | _,_=>False
noncomputable def KV{κ:Type}:List (κ×V)->List (κ×Value)->Prop:=Paired λ(p:κ×V) (q:κ×Value)=>p.1=q.1/\RelV p.2 q.2
noncomputable def kV:GQ->V
 | .inl i=>.int i
 | .inr x=>.str x
inductive HO where
 | lst (xs:List V)
 | tup (xs:List V)
 | dK (kvs:List (GQ×V))|dT (kvs:List (List GQ×V))
 | set (S:Int->Bool) (n:Nat)
 | ins (C dx:Addr) (fs:List (Str×V))
 | own (x:Addr)
 | xd (fs:List (Str×V))
 | met (f x:Addr)
 | rng (lo hi:Int)
 | frz (o:Obj) (u:HO)
 | tbl (ps:Array Value)
 | ext (φ:Heap->Prop)
noncomputable abbrev Hp:=Addr->Option HO
noncomputable def HQ(H:Hp)(a:Addr)(o:HO):Hp:=λb=>if b=a then some o else H b
theorem iQ{H:Hp}{a:Addr}{o:HO}:HQ H a o a=some o:=by unfold HQ;rw[if_pos rfl]
theorem cQ{H:Hp}{a b:Addr}{o:HO}(h:b≠a):HQ H a o b=H b:=by unfold HQ;rw[if_neg h]
theorem Ww{H:Hp}{a:Addr}{o u:HO}:HQ (HQ H a o) a u=HQ H a u:=by
 funext b;unfold HQ;split<;>rfl
theorem yI{H:Hp}{a b:Addr}{o u:HO}(h:H a=some o)(h':H b=some u)(d:o≠u):a≠b:=by
 intro e;subst e;rw[h]at h';exact d (S1 h')
theorem jQ{H:Hp}{a b:Addr}{o:HO}(h:H a=some o)(h':H b=none):a≠b:=by
 intro e;subst e;rw[h]at h';cases h'
noncomputable def IsTupD(h:Heap)(a:Addr)(items:Array Value):Prop:=∃o,h.get? a=some o/\o.cls=.type "tuple"/\∃n,o.data=.seq items n/\o.dict=none
theorem IsTupD.t{h:Heap}{a:Addr}{items:Array Value}:IsTupD h a items->IsTup h a items:=λ⟨o,e,c,n,d,_⟩=>⟨o,e,c,n,d⟩
theorem IsTupD.new(h:Heap)(items:Array Value):IsTupD (h.push { cls:=.type "tuple",data:=.seq items }) h.objs.size items:=⟨_,J0 _ rfl,rfl,_,rfl,rfl⟩
section
variable (P:Program)(w:World)
noncomputable def ObjOk(H:Hp)(h:Heap)(a:Addr):HO->Prop
 | .lst xs=>xs.length<=sizeLine/\∃(its:List Value) (n:Nat),Vals xs its/\h.get? a=some { cls:=.type "list",data:=.seq its.toArray n }
 | .tup xs=>xs.length<=sizeLine/\∃its:List Value,Vals xs its/\IsTupD h a its.toArray
 | .dK kvs=>kvs.length<=sizeLine/\(a==sysModules)=false/\∃vs,KV kvs vs/\h.DictOf (TQ P w) a vs
 | .dT kvs=>kvs.length<=sizeLine/\(a==sysModules)=false/\∃xs:List (List GQ×Addr×Value),
   Paired (λ(p:List GQ×V) (q:List GQ×Addr×Value)=>p.1=q.1/\H q.2.1=some (.tup (p.1.map kV))/\RelV p.2 q.2.2) kvs xs /\
   ∃o es ep,h.get? a=some o/\o.ExactDict/\o.data=.dict es ep/\es.toList=xs.map (entryOfKey (tupleKind (TQ P w)))/\(xs.map (·.1)).Nodup
 | .set S n=>h.SetOf (intKind P w) a S n
 | .ins C dx fs=>H dx=some (.own a)/\fs.length<=1000/\dx≠a/\h.get? a=some (N9 C dx) /\
   ∃mA,h.Ns1 dx mA/\(∀f,RelO (fs.lookup f) (mA f))/\PySem.Within mA (fs.map (·.1))
 | .own _=>∃o,h.get? a=some o
 | .xd fs=>∃mA,h.Ns1 a mA/\∀f,RelO (fs.lookup f) (mA f)
 | .rng lo hi=>∃t u v,h.get? a=some { cls:=.type "range",data:=.fields #[.int lo t,.int hi u,.int 1 v] }
 | .frz o u=>h.get? a=some o/\ObjOk H h a u
 | .tbl ps=>h.get? a=some { cls:=.none,data:=.fields ps }
 | .met f x=>h.get? a=some (b8 (.ref f) (.ref x))
 | .ext φ=>φ h/\(∃o,h.get? a=some o)/\∀h1 h2:Heap,φ h1->(∀o,h1.get? a=some o->h2.get? a=some o)->φ h2
noncomputable def HOk(H:Hp)(h:Heap):Prop:=∀a o,H a=some o->ObjOk P w H h a o
end
section
variable {P:Program}{w:World}{H H':Hp}{h h':Heap}{a:Addr}{o:HO}
theorem ObjOk.lt(x:ObjOk P w H h a o):a < h.objs.size:=by
 cases o with
 | lst xs=>obtain⟨_,_,_,_,e⟩:=x;exact B0 e
 | tup xs=>obtain⟨_,_,_,p⟩:=x;exact p.t.lt
 | dK kvs=>obtain⟨_,_,_,_,o,_,_,e,_⟩:=x;exact B0 e
 | dT kvs=>obtain⟨_,_,_,_,o,_,_,e,_⟩:=x;exact B0 e
 | set S n=>obtain⟨o,_,_,_,e,_⟩:=x;exact B0 e
 | ins C dx fs=>obtain⟨_,_,_,e,_⟩:=x;exact B0 e
 | own y=>obtain⟨_,e⟩:=x;exact B0 e
 | xd fs=>obtain⟨_,⟨_,_,_,e,_⟩,_⟩:=x;exact B0 e
 | rng lo hi=>obtain⟨_,_,_,e⟩:=x;exact B0 e
 | frz ob u=>obtain⟨e,_⟩:=x;exact B0 e
 | tbl ps=>exact B0 (show h.get? a=some _ from x)
 | met f y=>exact B0 (show h.get? a=some _ from x)
 | ext φ=>obtain⟨_,⟨_,e⟩,_⟩:=x;exact B0 e
theorem Paired.mapP{α β:Type}{F G:α->β->Prop}:∀{l₁:List α}{l₂:List β},Paired F l₁ l₂->(∀a b,F a b->G a b)->Paired G l₁ l₂
 | _,_,.nil,_=>.nil
 | _,_,.cons r t,f=>.cons (f _ _ r) (Paired.mapP t f)
theorem ObjOk.stay(x:ObjOk P w H h a o)(k:∀b u,(b=a\/H b=some (.own a))->h.get? b=some u->h'.get? b=some u)
  (ho:∀b,H b=some (.own a)->H' b=some (.own a)) (ht:∀b xs,H b=some (.tup xs)->H' b=some (.tup xs)):ObjOk P w H' h' a o:=by
 induction o with
 | lst xs=>obtain⟨z,its,n,r,e⟩:=x;exact ⟨z,its,n,r,k _ _ (.inl rfl) e⟩
 | tup xs=>obtain⟨z,its,r,ob,e,c⟩:=x;exact ⟨z,its,r,ob,k _ _ (.inl rfl) e,c⟩
 | dK kvs=>obtain⟨z,y,vs,r,ob,es,ep,e,c⟩:=x;exact ⟨z,y,vs,r,ob,es,ep,k _ _ (.inl rfl) e,c⟩
 | dT kvs =>
  obtain⟨z,y,xs,r,ob,es,ep,e,c⟩:=x
  exact ⟨z,y,xs,Paired.mapP r λp q z=>⟨z.1,ht _ _ z.2.1,z.2.2⟩,ob,es,ep,k _ _ (.inl rfl) e,c⟩
 | set S n=>obtain⟨ob,es,ep,t,e,c⟩:=x;exact ⟨ob,es,ep,t,k _ _ (.inl rfl) e,c⟩
 | ins C dx fs =>
  obtain⟨d,z,ne,e,mA,⟨od,es,ep,e2,c⟩,r⟩:=x
  exact ⟨ho _ d,z,ne,k _ _ (.inl rfl) e,mA,⟨od,es,ep,k _ _ (.inr d) e2,c⟩,r⟩
 | own y=>obtain⟨ob,e⟩:=x;exact ⟨ob,k _ _ (.inl rfl) e⟩
 | xd fs=>obtain⟨mA,⟨od,es,ep,e,c⟩,r⟩:=x;exact ⟨mA,⟨od,es,ep,k _ _ (.inl rfl) e,c⟩,r⟩
 | rng lo hi=>obtain⟨t,u,v,e⟩:=x;exact ⟨t,u,v,k _ _ (.inl rfl) e⟩
 | frz ob u ih=>obtain⟨e,q⟩:=x;exact ⟨k _ _ (.inl rfl) e,ih q⟩
 | tbl ps =>
  have e:h.get? a=some { cls:=.none,data:=.fields ps }:=x
  show h'.get? a=some { cls:=.none,data:=.fields ps }
  exact k a _ (.inl rfl) e
 | met f y =>
  have e:h.get? a=some (b8 (.ref f) (.ref y)):=x
  show h'.get? a=some (b8 (.ref f) (.ref y))
  exact k a _ (.inl rfl) e
 | ext φ=>obtain⟨p,⟨o,e⟩,st⟩:=x;exact ⟨st _ _ p λo q=>k _ _ (.inl rfl) q,⟨o,k _ _ (.inl rfl) e⟩,st⟩
theorem HOk.lt(x:HOk P w H h)(e:H a=some o):a < h.objs.size:=(x a o e).lt
theorem HOk.fresh(x:HOk P w H h)(e:h.objs.size<=a):H a=none:=by
 cases q:H a with
 | none=>rfl
 | some u=>exact absurd (N0 (x.lt q) e) (A3 _)
theorem HOk.kept(x:HOk P w H h)(k:∀b u,h.get? b=some u->h'.get? b=some u):HOk P w H h':=λa o e =>
 (x a o e).stay (λb u _ q=>k b u q) (λ_ q=>q) λ_ _ q=>q
theorem HOk.laid(x:HOk P w H h)(k:∀b u,h.get? b=some u->h'.get? b=some u)(hp:h.objs.size<=a)(new:ObjOk P w (HQ H a o) h' a o):HOk P w (HQ H a o) h':=λb u e=>by
 have hn:=x.fresh hp
 by_cases hb:b=a
 ·subst hb;rw[iQ]at e;cases e;exact new
 ·rw[cQ hb]at e
  exact (x b u e).stay (λc v _ q=>k c v q) (λc q=>by rw[cQ (jQ q hn)];exact q) λc xs q=>by rw[cQ (jQ q hn)];exact q
end
noncomputable def Rd(H:Hp)(a:Addr)(u:HO):Prop:=H a=some u\/∃o,H a=some (.frz o u)
theorem Rd.ok{P:Program}{w:World}{H:Hp}{h:Heap}{a:Addr}{u:HO}(r:Rd H a u)(x:HOk P w H h):ObjOk P w H h a u:=by
 rcases r with r|⟨o,r⟩
 ·exact x a u r
 ·obtain⟨_,q⟩:=x a _ r
  exact q
noncomputable def AI:Option HO->Prop
 | some (.lst _)=>True
 | some (.dK _)=>True
 | some (.dT _)=>True
 | some (.set _ _)=>True
 | some (.ins _ _ _)=>True
 | some (.ext _)=>True
 | _=>False
section
variable {P:Program}{w:World}{H:Hp}{h h':Heap}{x e:Addr}{o':HO}
theorem HOk.write(ok:HOk P w H h)(mu:AI (H x))(he:e=x\/H e=some (.own x))(k:∀b u,b≠e->h.get? b=some u->h'.get? b=some u)(heo:∃u,h'.get? e=some u)
  (new:ObjOk P w (HQ H x o') h' x o'):HOk P w (HQ H x o') h':=λb u q=>by
 have nown:∀c y,H c=some (.own y)->c≠x:=λc y r z=>by subst z;rw[r]at mu;exact mu
 have ntup:∀c xs,H c=some (.tup xs)->c≠x:=λc xs r z=>by subst z;rw[r]at mu;exact mu
 by_cases hb:b=x
 ·subst hb;rw[iQ]at q;cases q;exact new
 ·rw[cQ hb]at q
  by_cases hbe:b=e
  ·have q':H b=some (.own x):=by
    rcases he with z|z
    ·exact absurd (hbe.trans z) hb
    ·rw[hbe];exact z
   rw[q]at q';cases q'
   obtain⟨v,hv⟩:=heo
   exact ⟨v,by rw[hbe];exact hv⟩
  ·refine (ok b u q).stay (λc v hc r=>k c v ?_ r) (λc r=>by rw[cQ (nown c b r)];exact r) λc xs r=>by rw[cQ (ntup c xs r)];exact r
   rcases hc with rfl|hc
   ·exact hbe
   ·rintro rfl
    rcases he with z|z
    ·exact nown c b hc z
    ·rw[hc]at z;cases z;exact hb rfl
end
structure Un(fs ex:List Addr)(H H':Hp)(h h':Heap):Prop where
 keep:∀b o,h.get? b=some o->H b=none->b∉fs->b∉ex->h'.get? b=some o
 slot:∀b o,h.get? b=some o->H b=none->b∈fs->b∉ex->∃sl,h'.get? b=some { o with slots:=sl }
 free:∀b o,h.get? b=some o->H b=none->b∉ex->H' b=none
 there:∀b o,h.get? b=some o->b∉ex->∃o',h'.get? b=some o'
 tups:∀b xs,H b=some (.tup xs)->H' b=some (.tup xs)
 frzs:∀b o u,H b=some (.frz o u)->H' b=some (.frz o u)
 tbls:∀b ps,H b=some (.tbl ps)->∃more,H' b=some (.tbl (ps++more))
section
variable {fs fs' ex ex':List Addr}{H H1 H2:Hp}{h h1 h2 h':Heap}{a x e:Addr}{o:HO}
theorem Un.any(u:Un fs ex H H1 h h1){b:Addr}{ob:Obj}(q:h.get? b=some ob)(n:H b=none)(hx:b∉ex):∃sl,h1.get? b=some { ob with slots:=sl }:=by
 by_cases hb:b∈fs
 ·exact u.slot b ob q n hb hx
 ·exact ⟨ob.slots,u.keep b ob q n hb hx⟩
theorem Un.kept(k:∀b u,h.get? b=some u->h'.get? b=some u):Un fs ex H H h h' :=
 ⟨λb ob q _ _ _=>k b ob q,λb ob q _ _ _=>⟨ob.slots,k b ob q⟩,λ_ _ _ n _=>n,λb ob q _=>⟨ob,k b ob q⟩,λ_ _ q=>q,λ_ _ _ q=>q,λ_ ps q=>⟨#[],by rw[q];simp⟩⟩
theorem Un.refl:Un fs ex H H h h:=Un.kept λ_ _ q=>q
theorem Un.laid(k:∀b u,h.get? b=some u->h'.get? b=some u)(hp:h.objs.size<=a)(hn:H a=none):Un fs ex H (HQ H a o) h h' where
 keep:=λb u q _ _ _=>k b u q
 slot:=λb u q _ _ _=>⟨u.slots,k b u q⟩
 free:=λb u q n _=>by rw[cQ (R0 (N0 (B0 q) hp))];exact n
 there:=λb u q _=>⟨u,k b u q⟩
 tups:=λb xs q=>by rw[cQ (jQ q hn)];exact q
 frzs:=λb u xs q=>by rw[cQ (jQ q hn)];exact q
 tbls:=λb ps q=>⟨#[],by rw[cQ (jQ q hn),q];simp⟩
theorem Un.write(mu:AI (H x))(he:e=x\/H e=some (.own x))(k:∀b u,b≠e->h.get? b=some u->h'.get? b=some u)(heo:∃u,h'.get? e=some u):Un fs ex H (HQ H x o) h h':=by
 have hx:∀b,H b=none->b≠x:=λb n z=>by subst z;rw[n]at mu;exact mu
 have hb:∀b,H b=none->b≠e:=λb n z=>by
  subst z
  rcases he with r|r
  ·exact hx b n r
  ·rw[n]at r;cases r
 have hm:∀b u,H b=some u->¬AI (some u)->b≠x:=λb u q nm z=>by subst z;rw[q]at mu;exact nm mu
 refine ⟨λb u q n _ _=>k b u (hb b n) q,λb u q n _ _=>⟨u.slots,k b u (hb b n) q⟩,λb u q n _=>by rw[cQ (hx b n)];exact n,λb u q _=>?_,
   λb xs q=>by rw[cQ (hm b _ q λz=>z)];exact q,λb u xs q=>by rw[cQ (hm b _ q λz=>z)];exact q,λb ps q=>⟨#[],by rw[cQ (hm b _ q λz=>z),q];simp⟩⟩
 by_cases hbe:b=e
 ·subst hbe;exact heo
 ·exact ⟨u,k b u hbe q⟩
end
noncomputable def QM(h:Heap)(H:Hp):List Addr:=(V0 h.objs.size).filter λa=>(H a).isSome
noncomputable def hU(h:Heap)(H:Hp):Heap:=PySem.W.hideAll h (QM h H)
theorem Iq(h:Heap)(H:Hp):(hU h H).objs.size=h.objs.size:=PySem.W.hideAll_size _ _
theorem fj{h:Heap}{H:Hp}{b:Addr}{o:Obj}(e:h.get? b=some o)(n:H b=none):(hU h H).get? b=some o :=
 PySem.W.hideAll_get _ e λhm=>by
  have q:(H b).isSome=true:=(P3.mp hm).2
  rw[n]at q;simp at q
theorem Xw{h:Heap}{H:Hp}{b:Addr}{o:Obj}(e:(hU h H).get? b=some o):h.get? b=some o/\H b=none:=by
 have e':h.get? b=some o:=PySem.W.of_hideAll (QM h H) e
 refine ⟨e',?_⟩
 cases q:H b with
 | none=>rfl
 | some x =>
  have hm:b∈QM h H:=P3.mpr ⟨B3.mpr (B0 e'),by simp[q]⟩
  have z:(hU h H).get? b=none:=PySem.W.hideAll_none (QM h H) hm
  rw[z]at e;cases e
noncomputable def Yw(g h:Heap)(L:Addr):List (Addr×Obj):=(V0 h.objs.size).filterMap λa=>if a=L\/(g.get? a).isSome=true then none else (h.get? a).map λo=>(a,o)
noncomputable def rest(g h:Heap)(L d:Addr):List (Addr×Obj):=(Yw g h L).filter λp=>decide (p.1≠d)
structure Mod(K:q0)(mg:Str->Option Value)(base:Heap):Prop where
 kin:K.In base
 glob:base.Ns mainGlobals mg
 blt:∃mb,base.Ns builtinsNs mb/\∀x:Str,x ≠ "__name__"->mb x=bootBuiltins x
 nolimit:base.NoLimit
structure Cx where
 prog:Program
 w:World
 K:q0
 mg:Str->Option Value
 base:Heap
 A:Around
 N:List Str
 s₀:Shared
 H₀:Hp
 env:Env
 outer:List Env
 stack:List Env
 ex:List Addr
 fn:Str->Bool
 calm:Bool
 pn:List (Addr×Obj)
 xe:Value->Shared->Prop
noncomputable def XF(l:List Env):List Addr:=l.filterMap (·.frame)
noncomputable abbrev Cx.fs(X:Cx):List Addr:=XF X.outer
noncomputable def qI(sc:Scope)(x:Str):Prop:=sc.names.lookup x=some .local\/sc.names.lookup x=some .cell\/sc.names.lookup x=some .free
noncomputable def rB(sc:Scope)(x:Str):Prop:=sc.names.lookup x=some .local\/sc.names.lookup x=some .cell
noncomputable def xN(env:Env)(h:Heap)(m:Str->Option Value)(x:Str)(u:Value):Prop :=
 (env.kindOf x=some .local/\m x=some u)\/((env.kindOf x=some .cell\/env.kindOf x=some .free)/\∃c,env.cells.lookup x=some c/\h.IsCell c (some u))
structure Cx.Ok(X:Cx):Prop where
 mod:Mod X.K X.mg X.base
 kind:X.env.scope.kind=.function
 glob:X.env.globals=mainGlobals
 blt:X.env.builtins=builtinsNs
 above:X.s₀.heap.objs.size<=X.env.locals
 inj:∀x y c,X.env.cells.lookup x=some c->X.env.cells.lookup y=some c->x=y
 has:∀x,(X.env.kindOf x=some .cell\/X.env.kindOf x=some .free)->∃c,X.env.cells.lookup x=some c
 cab:∀x c,X.fn x=true->X.env.cells.lookup x=some c->X.s₀.heap.objs.size<=c
 hd:X.calm=true->X.A.handled=none
 frames:X.A.frames=some X.stack
 stk:X.stack=X.outer\/(X.stack=X.env :: X.outer/\X.env.frame=some X.env.locals)
 exf:∀b∈X.ex,b≠X.env.locals/\∀x c,X.env.cells.lookup x=some c->c≠b
 bs:∀b o,X.base.get? b=some o->X.s₀.heap.get? b=some o/\X.H₀ b=none
 bsz:X.base.objs.size<=X.s₀.heap.objs.size
 noex:∀b o,X.base.get? b=some o->b∉X.ex
 exfs:∀b∈X.ex,b∉X.fs
 funs:X.s₀.heap.FunFrames X.base X.outer
 frf:∀b∈X.fs,X.H₀ b=none
structure Inv(X:Cx)(pins:List (Addr×Obj))(σ:List (Option V))(H:Hp)(s:Shared):Prop where
 ok:X.Ok
 os:s.os=X.s₀.os
 bare:AllBare s.gens
 base:Un X.fs X.ex X.H₀ H X.s₀.heap s.heap
 loc:∃m,s.heap.Ns X.env.locals m/\∀(i:Nat) (x:Str) (v:V),X.N[i]?=some x->σ[i]?=some (some v)->qI X.env.scope x->∃u,RelV v u/\xN X.env s.heap m x u
 cell:∀x c,X.env.cells.lookup x=some c->∃v,s.heap.IsCell c v
 free:H X.env.locals=none
 freeC:∀x c,X.env.cells.lookup x=some c->H c=none
 pin:∀p∈X.pn++pins,s.heap.get? p.1=some p.2/\H p.1=none/\p.1≠X.env.locals/\p.1∉X.fs/\∀v,p.2.data≠.cell v
 hok:HOk X.prog X.w H s.heap
 len:σ.length=X.N.length
section
variable {X:Cx}{pins:List (Addr×Obj)}{σ:List (Option V)}{H H':Hp}{s:Shared}{h':Heap}
theorem Cx.Ok.nofr(ok:X.Ok){b:Addr}{o:Obj}(e:X.base.get? b=some o):b∉X.fs:=λhb=>by
 have:=(ok.funs.mem hb).1
 rw[e]at this;cases this
theorem Inv.bs(I:Inv X pins σ H s):∀b o,X.base.get? b=some o->s.heap.get? b=some o/\H b=none:=λb o e =>
 ⟨I.base.keep b o (I.ok.bs b o e).1 (I.ok.bs b o e).2 (I.ok.nofr e) (I.ok.noex b o e),I.base.free b o (I.ok.bs b o e).1 (I.ok.bs b o e).2 (I.ok.noex b o e)⟩
theorem Inv.bk(I:Inv X pins σ H s):∀b o,X.base.get? b=some o->s.heap.get? b=some o:=λb o e=>(I.bs b o e).1
theorem Inv.mod(I:Inv X pins σ H s):Mod X.K X.mg X.base:=I.ok.mod
theorem Inv.kIn(I:Inv X pins σ H s):X.K.In s.heap:=I.ok.mod.kin.keeps I.bk
theorem Inv.lt(I:Inv X pins σ H s):X.env.locals < s.heap.objs.size:=let ⟨_,hn,_⟩:=I.loc;hn.lt
theorem Inv.sz(I:Inv X pins σ H s):X.s₀.heap.objs.size<=s.heap.objs.size:=A1 I.ok.above (j5 I.lt)
theorem Inv.nofs(I:Inv X pins σ H s){a:Addr}(h:s.heap.objs.size<=a):a∉X.fs:=λhb=>by
 obtain⟨_,o,ho,_⟩:=I.ok.funs.mem hb
 exact absurd (N0 (B0 ho) (A1 I.sz h)) (A3 _)
theorem Inv.cne(I:Inv X pins σ H s):∀x c,X.env.cells.lookup x=some c->c≠X.env.locals:=λx c e z=>by
 obtain⟨v,o,ho,hd⟩:=I.cell x c e
 obtain⟨m,⟨o',es,ep,ho',hd',_⟩,_⟩:=I.loc
 rw[z,ho']at ho;cases ho;rw[hd']at hd;cases hd
theorem Inv.funs(I:Inv X pins σ H s):s.heap.FunFrames X.base X.outer:=by
 have all:∀(l:List Env),(∀b∈XF l,b∈X.fs)->X.s₀.heap.FunFrames X.base l->s.heap.FunFrames X.base l:=by
  intro l
  induction l with
  | nil=>intro _ _;trivial
  | cons env r ih =>
   intro hs hl
   obtain⟨hk,⟨L,o,hf,hn,ho,hd⟩,hr⟩:=hl
   have hL:L∈X.fs:=hs L (by unfold XF;rw[M7,hf];exact A0)
   obtain⟨sl,e⟩:=I.base.slot L o ho (I.ok.frf L hL) hL λz=>I.ok.exfs L z hL
   exact ⟨hk,⟨L,_,hf,hn,e,hd⟩,ih (λb hb=>hs b (by unfold XF;rw[M7,hf];exact u0 _ hb)) hr⟩
 exact all X.outer (λ_ hb=>hb) I.ok.funs
theorem Inv.stack(I:Inv X pins σ H s):s.heap.FunFrames X.base X.stack:=by
 rcases I.ok.stk with e|⟨e,hf⟩
 ·rw[e];exact I.funs
 ·rw[e]
  obtain⟨m,hn,_⟩:=I.loc
  refine .cons (by rw[I.ok.kind];decide) hf hn ?_ I.funs
  exact Heap.get?_none_of_le (A1 I.ok.bsz I.ok.above)
theorem Inv.stkSub(I:Inv X pins σ H s):∀b∈XF X.stack,b∈X.env.locals :: X.fs:=λb hb=>by
 rcases I.ok.stk with e|⟨e,hf⟩
 ·rw[e]at hb;exact u0 _ hb
 ·rw[e]at hb
  unfold XF at hb
  rw[M7,hf]at hb
  exact hb
theorem Inv.stkFree(I:Inv X pins σ H s):∀b∈XF X.stack,H b=none:=λb hb=>by
 rcases B2.mp (I.stkSub b hb) with e|hb
 ·rw[e];exact I.free
 ·obtain⟨_,o,ho,_⟩:=I.ok.funs.mem hb
  exact I.base.free b o ho (I.ok.frf b hb) λz=>I.ok.exfs b z hb
theorem Inv.step{g':Array GenState}{t':Nat}{d':Drawn}{ch:List Addr}(I:Inv X pins σ H s)
  (hch:∀b∈ch,(b∈X.ex\/X.s₀.heap.objs.size<=b)/\b≠X.env.locals/\(∀x c,X.env.cells.lookup x=some c->c≠b)/\∀p∈X.pn++pins,p.1≠b)
  (keep:∀b o,b≠X.env.locals->b∉X.fs->b∉ch->s.heap.get? b=some o->H b=none->h'.get? b=some o)
  (slot:∀b o,b≠X.env.locals->b∈X.fs->b∉ch->s.heap.get? b=some o->H b=none->∃sl,h'.get? b=some { o with slots:=sl }) (free:∀b o,b∉ch->s.heap.get? b=some o->H b=none->H' b=none)
  (there:∀b o,b∉ch->s.heap.get? b=some o->∃o',h'.get? b=some o')
  (tups:∀b xs,H b=some (.tup xs)->H' b=some (.tup xs)) (frzs:∀b o u,H b=some (.frz o u)->H' b=some (.frz o u)) (tbls:∀b ps,H b=some (.tbl ps)->∃more,H' b=some (.tbl (ps++more)))
  (ns:∀m,s.heap.Ns X.env.locals m->h'.Ns X.env.locals m) (hok:HOk X.prog X.w H' h') (hg:AllBare g') :
  Inv X pins σ H' { s with heap:=h',gens:=g',drawn:=d',toks:=t' }:=by
 have neL:∀b o,X.s₀.heap.get? b=some o->b≠X.env.locals:=λb o e=>R0 (N0 (B0 e) I.ok.above)
 have neC:∀b o,X.s₀.heap.get? b=some o->b∉X.ex->b∉ch:=λb o e hx hb=>by
  rcases (hch b hb).1 with z|z
  ·exact hx z
  ·exact absurd (N0 (B0 e) z) (A3 _)
 have cellK:∀x c,X.env.cells.lookup x=some c->∀v,s.heap.IsCell c v->h'.IsCell c v:=λx c e v ⟨o,ho,hd⟩=>by
  have nch:c∉ch:=λz=>(hch c z).2.2.1 x c e rfl
  by_cases hc:c∈X.fs
  ·obtain⟨sl,q⟩:=slot c o (I.cne x c e) hc nch ho (I.freeC x c e)
   exact ⟨_,q,hd⟩
  ·exact ⟨o,keep c o (I.cne x c e) hc nch ho (I.freeC x c e),hd⟩
 refine ⟨I.ok,I.os,hg,⟨λb o e n hb hx=>?_,λb o e n hb hx=>?_,λb o e n hx=>?_,λb o e hx=>?_,λb xs e=>tups b xs (I.base.tups b xs e),λb o xs e=>frzs b o xs (I.base.frzs b o xs e),λb ps e=>?_⟩,?_,λx c e=>?_,?_,λx c e=>?_,λp hp=>?_,hok,I.len⟩
 ·exact keep b o (neL b o e) hb (neC b o e hx) (I.base.keep b o e n hb hx) (I.base.free b o e n hx)
 ·obtain⟨sl,e1⟩:=I.base.slot b o e n hb hx
  obtain⟨sl',e2⟩:=slot b _ (neL b o e) hb (neC b o e hx) e1 (I.base.free b o e n hx)
  exact ⟨sl',e2⟩
 ·obtain⟨o',e1⟩:=I.base.there b o e hx
  exact free b o' (neC b o e hx) e1 (I.base.free b o e n hx)
 ·obtain⟨o',e1⟩:=I.base.there b o e hx
  exact there b o' (neC b o e hx) e1
 ·obtain⟨m1,e1⟩:=I.base.tbls b ps e
  obtain⟨m2,e2⟩:=tbls b _ e1
  exact ⟨m1++m2,by rw[e2,Array.append_assoc]⟩
 ·obtain⟨m,hn,hl⟩:=I.loc
  refine ⟨m,ns m hn,λi x v e1 e2 e3=>?_⟩
  obtain⟨u,r,l⟩:=hl i x v e1 e2 e3
  refine ⟨u,r,?_⟩
  rcases l with l|⟨k,c,e,z⟩
  ·exact .inl l
  ·exact .inr ⟨k,c,e,cellK x c e _ z⟩
 ·obtain⟨v,z⟩:=I.cell x c e
  exact ⟨v,cellK x c e v z⟩
 ·obtain⟨m,⟨o,_,_,ho,_⟩,_⟩:=I.loc
  exact free _ o (λz=>(hch _ z).2.1 rfl) ho I.free
 ·obtain⟨v,o,ho,hd⟩:=I.cell x c e
  exact free c o (λz=>(hch c z).2.2.1 x c e rfl) ho (I.freeC x c e)
 ·obtain⟨e,n,ne,nf,d⟩:=I.pin p hp
  have nch:p.1∉ch:=λz=>(hch p.1 z).2.2.2 p hp rfl
  exact ⟨keep p.1 p.2 ne nf nch e n,free p.1 p.2 nch e n,ne,nf,d⟩
theorem Inv.un{t':Nat}(I:Inv X pins σ H s)(u:Un X.fs [] H H' s.heap h')(hok:HOk X.prog X.w H' h'):Inv X pins σ H' { s with heap:=h',toks:=t' }:=by
 obtain⟨m,⟨o,es,ep,ho,r⟩,_⟩:=id I.loc
 obtain⟨sl,hL⟩:=u.any ho I.free (by simp)
 exact I.step (g':=s.gens) (d':=s.drawn) (ch:=[]) (λ_ z=>nomatch z) (λb o _ hb _ e n=>u.keep b o e n hb (by simp)) (λb o _ hb _ e n=>u.slot b o e n hb (by simp)) (λb o _ e n=>u.free b o e n (by simp)) (λb o _ e=>u.there b o e (by simp)) u.tups u.frzs u.tbls (λm' hm=>by
   obtain⟨o',es',ep',ho',r'⟩:=hm
   rw[ho]at ho';cases ho'
   exact ⟨_,es',ep',hL,r'⟩) hok I.bare
theorem Inv.call{g':Array GenState}{t':Nat}{d':Drawn}{ch:List Addr}(I:Inv X pins σ H s)(u:Un (XF X.stack) ch H H' s.heap h')(hok:HOk X.prog X.w H' h')(hg:AllBare g')
  (hch:∀b∈ch,(b∈X.ex\/X.s₀.heap.objs.size<=b)/\b≠X.env.locals/\(∀x c,X.env.cells.lookup x=some c->c≠b)/\∀p∈X.pn++pins,p.1≠b) :
  Inv X pins σ H' { s with heap:=h',gens:=g',drawn:=d',toks:=t' }:=by
 obtain⟨m,⟨o,es,ep,ho,r⟩,_⟩:=id I.loc
 obtain⟨sl,hL⟩:=u.any ho I.free λz=>(hch _ z).2.1 rfl
 exact I.step (ch:=ch) hch (λb o hL hb hc e n=>u.keep b o e n (λz=>(B2.mp (I.stkSub b z)).elim hL hb) hc) (λb o _ _ hc e n=>u.any e n hc) (λb o hc e n=>u.free b o e n hc) (λb o hc e=>u.there b o e hc) u.tups u.frzs u.tbls (λm' hm=>by
   obtain⟨o',es',ep',ho',r'⟩:=hm
   rw[ho]at ho';cases ho'
   exact ⟨_,es',ep',hL,r'⟩) hok hg
theorem Inv.turned{t':Nat}{it:Addr}(I:Inv X pins σ H s)(k:∀b o,b≠it->s.heap.get? b=some o->h'.get? b=some o)(hn:H it=none)(hL:it≠X.env.locals)
  (h1:it∈X.ex\/X.s₀.heap.objs.size<=it) (h2:∀x c,X.env.cells.lookup x=some c->c≠it) (h3:∀p∈X.pn++pins,p.1≠it):Inv X pins σ H { s with heap:=h',toks:=t' }:=by
 have nit:∀b u,H b=some u->b≠it:=λb u e z=>by rw[z,hn]at e;cases e
 refine I.step (g':=s.gens) (d':=s.drawn) (ch:=[it]) (λb hb=>?_) (λb o _ _ hc e _=>k b o (λz=>hc (by simp[z])) e) (λb o _ _ hc e _=>⟨o.slots,k b o (λz=>hc (by simp[z])) e⟩) (λ_ _ _ _ n=>n)
  (λb o hc e=>⟨o,k b o (λz=>hc (by simp[z])) e⟩) (λ_ _ e=>e) (λ_ _ _ e=>e) (λb ps e=>⟨#[],by rw[e];simp⟩) (λm hm=>?_) (λb u e=>?_) I.bare
 ·have e:b=it:=by simpa using hb
  subst e
  exact ⟨h1,hL,h2,h3⟩
 ·obtain⟨o,es,ep,ho,r⟩:=hm
  exact ⟨o,es,ep,k _ o (L1 hL) ho,r⟩
 ·refine (I.hok b u e).stay (λc v hc q=>k c v ?_ q) (λ_ q=>q) λ_ _ q=>q
  rcases hc with z|z
  ·rw[z];exact nit b u e
  ·exact nit c _ z
theorem Inv.tok(I:Inv X pins σ H s)(t:Nat):Inv X pins σ H { s with toks:=t }:=I.un (h':=s.heap) (t':=t) Un.refl I.hok
theorem Inv.kept{t':Nat}(I:Inv X pins σ H s)(k:∀b u,s.heap.get? b=some u->h'.get? b=some u):Inv X pins σ H { s with heap:=h',toks:=t' }:=I.un (Un.kept k) (I.hok.kept k)
theorem Inv.laid{a:Addr}{o:HO}{t':Nat}(I:Inv X pins σ H s)(k:∀b u,s.heap.get? b=some u->h'.get? b=some u)(hp:s.heap.objs.size<=a)(new:ObjOk X.prog X.w (HQ H a o) h' a o) :
  Inv X pins σ (HQ H a o) { s with heap:=h',toks:=t' }:=I.un (Un.laid k hp (I.hok.fresh hp)) (I.hok.laid k hp new)
theorem Inv.write{x e:Addr}{o:HO}{t':Nat}(I:Inv X pins σ H s)(mu:AI (H x))(he:e=x\/H e=some (.own x))(k:∀b u,b≠e->s.heap.get? b=some u->h'.get? b=some u)(heo:∃u,h'.get? e=some u)
  (new:ObjOk X.prog X.w (HQ H x o) h' x o):Inv X pins σ (HQ H x o) { s with heap:=h',toks:=t' }:=I.un (Un.write mu he k heo) (I.hok.write mu he k heo new)
theorem Inv.pins_of{pins':List (Addr×Obj)}(I:Inv X pins σ H s)(h:∀p∈pins',s.heap.get? p.1=some p.2/\H p.1=none/\p.1≠X.env.locals/\p.1∉X.fs/\∀v,p.2.data≠.cell v):Inv X pins' σ H s :=
 ⟨I.ok,I.os,I.bare,I.base,I.loc,I.cell,I.free,I.freeC,λp hp=>(O2.mp hp).elim (λz=>I.pin p (G7 _ z)) (h p),I.hok,I.len⟩
theorem bH{N:List Str}(hN:N.Nodup){i j:Nat}{x:Str}(a:N[i]?=some x)(b:N[j]?=some x):i=j:=by
 obtain⟨h1,e1⟩:=W0.mp a
 obtain⟨h2,e2⟩:=W0.mp b
 exact (List.getElem_inj hN).mp (e1.trans e2.symm)
theorem yV{M:Model}{A:Around}{E:Value->Shared->Prop}{i:Nat}{x:Str}{v:V}{u:Value}{Q:Unit->Shared->Prop}(I:Inv X pins σ H s)(hN:X.N.Nodup)(hi:X.N[i]?=some x)(hx:rB X.env.scope x)(r:RelV v u)
  (h:∀s',Inv X pins (σ.set i (some v)) H s'->(∃a,o5 a s.heap s'.heap/\(a=X.env.locals\/X.env.cells.lookup x=some a))->Q () s') (hf:X.fn x=true\/X.env.scope.names.lookup x=some .local:=by first|exact .inl rfl|exact .inr rfl|assumption):wpAny M A (storeName X.env x u) Q E s:=by
 obtain⟨m,hn,hl⟩:=id I.loc
 have hcls:(X.env.scope.kind==.class||(X.env.scope.kind==.module&&X.env.locals != X.env.globals))=false:=by rw[I.ok.kind];rfl
 have hiσ:i < σ.length:=by rw[I.len];exact (W0.mp hi).1
 have cne:=I.cne
 have tracked:∀{a:Addr}{h':Heap},(∃o,s.heap.get? a=some o/\H a=none)->o5 a s.heap h'->HOk X.prog X.w H h':=λ{a h'} ha hs b ob e=>by
  obtain⟨_,_,hfree⟩:=ha
  refine (I.hok b ob e).stay (λc w' hc q=>(hs.2 c ?_).trans q) (λ_ q=>q) λ_ _ q=>q
  rintro rfl
  rcases hc with rfl|hc
  ·rw[hfree]at e;cases e
  ·rw[hfree]at hc;cases hc
 rcases hx with hk|hk
 ·refine wpAny_storeName_local hk hn (λh' hn' hs=>?_) hcls
  obtain⟨oL,_,_,hoL,_⟩:=id hn
  refine h _ ⟨I.ok,I.os,I.bare,⟨λb o e n hb hx=>?_,λb o e n hb hx=>?_,I.base.free,λb o e hx=>?_,I.base.tups,I.base.frzs,I.base.tbls⟩,⟨_,hn',λj y v' e1 e2 e3=>?_⟩,λy c e=>?_,I.free,I.freeC,λp hp=>?_,tracked ⟨oL,hoL,I.free⟩ hs,by simpa using I.len⟩ ⟨_,hs,.inl rfl⟩
  ·exact (hs.2 b (R0 (N0 (B0 e) I.ok.above))).trans (I.base.keep b o e n hb hx)
  ·obtain⟨sl,e1⟩:=I.base.slot b o e n hb hx
   exact ⟨sl,(hs.2 b (R0 (N0 (B0 e) I.ok.above))).trans e1⟩
  ·obtain⟨o',e1⟩:=I.base.there b o e hx
   exact ⟨o',(hs.2 b (R0 (N0 (B0 e) I.ok.above))).trans e1⟩
  ·by_cases hj:j=i
   ·subst hj
    rw[hi]at e1;cases e1
    rw[Y6 hiσ]at e2
    cases e2
    exact ⟨u,r,.inl ⟨hk,by simp⟩⟩
   ·rw[O0 (L1 hj)]at e2
    obtain⟨u',r',q⟩:=hl j y v' e1 e2 e3
    refine ⟨u',r',?_⟩
    rcases q with⟨k,e⟩|⟨k,c,e,z⟩
    ·refine .inl ⟨k,?_⟩
     have:y≠x:=λe=>hj (bH hN e1 (e ▸ hi))
     simp[this,e]
    ·exact .inr ⟨k,c,e,z.sameBut hs (cne y c e)⟩
  ·obtain⟨w',z⟩:=I.cell y c e
   exact ⟨w',z.sameBut hs (cne y c e)⟩
  ·obtain⟨e,n,ne,nf,d⟩:=I.pin p hp
   exact ⟨(hs.2 p.1 ne).trans e,n,ne,nf,d⟩
 ·have hfn:X.fn x=true:=by
   rcases hf with z|z
   ·exact z
   ·rw[z]at hk;cases hk
  obtain⟨c,hc⟩:=I.ok.has x (.inl hk)
  obtain⟨w',z⟩:=I.cell x c hc
  refine wpAny_storeName_cell I.ok.kind hk hc z (λh' hc' hs=>?_)
  obtain⟨oc,hoc,hocd⟩:=id z
  refine h { s with heap:=h' } ⟨I.ok,I.os,I.bare,⟨λb o e n hb hx=>?_,λb o e n hb hx=>?_,I.base.free,λb o e hx=>?_,I.base.tups,I.base.frzs,I.base.tbls⟩,⟨m,hn.sameBut hs (L1 (cne x c hc)),λj y v' e1 e2 e3=>?_⟩,λy c' e=>?_,I.free,I.freeC,λp hp=>?_,tracked ⟨oc,hoc,I.freeC x c hc⟩ hs,by simpa using I.len⟩ ⟨c,hs,.inr hc⟩
  ·exact (hs.2 b (R0 (N0 (B0 e) (I.ok.cab x c hfn hc)))).trans (I.base.keep b o e n hb hx)
  ·obtain⟨sl,e1⟩:=I.base.slot b o e n hb hx
   exact ⟨sl,(hs.2 b (R0 (N0 (B0 e) (I.ok.cab x c hfn hc)))).trans e1⟩
  ·obtain⟨o',e1⟩:=I.base.there b o e hx
   exact ⟨o',(hs.2 b (R0 (N0 (B0 e) (I.ok.cab x c hfn hc)))).trans e1⟩
  ·by_cases hj:j=i
   ·subst hj
    rw[hi]at e1;cases e1
    rw[Y6 hiσ]at e2
    cases e2
    exact ⟨u,r,.inr ⟨.inl hk,c,hc,hc'⟩⟩
   ·rw[O0 (L1 hj)]at e2
    obtain⟨u',r',q⟩:=hl j y v' e1 e2 e3
    refine ⟨u',r',?_⟩
    rcases q with q|⟨k,c',e,z'⟩
    ·exact .inl q
    ·refine .inr ⟨k,c',e,z'.sameBut hs ?_⟩
     rintro rfl
     exact hj (bH hN e1 (I.ok.inj _ _ _ e hc ▸ hi))
  ·by_cases hcc:c'=c
   ·subst hcc;exact ⟨_,hc'⟩
   ·obtain⟨w2,z2⟩:=I.cell y c' e
    exact ⟨w2,z2.sameBut hs hcc⟩
  ·obtain⟨e,n,ne,nf,d⟩:=I.pin p hp
   refine ⟨(hs.2 p.1 ?_).trans e,n,ne,nf,d⟩
   intro q
   rw[q,hoc]at e
   have q':oc=p.2:=S1 e
   exact d w' (by rw[<- q'];exact hocd)
theorem cH{M:Model}{A:Around}{E:Value->Shared->Prop}{i:Nat}{x:Str}{v:V}{u:Value}{Q:Unit->Shared->Prop}(I:Inv X pins σ H s)(hN:X.N.Nodup)(hi:X.N[i]?=some x)(hx:rB X.env.scope x)(r:RelV v u)
  (h:∀s',Inv X pins (σ.set i (some v)) H s'->Q () s') (hf:X.fn x=true\/X.env.scope.names.lookup x=some .local:=by first|exact .inl rfl|exact .inr rfl|assumption):wpAny M A (storeName X.env x u) Q E s :=
 yV I hN hi hx r (λs' I' _=>h s' I') hf
theorem Inv.call'{s':Shared}{ch:List Addr}(I:Inv X pins σ H s)(ho:s'.os=s.os)(u:Un (XF X.stack) ch H H' s.heap s'.heap)(hok:HOk X.prog X.w H' s'.heap)(hg:AllBare s'.gens)
  (hch:∀b∈ch,(b∈X.ex\/X.s₀.heap.objs.size<=b)/\b≠X.env.locals/\(∀x c,X.env.cells.lookup x=some c->c≠b)/\∀p∈X.pn++pins,p.1≠b):Inv X pins σ H' s':=by
 obtain⟨h',g',d',t',o'⟩:=s'
 have e:o'=s.os:=ho
 subst e
 exact I.call (g':=g') (t':=t') (d':=d') u hok hg hch
end
noncomputable abbrev XK:=Value->Option Addr->Hp->Prop
noncomputable abbrev St:=List (Option V)
noncomputable abbrev VK:=V->Hp->Prop
noncomputable abbrev TE:=St->Hp->VK->Prop
noncomputable abbrev TT:=St->Hp->(Bool->Hp->Prop)->Prop
noncomputable abbrev TA:=St->Hp->(List V->Hp->Prop)->Prop
structure Ends where
 nx:St->Hp->Prop
 rt:VK
 bk:St->Hp->Prop:=λ_ _=>False
 ct:St->Hp->Prop:=λ_ _=>False
noncomputable abbrev TS:=Ends->St->Hp->Prop
noncomputable def EP(X:Cx)(pins:List (Addr×Obj))(σ:St)(Q:VK)(u:Value)(s':Shared):Prop:=∃v H',Inv X pins σ H' s'/\RelV v u/\Q v H'
noncomputable def TP(X:Cx)(pins:List (Addr×Obj))(σ:St)(Q:Bool->Hp->Prop)(b:Bool)(s':Shared):Prop:=∃H',Inv X pins σ H' s'/\Q b H'
noncomputable def AP(X:Cx)(pins:List (Addr×Obj))(σ:St)(Q:List V->Hp->Prop)(us:List Value)(s':Shared):Prop:=∃vs H',Inv X pins σ H' s'/\Vals vs us/\Q vs H'
noncomputable def SP(X:Cx)(pins:List (Addr×Obj))(D:Ends)(f:Flow)(s':Shared):Prop :=
 match f with
 | .next=>∃σ' H',Inv X pins σ' H' s'/\D.nx σ' H'
 | .brk=>∃σ' H',Inv X pins σ' H' s'/\D.bk σ' H'
 | .cont=>∃σ' H',Inv X pins σ' H' s'/\D.ct σ' H'
 | .ret u=>∃v σ' H',Inv X pins σ' H' s'/\RelV v u/\D.rt v H'
noncomputable def PE(X:Cx)(e:Expr)(t:TE):Prop :=
 ∀(pins:List (Addr×Obj)) (s:Shared) (σ:St) (H:Hp) (Q:VK),Inv X pins σ H s->t σ H Q->wpAny (model X.prog X.w) X.A (eval e X.env) (EP X pins σ Q) X.xe s
noncomputable def PT(X:Cx)(e:Expr)(t:TT):Prop :=
 ∀(pins:List (Addr×Obj)) (s:Shared) (σ:St) (H:Hp) (Q:Bool->Hp->Prop),Inv X pins σ H s->t σ H Q->wpAny (model X.prog X.w) X.A (isTrue e X.env (eval e X.env)) (TP X pins σ Q) X.xe s
noncomputable def PW(X:Cx)(e:Expr)(t:TT):Prop :=
 ∀(whole:Sem Value) (pins:List (Addr×Obj)) (s:Shared) (σ:St) (H:Hp) (Q:Bool->Hp->Prop),Inv X pins σ H s->t σ H Q->wpAny (model X.prog X.w) X.A (isTrue e X.env whole) (TP X pins σ Q) X.xe s
theorem PW.pt{X:Cx}{e:Expr}{t:TT}(h:PW X e t):PT X e t:=h _
noncomputable def PA(X:Cx)(es:List Expr)(t:TA):Prop :=
 ∀(pos:Pos) (pins:List (Addr×Obj)) (s:Shared) (σ:St) (H:Hp) (Q:List V->Hp->Prop),Inv X pins σ H s->t σ H Q->wpAny (model X.prog X.w) X.A (spliced (backTo pos (starEach es X.env))) (AP X pins σ Q) X.xe s
noncomputable def PS(X:Cx)(st:Stmt)(t:TS):Prop :=
 ∀(pins:List (Addr×Obj)) (s:Shared) (σ:St) (H:Hp) (D:Ends),Inv X pins σ H s->t D σ H->wpAny (model X.prog X.w) X.A (exec st X.env) (SP X pins D) X.xe s
noncomputable def PSs(X:Cx)(st:List Stmt)(t:TS):Prop :=
 ∀(pins:List (Addr×Obj)) (s:Shared) (σ:St) (H:Hp) (D:Ends),Inv X pins σ H s->t D σ H->wpAny (model X.prog X.w) X.A (execs st X.env) (SP X pins D) X.xe s
theorem gX{α:Type}{t:Sem α}{Q Q':α->Shared->Prop}{M:Model}{A:Around}{E:Value->Shared->Prop}{s:Shared}(h:wpAny M A t Q E s)(hQ:∀a s,Q a s->Q' a s):wpAny M A t Q' E s:=wpAny_mono h hQ λ_ _ x=>x
section
variable {X:Cx}
noncomputable def qZ(i:Nat):TE:=λσ H Q=>∃v,σ[i]?=some (some v)/\Q v H
noncomputable def tC(v:V):TE:=λ_ H Q=>Q v H
theorem HG{i:Nat}{x:Str}{pos:Pos}(hN:X.N[i]?=some x)(hv:qI X.env.scope x)(hd:(x==("__debug__":Str))=false:=by decide)(hcd:(x==("__classdict__":Str))=false:=by decide):PE X (.Name x pos) (qZ i):=by
 intro pins s σ H Q I h
 obtain⟨v,e,h⟩:=h
 obtain⟨m,hn,hl⟩:=I.loc
 obtain⟨u,r,l⟩:=hl i x v hN e hv
 have fin:EP X pins σ Q u s:=⟨v,H,I,r,h⟩
 rcases l with⟨hk,hm⟩|⟨hk,c,hc,hcell⟩
 ·exact wpAny_Name (wpAny_loadName_local I.ok.kind hk hn hm fin) hd
 ·rcases hk with hk|hk
  ·exact wpAny_Name (wpAny_loadName_cell I.ok.kind hk hc hcell fin) hd
  ·exact wpAny_Name (wpAny_loadName_free I.ok.kind hk hc hcell fin hcd) hd
theorem SJ{i j pos}:PE X (.Constant (.int i) j pos) (tC (.int i)):=λ_ _ _ H _ I h=>wpAny_Constant_int ⟨.int i,H,I.tok _,⟨_,rfl⟩,h⟩
theorem BI{b j pos}:PE X (.Constant (.bool b) j pos) (tC (.bl b)):=λ_ _ _ H _ I h=>Constant_bool ⟨.bl b,H,I,rfl,h⟩
theorem iU{x j pos}:PE X (.Constant (.str x) j pos) (tC (.str x)):=λ_ _ _ H _ I h=>Calls.Constant_str ⟨.str x,H,I.tok _,⟨_,rfl⟩,h⟩
noncomputable def Gl(X:Cx)(x:Str):Prop:=X.env.kindOf x=some .globalImplicit
theorem Zw{E:Value->Shared->Prop}{pins:List (Addr×Obj)}{s:Shared}{σ:St}{H:Hp}{x:Str}{u:Value}{pos:Pos}{Q:Value->Shared->Prop}(I:Inv X pins σ H s)(hg:Gl X x)(hm:X.mg x=some u)(h:Q u s)
  (hd:(x==("__debug__":Str))=false:=by decide):wpAny (model X.prog X.w) X.A (eval (.Name x pos) X.env) Q E s :=
 Calls.Name_function_global I.ok.kind hg (Calls.loadGlobal_global (by rw[I.ok.glob];exact I.mod.glob.keeps I.bk) hm h) hd
theorem rZ{E:Value->Shared->Prop}{pins:List (Addr×Obj)}{s:Shared}{σ:St}{H:Hp}{x:Str}{u:Value}{pos:Pos}{Q:Value->Shared->Prop}(I:Inv X pins σ H s)(hg:Gl X x)(hm:X.mg x=none)(hv:bootBuiltins x=some u)(h:Q u s)
  (hn:x ≠ "__name__":=by decide) (hd:(x==("__debug__":Str))=false:=by decide):wpAny (model X.prog X.w) X.A (eval (.Name x pos) X.env) Q E s:=by
 obtain⟨mb,h1,h2⟩:=I.mod.blt
 exact Calls.Name_function_global I.ok.kind hg (Calls.loadGlobal_builtin (by rw[I.ok.glob];exact I.mod.glob.keeps I.bk) hm (by rw[I.ok.blt];exact h1.keeps I.bk) ((h2 x hn).trans hv) h) hd
theorem av{x:Str}{v:V}{u:Value}{pos:Pos}(hg:Gl X x)(hm:X.mg x=none)(hv:bootBuiltins x=some u)(r:RelV v u)(hn:x ≠ "__name__":=by decide)(hd:(x==("__debug__":Str))=false:=by decide):PE X (.Name x pos) (tC v) :=
 λ_ _ _ H _ I h=>rZ I hg hm hv ⟨v,H,I,r,h⟩ hn hd
variable {a b:Expr}{ta tb:TE}{pos:Pos}
noncomputable def tB(t:TE):TT:=λσ H Q=>t σ H λx H1=>∃c,x=.bl c/\Q c H1
theorem sB{e:Expr}{t:TE}(h:PE X e t)(he:∀whole,isTrue e X.env whole=(do let v<-whole;standAt e.pos;holding [v] (truthy v)):=by intro _;rfl):PT X e (tB t):=by
 intro pins s σ H Q I hw
 refine isTrue_plain (gX (h pins s σ H _ I hw) λv s1 ⟨x,H1,I1,r1,q1⟩=>?_) (he _)
 obtain⟨d,rfl,q⟩:=q1
 cases r1
 exact wpAny_truthy_bool ⟨H1,I1,q⟩
variable {tA tB':TT}{rest:List Expr}
noncomputable def yN(t u:TT):TT:=λσ H Q=>t σ H λc H1=>if c=true then Q true H1 else u σ H1 Q
noncomputable def uB(t:TT):TT:=λσ H Q=>t σ H λc H1=>Q (!c) H1
theorem vB(ha:PT X a tA):PW X (.BoolOp .Or [a] pos) tA:=by
 intro wh pins s σ H Q I h
 refine isTrue_or (gX (ha pins s σ H Q I h) λc s1 e=>?_)
 cases c with
 | false=>exact isTrue_or_nil e
 | true=>exact e
theorem CI(ha:PT X a tA)(hb:PW X (.BoolOp .Or (b :: rest) pos) tB'):PW X (.BoolOp .Or (a :: b :: rest) pos) (yN tA tB'):=by
 intro wh pins s σ H Q I h
 refine isTrue_or (gX (ha pins s σ H _ I h) λc s1 ⟨H1,I1,q1⟩=>?_)
 cases c with
 | true=>exact ⟨H1,I1,q1⟩
 | false=>exact hb wh pins s1 σ H1 Q I1 q1
theorem wB(ha:PT X a tA):PT X (.UnaryOp .Not a pos) (uB tA):=by
 intro pins s σ H Q I h
 exact isTrue_not (ha pins s σ H (λc H1=>Q (!c) H1) I h)
noncomputable def gj(ta tb:TE):TE:=λσ H Q=>ta σ H λx H1=>∃c,x=.bl c/\if c=true then tb σ H1 Q else Q (.bl false) H1
noncomputable def kj(ta:TE):TE:=λσ H Q=>ta σ H λx H1=>∃c,x=.bl c/\Q (.bl (!c)) H1
theorem xB{op}{t:TE}(h:PE X a t):PE X (.BoolOp op [a] pos) t:=λpins s σ H Q I hw=>BoolOp_one (h pins s σ H Q I hw)
theorem yB(ha:PE X a ta)(hb:PE X (.BoolOp .And (b :: rest) pos) tb):PE X (.BoolOp .And (a :: b :: rest) pos) (gj ta tb):=by
 intro pins s σ H Q I h
 refine BoolOp_and (gX (ha pins s σ H _ I h) λv s1 ⟨x,H1,I1,r1,q1⟩=>?_)
 obtain⟨c,rfl,q1⟩:=q1
 cases r1
 refine wpAny_truthy_bool ?_
 cases c with
 | true=>exact hb pins s1 σ H1 Q I1 q1
 | false=>exact ⟨.bl false,H1,I1,rfl,q1⟩
theorem zB(ha:PE X a ta):PE X (.UnaryOp .Not a pos) (kj ta):=by
 intro pins s σ H Q I h
 refine UnaryOp_ (gX (ha pins s σ H _ I h) λv s1 ⟨x,H1,I1,r1,q1⟩=>?_)
 obtain⟨c,rfl,q1⟩:=q1
 cases r1
 exact not_of (wpAny_truthy_bool ⟨.bl (!c),H1,I1,rfl,q1⟩)
end
noncomputable def SqL(K:q0)(H:Hp)(a:Addr)(xs:List V):Prop :=
 Rd H a (.lst xs) \/
  ∃(o:Obj) (its:Array Value) (n:Nat),K.lookup a=some o/\o.cls=.type "list"/\o.dict=none/\o.data=.seq its n/\its.size<=sizeLine/\Vals xs its.toList
noncomputable def SqT(K:q0)(H:Hp)(a:Addr)(xs:List V):Prop :=
 Rd H a (.tup xs) \/
  ∃(o:Obj) (its:Array Value) (n:Nat),K.lookup a=some o/\o.cls=.type "tuple"/\o.data=.seq its n/\its.size<=sizeLine/\Vals xs its.toList
noncomputable def zN:Value->Option V
 | .none=>some .non
 | .bool b=>some (.bl b)
 | .int i _=>some (.int i)
 | .str x _=>some (.str x)
 | .bytes b _=>some (.byt b)
 | .float b _=>some (.flt b)
 | .ref a=>some (.ref a)
 | .type n=>some (.ty n)
 | _=>none
theorem RelV.abs{x:V}{u:Value}(r:RelV x u):zN u=some x:=by
 cases x with
 | non=>cases r;rfl
 | bl _=>cases r;rfl
 | int _=>obtain⟨t,rfl⟩:=r;rfl
 | str _=>obtain⟨t,rfl⟩:=r;rfl
 | byt _=>obtain⟨t,rfl⟩:=r;rfl
 | flt _=>obtain⟨t,rfl⟩:=r;rfl
 | ref _=>cases r;rfl
 | ty _=>cases r;rfl
theorem RelV.inj{x y:V}{u:Value}(r:RelV x u)(q:RelV y u):x=y:=S1 (r.abs.symm.trans q.abs)
theorem Vals.inj:∀{xs ys:List V}{us:List Value},Vals xs us->Vals ys us->xs=ys
 | _,_,_,.nil,.nil=>rfl
 | _,_,_,.cons r t,.cons r' t'=>by rw[r.inj r',Vals.inj t t']
section
variable {X:Cx}{pins:List (Addr×Obj)}{σ:St}{H:Hp}{s:Shared}{a:Addr}{xs ys:List V}
theorem SqL.of{K:q0}(h:H a=some (.lst xs)):SqL K H a xs:=.inl (.inl h)
theorem SqT.of{K:q0}(h:H a=some (.tup xs)):SqT K H a xs:=.inl (.inl h)
theorem Inv.list(I:Inv X pins σ H s)(h:SqL X.K H a xs):∃its:List Value,Vals xs its/\PlainL s.heap a its.toArray/\xs.length<=sizeLine:=by
 rcases h with h|⟨o,its,n,hk,hc,hd,hs,hz,r⟩
 ·obtain⟨z,its,n,r,e⟩:=h.ok I.hok
  exact ⟨its,r,⟨_,n,e,rfl,rfl,rfl⟩,z⟩
 ·refine ⟨its.toList,r,⟨o,n,I.kIn a o hk,hc,hd,by simpa using hs⟩,?_⟩
  have e:=r.length
  simp only[U0]at e
  omega
theorem Inv.tuple(I:Inv X pins σ H s)(h:SqT X.K H a xs):∃its:List Value,Vals xs its/\IsTup s.heap a its.toArray/\xs.length<=sizeLine:=by
 rcases h with h|⟨o,its,n,hk,hc,hs,hz,r⟩
 ·obtain⟨z,its,r,p⟩:=h.ok I.hok
  exact ⟨its,r,p.t,z⟩
 ·refine ⟨its.toList,r,⟨o,I.kIn a o hk,hc,n,by simpa using hs⟩,?_⟩
  have e:=r.length
  simp only[U0]at e
  omega
theorem Inv.list_inj(I:Inv X pins σ H s)(h:SqL X.K H a xs)(h':SqL X.K H a ys):xs=ys:=by
 obtain⟨its,r,⟨o,n,e,_,_,d⟩,_⟩:=I.list h
 obtain⟨its',r',⟨o',n',e',_,_,d'⟩,_⟩:=I.list h'
 rw[e]at e';cases e'
 rw[d]at d'
 injection d' with d1 _
 have:its=its':=by simpa using congrArg Array.toList d1
 subst this
 exact r.inj r'
theorem Inv.tuple_inj(I:Inv X pins σ H s)(h:SqT X.K H a xs)(h':SqT X.K H a ys):xs=ys:=by
 obtain⟨its,r,⟨o,e,_,n,d⟩,_⟩:=I.tuple h
 obtain⟨its',r',⟨o',e',_,n',d'⟩,_⟩:=I.tuple h'
 rw[e]at e';cases e'
 rw[d]at d'
 injection d' with d1 _
 have:its=its':=by simpa using congrArg Array.toList d1
 subst this
 exact r.inj r'
end
noncomputable abbrev Cx.wish(X:Cx)(E:Value->Shared->Prop):Cx:={ X with xe:=E }
noncomputable abbrev Cx.nox(X:Cx):Cx:=X.wish λ_ _=>False
theorem Cx.Ok.wish{X:Cx}(ok:X.Ok)(E:Value->Shared->Prop):(X.wish E).Ok :=
 ⟨ok.mod,ok.kind,ok.glob,ok.blt,ok.above,ok.inj,ok.has,ok.cab,ok.hd,ok.frames,ok.stk,ok.exf,ok.bs,ok.bsz,ok.noex,ok.exfs,ok.funs,ok.frf⟩
theorem Cx.Ok.unwish{X:Cx}{E:Value->Shared->Prop}(ok:(X.wish E).Ok):X.Ok :=
 ⟨ok.mod,ok.kind,ok.glob,ok.blt,ok.above,ok.inj,ok.has,ok.cab,ok.hd,ok.frames,ok.stk,ok.exf,ok.bs,ok.bsz,ok.noex,ok.exfs,ok.funs,ok.frf⟩
section
variable {X:Cx}{pins:List (Addr×Obj)}{σ:St}{H:Hp}{s:Shared}{E:Value->Shared->Prop}
theorem Inv.wish(I:Inv X pins σ H s)(E:Value->Shared->Prop):Inv (X.wish E) pins σ H s:=⟨I.ok.wish E,I.os,I.bare,I.base,I.loc,I.cell,I.free,I.freeC,I.pin,I.hok,I.len⟩
theorem Inv.unwish(I:Inv (X.wish E) pins σ H s):Inv X pins σ H s:=⟨I.ok.unwish,I.os,I.bare,I.base,I.loc,I.cell,I.free,I.freeC,I.pin,I.hok,I.len⟩
theorem SP.unwish{D:Ends}{f:Flow}{s':Shared}(h:SP (X.wish E) pins D f s'):SP X pins D f s':=by
 cases f with
 | next=>obtain⟨σ',H',I,q⟩:=h;exact ⟨σ',H',I.unwish,q⟩
 | brk=>obtain⟨σ',H',I,q⟩:=h;exact ⟨σ',H',I.unwish,q⟩
 | cont=>obtain⟨σ',H',I,q⟩:=h;exact ⟨σ',H',I.unwish,q⟩
 | ret u=>obtain⟨v,σ',H',I,r,q⟩:=h;exact ⟨v,σ',H',I.unwish,r,q⟩
theorem PSs.nox{st:List Stmt}{t:TS}(h:PSs X.nox st t):PSs X st t:=λpins s σ H D I hw =>
 wpAny_mono (h pins s σ H D (I.wish _) hw) (λ_ _ q=>q.unwish) λ_ _ z=>False.elim z
end
section
variable {X:Cx}{st:Stmt}{rest:List Stmt}{t u:TS}{e:Expr}{te:TE}{pos:Pos}
noncomputable def lj:TS:=λD σ H=>D.nx σ H
noncomputable def cV(t u:TS):TS:=λD σ H=>t { D with nx:=u D } σ H
theorem bv:PSs X [] lj:=λ_ _ σ H _ I h=>wpAny_execs_nil ⟨σ,H,I,h⟩
theorem sZ(h1:PS X st t)(h2:PSs X rest u):PSs X (st :: rest) (cV t u):=by
 intro pins s σ H D I h
 refine wpAny_execs_cons (gX (h1 pins s σ H { D with nx:=u D } I h) λf s1 q=>?_)
 cases f with
 | next =>
  obtain⟨σ',H',I',q⟩:=q
  exact h2 pins s1 σ' H' D I' q
 | ret v=>exact q
 | brk=>exact q
 | cont=>exact q
theorem jU(h1:PS X st t):PSs X [st] t:=by
 intro pins s σ H D I h
 refine wpAny_execs_cons (gX (h1 pins s σ H D I h) λf s1 q=>?_)
 cases f with
 | next=>exact wpAny_execs_nil q
 | ret v=>exact q
 | brk=>exact q
 | cont=>exact q
theorem Inv.quiet{pins:List (Addr×Obj)}{σ:St}{H:Hp}{s:Shared}(I:Inv X pins σ H s):interactive X.env=false:=by simp[interactive,I.ok.kind]
noncomputable def sY(te:TE):TS:=λD σ H=>te σ H λ_ H1=>D.nx σ H1
theorem kU(he:PE X e te)(hs:swapsWith e none pos.line X.env=pure false:=by rfl):PS X (.Expr e pos) (sY te):=by
 intro pins s σ H D I h
 exact wpAny_Expr_any (gX (he pins s σ H _ I h) λv s1 ⟨x,H1,I1,r1,q1⟩=>⟨σ,H1,I1,q1⟩) I.quiet hs
noncomputable def Jq(te:TE):TS:=λD σ H=>te σ H D.rt
theorem IG(he:PE X e te):PS X (.Return (some e) pos) (Jq te):=by
 intro pins s σ H D I h
 exact wpAny_Return_some (gX (he pins s σ H _ I h) λv s1 ⟨x,H1,I1,r1,q1⟩=>⟨x,σ,H1,I1,r1,q1⟩)
noncomputable def AB(c:TT)(t u:TS):TS:=λD σ H=>c σ H λb H1=>if b=true then t D σ H1 else u D σ H1
theorem DI{c:Expr}{a b:List Stmt}{tc:TT}(hc:PT X c tc)(ha:PSs X a t)(hb:PSs X b u):PS X (.If c a b pos) (AB tc t u):=by
 intro pins s σ H D I h
 refine wpAny_If (gX (hc pins s σ H _ I h) λd s1 ⟨H1,I1,q1⟩=>?_)
 cases d with
 | true=>exact ha pins s1 σ H1 D I1 q1
 | false=>exact hb pins s1 σ H1 D I1 q1
end
noncomputable abbrev TG:=V->St->Hp->(St->Hp->Prop)->Prop
noncomputable abbrev cj:=List V->St->Hp->(St->Hp->Prop)->Prop
noncomputable def PG(X:Cx)(target:Expr)(t:TG):Prop :=
 ∀(pins:List (Addr×Obj)) (s:Shared) (σ:St) (H:Hp) (v:V) (u:Value) (Q:St->Hp->Prop),Inv X pins σ H s->RelV v u->t v σ H Q ->
  wpAny (model X.prog X.w) X.A (assign target X.env u) (λ_ s'=>∃σ' H',Inv X pins σ' H' s'/\Q σ' H') X.xe s
noncomputable def cv(X:Cx)(ts:List Expr)(t:cj):Prop :=
 ∀(pins:List (Addr×Obj)) (s:Shared) (σ:St) (H:Hp) (vs:List V) (us:List Value) (Q:St->Hp->Prop),Inv X pins σ H s->Vals vs us->t vs σ H Q ->
  wpAny (model X.prog X.w) X.A (assignInOrder ((assignEach ts X.env).map (·.2)) us) (λ_ s'=>∃σ' H',Inv X pins σ' H' s'/\Q σ' H') X.xe s
noncomputable abbrev BB:=V->V->V->Hp->(Hp->Prop)->Prop
noncomputable def EI(X:Cx)(t:BB):Prop :=
 ∀(pins:List (Addr×Obj)) (s:Shared) (σ:St) (H:Hp) (o i v:V) (ov iv u:Value) (Q:Hp->Prop),Inv X pins σ H s->RelV o ov->RelV i iv->RelV v u->t o i v H Q ->
  wpAny (model X.prog X.w) X.A (setItem ov iv u) (λ_ s'=>∃H',Inv X pins σ H' s'/\Q H') X.xe s
section
variable {X:Cx}{pos:Pos}
noncomputable def JX(i:Nat):TG:=λv σ H Q=>Q (σ.set i (some v)) H
theorem lU{i:Nat}{x:Str}(hN:X.N.Nodup)(hi:X.N[i]?=some x)(hx:rB X.env.scope x)(hf:X.fn x=true\/X.env.scope.names.lookup x=some .local:=by first|exact .inl rfl|exact .inr rfl|assumption):PG X (.Name x pos) (JX i):=by
 intro pins s σ H v u Q I r h
 exact wpAny_assign_Name (cH I hN hi hx r (λs' I'=>⟨_,H,I',h⟩) hf)
noncomputable def gv:cj:=λvs σ H Q=>vs=[]/\Q σ H
noncomputable def zV(t:TG)(u:cj):cj:=λvs σ H Q=>∃v r,vs=v :: r/\t v σ H λσ' H'=>u r σ' H' Q
theorem YF:cv X [] gv:=by
 intro pins s σ H vs us Q I r h
 obtain⟨e,h⟩:=h
 subst e
 cases r
 exact assignInOrder_nil ⟨σ,H,I,h⟩
theorem ZY{e:Expr}{es:List Expr}{t:TG}{u:cj}(h1:PG X e t)(h2:cv X es u)
  (hs:(assignEach (e :: es) X.env).map (·.2)=assign e X.env :: (assignEach es X.env).map (·.2):=by rfl):cv X (e :: es) (zV t u):=by
 intro pins s σ H vs us Q I r h
 obtain⟨v,vr,e1,h⟩:=h
 subst e1
 cases r with
 | cons r rr =>
  rw[hs]
  refine assignInOrder_cons (gX (h1 pins s σ H _ _ _ I r h) λ_ s1 ⟨σ1,H1,I1,q1⟩=>?_)
  exact h2 pins s1 σ1 H1 _ _ Q I1 rr q1
noncomputable def Kq(K:q0)(n:Nat)(t:cj):TG:=λv σ H Q=>∃a xs,v=.ref a/\SqT K H a xs/\xs.length=n/\t xs σ H Q
theorem CB{es:List Expr}{k:Nat}{t:cj}{n:Nat}(hc:X.calm=true)(h:cv X es t)
  (hn:(assignEach es X.env).length=n:=by rfl) (hst:(assignEach es X.env).findIdx? (·.1)=none:=by rfl):PG X (.Tuple es k pos) (Kq X.K n t):=by
 intro pins s σ H v u Q I r hw
 obtain⟨a,xs,e1,hq,hl,hw⟩:=hw
 subst e1
 cases r
 obtain⟨its,rv,ht,hz⟩:=I.tuple hq
 refine assign_Tuple_tuple (I.ok.hd hc) ht (by simp[hn,<- hl,rv.length]) hst λh' hx=>?_
 have I1:Inv X pins σ H { s with heap:=h' }:=I.kept (t':=s.toks) λb o e=>hx b o (R0 (B0 e)) e
 exact h pins _ σ H xs _ Q I1 (by simpa using rv) hw
noncomputable def DB(to ti:TE)(t:BB):TG:=λv σ H Q=>to σ H λo H1=>ti σ H1 λi H2=>t o i v H2 λH3=>Q σ H3
theorem EB{o i:Expr}{to ti:TE}{t:BB}(ho:PE X o to)(hi:PE X i ti)(hs:EI X t)
  (ha:∀v,assign (.Subscript o i pos) X.env v=(do
    let ov<-holding [v] (eval o X.env)
    let iv<-holding [v,ov] (eval i X.env)
    standAt pos
    holding [v,ov,iv] (setItem ov iv v)
    release [v,ov,iv] []):=by intro _;rfl):PG X (.Subscript o i pos) (DB to ti t):=by
 intro pins s σ H v u Q I r h
 rw[ha]
 refine wpAny_bind (wpAny_holding (gX (ho pins s σ H _ I h) λov s1 ⟨x,H1,I1,r1,q1⟩=>?_))
 refine wpAny_bind (wpAny_holding (gX (hi pins s1 σ H1 _ I1 q1) λiv s2 ⟨y,H2,I2,r2,q2⟩=>?_))
 refine wpAny_bind (wpAny_standAt (wpAny_bind (wpAny_holding (gX (hs pins s2 σ H2 x y v ov iv u _ I2 r1 r2 r q2) λ_ s3 ⟨H3,I3,q3⟩=>?_))))
 exact wpAny_release ⟨σ,H3,I3,q3⟩
noncomputable def dJ(te:TE)(g:TG):TS:=λD σ H=>te σ H λx H1=>g x σ H1 D.nx
theorem mj{tg e:Expr}{te:TE}{g:TG}(he:PE X e te)(hg:PG X tg g)(hs:swapsWithSole [tg] e pos.line X.env=pure false:=by rfl)(hw:swappedStores [tg] e X.env=pure none:=by rfl)
  (h1:(assignEach [tg] X.env).map (·.2)=[assign tg X.env]:=by rfl):PS X (.Assign [tg] e pos) (dJ te g):=by
 intro pins s σ H D I h
 refine wpAny_Assign_stores (gX (he pins s σ H _ I h) λv s1 ⟨x,H1,I1,r1,q1⟩=>?_) hs hw
 rw[h1]
 exact gX (hg pins s1 σ H1 x v _ I1 r1 q1) λ_ s2 q=>q
theorem QK{i:Nat}{x:Str}{e:Expr}{te:TE}{pos':Pos}(hN:X.N.Nodup)(hi:X.N[i]?=some x)(hx:rB X.env.scope x)(he:PE X e te)(hs:swapsWith e (some (.Name x pos')) pos.line X.env=pure false:=by rfl)(hf:X.fn x=true\/X.env.scope.names.lookup x=some .local:=by first|exact .inl rfl|exact .inr rfl|assumption) :
  PS X (.Assign [.Name x pos'] e pos) (dJ te (JX i)):=by
 intro pins s σ H D I h
 refine wpAny_Assign_Name (gX (he pins s σ H _ I h) λv s1 ⟨y,H1,I1,r1,q1⟩=>?_) hs
 exact cH I1 hN hi hx r1 (λs2 I2=>⟨_,H1,I2,q1⟩) hf
end
section
variable {X:Cx}{pos:Pos}
end
structure It where
 go:Nat->Hp->Prop
 yld:Nat->Hp->V->Hp->Prop
 stop:Nat->Hp->Prop
noncomputable def zY(X:Cx)(pins:List (Addr×Obj))(H:Hp)(b:Addr):Prop :=
 H b=none/\b≠X.env.locals/\b∉X.fs/\(b∈X.ex\/X.s₀.heap.objs.size<=b)/\(∀x c,X.env.cells.lookup x=some c->c≠b)/\∀p∈X.pn++pins,p.1≠b
theorem Inv.fpOk{X:Cx}{pins:List (Addr×Obj)}{σ:St}{H H':Hp}{s:Shared}{b:Addr}(I:Inv X pins σ H s)(hb:s.heap.objs.size<=b)(hn:H' b=none):zY X pins H' b:=by
 refine ⟨hn,J1 (N0 I.lt hb),I.nofs hb,.inr (A1 I.sz hb),λx c e z=>?_,λp hp z=>?_⟩
 ·obtain⟨v,q⟩:=I.cell x c e
  exact absurd (N0 q.lt (by rw[z];exact hb)) (A3 _)
 ·exact absurd (N0 (B0 (I.pin p hp).1) (by rw[z];exact hb)) (A3 _)
structure Turn(P:Program)(w:World)(K:q0)(tg:Expr)(J:It)(fp:List Addr)(it:Addr)(tn:Nat->Heap->Prop):Prop where
 mem:it∈fp
 obj:∀i h,tn i h->∀b∈fp,∃o,h.get? b=some o/\∀v,o.data≠.cell v
 keep:∀i h h',tn i h->(∀b∈fp,∀o,h.get? b=some o->h'.get? b=some o)->tn i h'
 item:∀(X:Cx),X.prog=P->X.w=w->X.K=K->X.calm=true->∀(i:Nat) (pins:List (Addr×Obj)) (s:Shared) (σ:St) (H:Hp) (E:Value->Shared->Prop),Inv X pins σ H s->(∀b∈fp,zY X pins H b)->tn i s.heap->J.go i H ->
  wpAny (model P w) X.A (pyNext (.ref it)) (λr s1=>∃u,r=some u /\
    wpAny (model P w) X.A (letOwnedTupleGo tg (.ref it) u) (λ_ s2=>∃x H',Inv X pins σ H' s2/\RelV x u/\J.yld i H x H'/\tn (i+1) s2.heap/\∀b∈fp,H' b=none) E s1) E s
 done:∀(X:Cx),X.prog=P->X.w=w->X.K=K->X.calm=true->∀(i:Nat) (pins:List (Addr×Obj)) (s:Shared) (σ:St) (H:Hp) (E:Value->Shared->Prop),Inv X pins σ H s->(∀b∈fp,zY X pins H b)->tn i s.heap->J.stop i H ->
  wpAny (model P w) X.A (pyNext (.ref it)) (λr s1=>r=none/\Inv X pins σ H s1) E s
 self:∀(A:Around) (i:Nat) (s:Shared) (Q:Value->Shared->Prop) (E:Value->Shared->Prop),tn i s.heap->Q (.ref it) s->wpAny (model P w) A (pyIter (.ref it)) Q E s
noncomputable abbrev TI:=St->Hp->(It->Hp->Prop)->Prop
noncomputable def QO(X:Cx)(pins:List (Addr×Obj))(σ:St)(tg:Expr)(R:It->Hp->Prop)(itv:Value)(s2:Shared):Prop :=
 ∃(it:Addr) (fp:List Addr) (tn:Nat->Heap->Prop) (J:It) (H':Hp),itv=.ref it/\Inv X pins σ H' s2/\Turn X.prog X.w X.K tg J fp it tn/\tn 0 s2.heap/\(∀b∈fp,zY X pins H' b)/\R J H'
noncomputable def PI(X:Cx)(tg iter:Expr)(wi:TI):Prop :=
 ∀(pins:List (Addr×Obj)) (s:Shared) (σ:St) (H:Hp) (R:It->Hp->Prop),Inv X pins σ H s->wi σ H R ->
  wpAny (model X.prog X.w) X.A (eval iter X.env) (λv s1=>wpAny (model X.prog X.w) X.A (pyIter v) (QO X pins σ tg R) X.xe s1) X.xe s
theorem ZF{M:Model}{A:Around}{E:Value->Shared->Prop}{s:Shared}{tg:Expr}{it:Addr}{u:Value}{o:Obj}{n:String}{vs:Array Value}{Q:Unit->Shared->Prop}(ho:s.heap.get? it=some o)(hc:o.cls=.type n)(hd:o.data=.fields vs)
  (hn:["enumerate","zip","dict_itemiterator","dict_reverseitemiterator","odict_iterator","itertools.zip_longest","itertools.pairwise"].contains n=false) (hQ:Q () s):wpAny M A (letOwnedTupleGo tg (.ref it) u) Q E s:=by
 unfold letOwnedTupleGo
 cases tg<;>first
  | exact wpAny_pure hQ
  | (cases u<;>first
      | exact wpAny_pure hQ
      | (refine wpAny_bind (wpAny_load ho ?_)
         rw[hc,hd]
         show wpAny M A (if (["enumerate","zip","dict_itemiterator","dict_reverseitemiterator","odict_iterator","itertools.zip_longest","itertools.pairwise"].contains n&&vs[0]?==some (rawInt _))=true then _ else _) Q E s
         rw[if_neg (by intro h;rw[hn,J6]at h;cases h)]
         exact wpAny_pure hQ))
noncomputable def AN(K:q0)(a:Addr):It :=
 ⟨λi H=>∃xs x,SqL K H a xs/\xs[i]?=some x,λi H x H'=>H'=H/\∀xs,SqL K H a xs->xs[i]?=some x,λi H=>∃xs,SqL K H a xs/\xs.length<=i⟩
noncomputable def BN(K:q0)(a:Addr):It :=
 ⟨λi H=>∃xs x,SqT K H a xs/\xs[i]?=some x,λi H x H'=>H'=H/\∀xs,SqT K H a xs->xs[i]?=some x,λi H=>∃xs,SqT K H a xs/\xs.length<=i⟩
noncomputable def FI(lo:Int)(n:Nat):It:=⟨λi _=>i < n,λi H x H'=>H'=H/\x=.int (lo+i),λi _=>n<=i⟩
theorem Lq{P:Program}{w:World}{K:q0}{tg:Expr}(a it:Addr):Turn P w K tg (AN K a) [it] it (λi h=>h.IsListIter it a i) where
 mem:=by simp
 obj:=λi h st b hb=>by
  have e:b=it:=by simpa using hb
  subst e
  obtain⟨o,e,c,d⟩:=st
  exact ⟨o,e,λv z=>by rw[d]at z;cases z⟩
 keep:=λi h h' st k=>st.at λo e=>k it (by simp) o e
 item:=by
  intro X hP hw hK hc i pins s σ H E I hf st hg
  subst hP hw hK
  obtain⟨xs,x,hq,hx⟩:=hg
  obtain⟨its,rv,p,hz⟩:=I.list hq
  obtain⟨u,hu,ru⟩:=rv.get hx
  obtain⟨f0,f1,f2,f3,f4,f5⟩:=hf it (by simp)
  refine wpAny_pyNext_list_item st p.isList (x:=u) (by simpa using hu) λh' st' sb=>?_
  have I1:Inv X pins σ H { s with heap:=h' }:=I.turned (t':=s.toks) (λb o hb e=>(sb.2 b hb).trans e) f0 f1 f3 f4 f5
  obtain⟨o,e,c,d⟩:=id st'
  exact ⟨u,rfl,ZF (s:={ s with heap:=h' }) e c d (by decide) ⟨x,H,I1,ru,⟨rfl,λys hy=>by rw[I.list_inj hy hq];exact hx⟩,st',λb hb=>(hf b hb).1⟩⟩
 done:=by
  intro X hP hw hK hc i pins s σ H E I hf st hg
  subst hP hw hK
  obtain⟨xs,hq,hx⟩:=hg
  obtain⟨its,rv,p,hz⟩:=I.list hq
  obtain⟨f0,f1,f2,f3,f4,f5⟩:=hf it (by simp)
  have hl:=rv.length
  exact wpAny_pyNext_list_end (I.ok.hd hc) st p.isList (by simp;omega) λh' eb=>⟨rfl,I.turned (t':=s.toks) (λb o hb e=>eb b o hb e) f0 f1 f3 f4 f5⟩
 self:=λ_ _ _ _ _ st h=>wpAny_pyIter_listiter st h
theorem JG{P:Program}{w:World}{K:q0}{tg:Expr}(a it:Addr):Turn P w K tg (BN K a) [it] it (λi h=>h.IsTupleIter it a i) where
 mem:=by simp
 obj:=λi h st b hb=>by
  have e:b=it:=by simpa using hb
  subst e
  obtain⟨o,e,c,d⟩:=st
  exact ⟨o,e,λv z=>by rw[d]at z;cases z⟩
 keep:=λi h h' st k=>st.at λo e=>k it (by simp) o e
 item:=by
  intro X hP hw hK hc i pins s σ H E I hf st hg
  subst hP hw hK
  obtain⟨xs,x,hq,hx⟩:=hg
  obtain⟨its,rv,p,hz⟩:=I.tuple hq
  obtain⟨u,hu,ru⟩:=rv.get hx
  obtain⟨f0,f1,f2,f3,f4,f5⟩:=hf it (by simp)
  refine wpAny_pyNext_tuple_item st (show s.heap.IsTuple a its.toArray from p) (x:=u) (by simpa using hu) λh' st' sb=>?_
  have I1:Inv X pins σ H { s with heap:=h' }:=I.turned (t':=s.toks) (λb o hb e=>(sb.2 b hb).trans e) f0 f1 f3 f4 f5
  obtain⟨o,e,c,d⟩:=id st'
  exact ⟨u,rfl,ZF (s:={ s with heap:=h' }) e c d (by decide) ⟨x,H,I1,ru,⟨rfl,λys hy=>by rw[I.tuple_inj hy hq];exact hx⟩,st',λb hb=>(hf b hb).1⟩⟩
 done:=by
  intro X hP hw hK hc i pins s σ H E I hf st hg
  subst hP hw hK
  obtain⟨xs,hq,hx⟩:=hg
  obtain⟨its,rv,p,hz⟩:=I.tuple hq
  obtain⟨f0,f1,f2,f3,f4,f5⟩:=hf it (by simp)
  have hl:=rv.length
  exact wpAny_pyNext_tuple_end (I.ok.hd hc) st (show s.heap.IsTuple a its.toArray from p) (by simp;omega) λh' eb=>⟨rfl,I.turned (t':=s.toks) (λb o hb e=>eb b o hb e) f0 f1 f3 f4 f5⟩
 self:=λ_ _ _ _ _ st h=>wpAny_pyIter_tupleiter st h
theorem KG{P:Program}{w:World}{K:q0}{tg:Expr}(it:Addr)(lo:Int)(n:Nat):Turn P w K tg (FI lo n) [it] it (λi h=>IsRangeIter h it (lo+(i:Nat) * 1) ((n:Int) - (i:Nat)) 1) where
 mem:=by simp
 obj:=λi h st b hb=>by
  have e:b=it:=by simpa using hb
  subst e
  exact ⟨_,st,λv z=>by
    have z':Data.fields _=Data.cell v:=z
    cases z'⟩
 keep:=λi h h' st k=>k it (by simp) _ st
 item:=by
  intro X hP hw hK hc i pins s σ H E I hf st hg
  subst hP hw hK
  obtain⟨f0,f1,f2,f3,f4,f5⟩:=hf it (by simp)
  have W:=Walks.range (prog:=X.prog) (w:=X.w) (I.ok.hd hc) it lo 1 n
  refine W.item i s _ _ hg st λv h' tk hv st' kk=>?_
  obtain⟨t,rfl⟩:=hv
  have I1:Inv X pins σ H { s with heap:=h',toks:=tk }:=I.turned (λb o hb e=>kk b o (by simpa using hb) e) f0 f1 f3 f4 f5
  refine ⟨_,rfl,ZF (s:={ s with heap:=h',toks:=tk }) (n:="range_iterator") st' rfl rfl (by decide) ⟨.int (lo+i),H,I1,⟨t,?_⟩,⟨rfl,rfl⟩,st',λb hb=>(hf b hb).1⟩⟩
  rw[B7]
 done:=by
  intro X hP hw hK hc i pins s σ H E I hf st hg
  subst hP hw hK
  obtain⟨f0,f1,f2,f3,f4,f5⟩:=hf it (by simp)
  exact wpAny_pyNext_range_end (I.ok.hd hc) st (by have:n<=i:=hg;omega) λh' eb=>⟨rfl,I.turned (t':=s.toks) (λb o hb e=>eb b o hb e) f0 f1 f3 f4 f5⟩
 self:=λ_ _ _ _ _ st h=>wpAny_pyIter_rangeiter st h
section
variable {X:Cx}{tg:Expr}
theorem dH{pins:List (Addr×Obj)}{σ:St}{H:Hp}{s:Shared}{R:It->Hp->Prop}{E:Value->Shared->Prop}{lo hi:Int}{t u v:Tok}{tk:Nat}(I:Inv X pins σ H s)(h1:-(2 ^ 62)<=lo)(h2:lo < 2 ^ 62)(h3:-(2 ^ 62)<=hi)(h4:hi < 2 ^ 62)
  (q:R (FI lo (hi - lo).toNat) H):wpAny (model X.prog X.w) X.A (pyIter (.ref s.heap.objs.size)) (QO X pins σ tg R) E { s with heap:=s.heap.push { cls:=.type "range",data:=.fields #[.int lo t,.int hi u,.int 1 v] },toks:=tk }:=by
 refine wpAny_pyIter_range (IsRange.new ..) (small_one h1 h2 h3 h4) ?_
 have I1:Inv X pins σ H { s with heap:=s.heap.push { cls:=.type "range",data:=.fields #[.int lo t,.int hi u,.int 1 v] },toks:=tk }:=I.kept λb o e=>g0 _ e
 refine ⟨(s.heap.push { cls:=.type "range",data:=.fields #[.int lo t,.int hi u,.int 1 v] }).objs.size,[(s.heap.push { cls:=.type "range",data:=.fields #[.int lo t,.int hi u,.int 1 v] }).objs.size],_,_,H,rfl,
   I1.kept (t':=tk) λb o e=>g0 _ e,KG _ lo (hi - lo).toNat,?_,λb hb=>?_,q⟩
 ·have e1:lo+((0:Nat):Int) * 1=lo:=by simp
  have e2:(((hi - lo).toNat:Nat):Int) - ((0:Nat):Int)=x8 lo hi 1:=by rw[rangeSize_one];split<;>omega
  show IsRangeIter _ _ (lo+((0:Nat):Int) * 1) ((((hi - lo).toNat:Nat):Int) - ((0:Nat):Int)) 1
  rw[e1,e2]
  exact J0 _ rfl
 ·have e:b=(s.heap.push { cls:=.type "range",data:=.fields #[.int lo t,.int hi u,.int 1 v] }).objs.size:=by simpa using hb
  subst e
  exact I1.fpOk (G0 _) (I1.hok.fresh (G0 _))
noncomputable def nj(ta:TA):TI:=λσ H R=>ta σ H λvs H1=>∃j:Int,vs=[.int j]/\-(2 ^ 62)<=j/\j < 2 ^ 62/\R (FI 0 j.toNat) H1
noncomputable def oj(ta:TA):TI:=λσ H R=>ta σ H λvs H1=>∃i j:Int,vs=[.int i,.int j]/\(-(2 ^ 62)<=i/\i < 2 ^ 62/\-(2 ^ 62)<=j/\j < 2 ^ 62)/\R (FI i (j - i).toNat) H1
theorem Mq{a:Expr}{ta:TA}{p pos:Pos}(hg:Gl X "range")(hm:X.mg "range"=none)(ha:PA X [a] ta)(hs:starEach [a] X.env=[(false,eval a X.env)]:=by rfl):PI X tg (.Call (.Name "range" p) [a] [] pos) (nj ta):=by
 intro pins s σ H R I h
 refine Call_ (rZ I hg hm boot_range (J2 (gX (ha pos pins s σ H _ I h) λus s1 ⟨vs,H1,I1,r1,q1⟩=>?_) hs rfl))
 obtain⟨j,e,q1,q2,q⟩:=q1
 subst e
 cases r1 with
 | cons r rr =>
  cases rr
  obtain⟨t,rfl⟩:=r
  exact call_range_1 (dH I1 (by omega) (by omega) q1 q2 (by simpa using q))
theorem Nq{a b:Expr}{ta:TA}{p pos:Pos}(hg:Gl X "range")(hm:X.mg "range"=none)(ha:PA X [a,b] ta)(hs:starEach [a,b] X.env=[(false,eval a X.env),(false,eval b X.env)]:=by rfl)(hs2:starEach [b] X.env=[(false,eval b X.env)]:=by rfl) :
  PI X tg (.Call (.Name "range" p) [a,b] [] pos) (oj ta):=by
 intro pins s σ H R I h
 refine Call_ (rZ I hg hm boot_range (J2 (gX (ha pos pins s σ H _ I h) λus s1 ⟨vs,H1,I1,r1,q1⟩=>?_) (by rw[hs,hs2]) (by rw[hs2];rfl)))
 obtain⟨i,j,e,⟨q1,q2,q3,q4⟩,q⟩:=q1
 subst e
 cases r1 with
 | cons r rr =>
  cases rr with
  | cons r' rr =>
   cases rr
   obtain⟨t,rfl⟩:=r
   obtain⟨t',rfl⟩:=r'
   exact call_range_2 (dH I1 q1 q2 q3 q4 q)
noncomputable def Oq(wi:TI)(g:TG)(tb:TS):TS:=λD σ H=>wi σ H λJ H1=>∃W:Nat->Nat->St->Hp->Prop,(∃m,W 0 m σ H1)/\∀i m σ H,W i m σ H ->
 (J.stop i H/\D.nx σ H)\/(J.go i H/\∃N:St->Hp->Prop,(∀σ' H',N σ' H'->∃m',m' < m/\W (i+1) m' σ' H')/\∀x H',J.yld i H x H'->g x σ H' λσ2 H2=>tb { D with nx:=N,ct:=N,bk:=D.nx } σ2 H2)
noncomputable def RK(fp:List Addr)(h:Heap):List (Addr×Obj):=fp.filterMap λb=>(h.get? b).map λo=>(b,o)
theorem NZ{fp:List Addr}{h:Heap}{b:Addr}{o:Obj}(hb:b∈fp)(e:h.get? b=some o):(b,o)∈RK fp h:=t9.mpr ⟨b,hb,by rw[e];rfl⟩
theorem AV{fp:List Addr}{h:Heap}{p:Addr×Obj}(hp:p∈RK fp h):p.1∈fp/\h.get? p.1=some p.2:=by
 obtain⟨b,hb,e⟩:=t9.mp hp
 cases q:h.get? b with
 | none=>rw[q]at e;cases e
 | some o =>
  rw[q]at e
  have e':(b,o)=p:=S1 e
  subst e'
  exact ⟨hb,q⟩
theorem Inv.pinned{pins:List (Addr×Obj)}{σ:St}{H:Hp}{s:Shared}{fp:List Addr}(I:Inv X pins σ H s)(hf:∀b∈fp,zY X pins H b)(ho:∀b∈fp,∃o,s.heap.get? b=some o/\∀v,o.data≠.cell v):Inv X (pins++RK fp s.heap) σ H s :=
 I.pins_of λp hp=>(O2.mp hp).elim (λz=>I.pin p (P1 _ z)) λz=>by
  obtain⟨hb,e⟩:=AV z
  obtain⟨f0,f1,f2,_⟩:=hf p.1 hb
  obtain⟨o,e',d⟩:=ho p.1 hb
  rw[e]at e';cases e'
  exact ⟨e,f0,f1,f2,d⟩
theorem Inv.unpinned{pins pl:List (Addr×Obj)}{σ:St}{H:Hp}{s:Shared}(I:Inv X (pins++pl) σ H s):Inv X pins σ H s:=I.pins_of λp hp=>I.pin p (P1 _ (G7 _ hp))
theorem qj{iter:Expr}{body:List Stmt}{wi:TI}{g:TG}{tb:TS}{pos:Pos}(hp:PassesOwn (model X.prog X.w) X.A X.env X.xe)(hc:X.calm=true)(hi:PI X tg iter wi)(hg:PG X tg g)(hb:PSs X body tb)
  (hs:∀x,foldedSetIterable iter X.env x=pure x:=by intro _;rfl):PS X (.For tg iter body [] pos) (Oq wi g tb):=by
 intro pins s σ H D I h
 refine wpAny_For (gX (hi pins s σ H _ I h) λv s1 h1=>gX h1 λitv s2 h2=>?_) hs
 obtain⟨it,fp,tn,J,H2,e,I2,T,st2,f2,W,⟨m0,w0⟩,turn⟩:=h2
 subst e
 have stat:∀{H':Hp},(∀b∈fp,H' b=none)->∀b∈fp,zY X pins H' b:=λhn b hb=>⟨hn b hb,(f2 b hb).2⟩
 refine codeAny_forLoop_any (λn s'=>∃i σ' H',Inv X pins σ' H' s'/\tn i s'.heap/\(∀b∈fp,H' b=none)/\W i n σ' H') ?_ m0 ⟨0,σ,H2,I2,st2,λb hb=>(f2 b hb).1,w0⟩
 rintro n s3 ⟨i,σ3,H3,I3,st3,fr3,w3⟩
 rcases turn i n σ3 H3 w3 with⟨stop,qn⟩|⟨go,N,hN,step⟩
 ·refine wpAny_passesOwn hp (gX (T.done X rfl rfl rfl hc i pins s3 σ3 H3 X.xe I3 (stat fr3) st3 stop) λr s4 ⟨hr,I4⟩=>?_)
  subst hr
  exact wpAny_execs_nil ⟨σ3,H3,I4,qn⟩
 ·refine wpAny_passesOwn hp (gX (T.item X rfl rfl rfl hc i pins s3 σ3 H3 X.xe I3 (stat fr3) st3 go) λr s4 ⟨u,hr,h4⟩=>?_)
  subst hr
  refine wpAny_passesOwn hp (gX h4 λ_ s5 ⟨x,H5,I5,r5,y5,st5,fr5⟩=>?_)
  have I5':=I5.pinned (stat fr5) (T.obj _ _ st5)
  refine wpAny_passesOwn hp (gX (hg _ s5 σ3 H5 x u _ I5' r5 (step x H5 y5)) λ_ s6 ⟨σ6,H6,I6,q6⟩=>?_)
  refine wpAny_passesOwn hp (gX (hb _ s6 σ6 H6 _ I6 q6) λf s7 q7=>?_)
  have again:∀{σ7:St}{H7:Hp},Inv X (pins++RK fp s5.heap) σ7 H7 s7->N σ7 H7->∃m,m < n/\∃i σ' H',Inv X pins σ' H' s7/\tn i s7.heap/\(∀b∈fp,H' b=none)/\W i m σ' H':=λ{σ7 H7} I7 n7=>by
   obtain⟨m',hm,w7⟩:=hN σ7 H7 n7
   refine ⟨m',hm,i+1,σ7,H7,I7.unpinned,T.keep _ _ _ st5 λb hb o e=>(I7.pin (b,o) (P1 _ (P1 _ (NZ hb e)))).1,λb hb=>?_,w7⟩
   obtain⟨o,e,d⟩:=T.obj _ _ st5 b hb
   exact (I7.pin (b,o) (P1 _ (P1 _ (NZ hb e)))).2.1
  cases f with
  | next=>obtain⟨σ7,H7,I7,n7⟩:=q7;exact again I7 n7
  | cont=>obtain⟨σ7,H7,I7,n7⟩:=q7;exact again I7 n7
  | brk=>obtain⟨σ7,H7,I7,q7⟩:=q7;exact ⟨σ7,H7,I7.unpinned,q7⟩
  | ret v=>obtain⟨x7,σ7,H7,I7,r7,q7⟩:=q7;exact ⟨x7,σ7,H7,I7.unpinned,r7,q7⟩
end
noncomputable abbrev R2:=V->V->Hp->VK->Prop
noncomputable def OpR(X:Cx)(f:Value->Value->Sem Value)(r:R2):Prop :=
 ∀(pins:List (Addr×Obj)) (s:Shared) (σ:St) (H:Hp) (x y:V) (v u:Value) (Q:VK),Inv X pins σ H s->RelV x v->RelV y u->r x y H Q ->
  wpAny (model X.prog X.w) X.A (f v u) (EP X pins σ Q) X.xe s
noncomputable def CN(X:Cx)(f:Value->Sem Value)(r:V->Hp->VK->Prop):Prop :=
 ∀(pins:List (Addr×Obj)) (s:Shared) (σ:St) (H:Hp) (x:V) (v:Value) (Q:VK),Inv X pins σ H s->RelV x v->r x H Q ->
  wpAny (model X.prog X.w) X.A (f v) (EP X pins σ Q) X.xe s
noncomputable def hX(X:Cx)(f:Value)(r:List V->Hp->VK->Prop):Prop :=
 ∀(pins:List (Addr×Obj)) (s:Shared) (σ:St) (H:Hp) (xs:List V) (us:List Value) (Q:VK),Inv X pins σ H s->Vals xs us->r xs H Q ->
  wpAny (model X.prog X.w) X.A (call f us) (EP X pins σ Q) X.xe s
noncomputable def FB(r:R2)(ta tb:TE):TE:=λσ H Q=>ta σ H λx H1=>tb σ H1 λy H2=>r x y H2 Q
noncomputable def RO(r:V->Hp->VK->Prop)(ta:TE):TE:=λσ H Q=>ta σ H λx H1=>r x H1 Q
noncomputable def rI(C:Int->Int->Prop)(g:Int->Int->V):R2:=λx y H Q=>∃i j,x=.int i/\y=.int j/\C i j/\Q (g i j) H
noncomputable def tY(g:Int->Int->V):R2:=λx y H Q=>∃i j,x=.int i/\y=.int j/\Q (g i j) H
noncomputable def rU(g:Int->V):V->Hp->VK->Prop:=λx H Q=>∃i,x=.int i/\Q (g i) H
section
variable {X:Cx}{a b c:Expr}{ta tb tc:TE}{pos:Pos}
theorem GB(ha:PE X a ta)(hb:PE X b tb){pins:List (Addr×Obj)}{s:Shared}{σ:St}{H:Hp}{R:V->V->Hp->Prop}(I:Inv X pins σ H s)
  (h:ta σ H λx H1=>tb σ H1 λy H2=>R x y H2) {Q:Value->Shared->Prop}{f:Value->Value->Sem Value}
  (hf:∀v u s2 x y H2,Inv X pins σ H2 s2->RelV x v->RelV y u->R x y H2->wpAny (model X.prog X.w) X.A (f v u) Q X.xe s2) :
  wpAny (model X.prog X.w) X.A (eval a X.env) (λv s₁=>wpAny (model X.prog X.w) X.A (eval b X.env) (λu s₂=>wpAny (model X.prog X.w) X.A (f v u) Q X.xe s₂) X.xe s₁) X.xe s:=by
 refine gX (ha pins s σ H _ I h) λv s1 ⟨x,H1,I1,r1,q1⟩=>?_
 refine gX (hb pins s1 σ H1 _ I1 q1) λu s2 ⟨y,H2,I2,r2,q2⟩=>?_
 exact hf v u s2 x y H2 I2 r1 r2 q2
theorem rj{op:Operator}{r:R2}(ho:OpR X (binaryOp op) r)(ha:PE X a ta)(hb:PE X b tb):PE X (.BinOp a op b pos) (FB r ta tb):=by
 intro pins s σ H Q I h
 exact wpAny_BinOp (GB ha hb I h λv u s2 x y H2 I2 rx ry q=>ho pins s2 σ H2 x y v u Q I2 rx ry q)
theorem GI{op:UnaryOp}{r:V->Hp->VK->Prop}(ho:CN X (unaryOp op) r)(ha:PE X a ta):PE X (.UnaryOp op a pos) (RO r ta):=by
 intro pins s σ H Q I h
 exact UnaryOp_ (gX (ha pins s σ H _ I h) λv s1 ⟨x,H1,I1,r1,q1⟩=>ho pins s1 σ H1 x v Q I1 r1 q1)
theorem SM{f:Value->Value->Sem Value}{C:Int->Int->Prop}{g:Int->Int->Int}
  (rule:∀(i j:Int) (t u:Tok) (s:Shared) (Q:Value->Shared->Prop) (E:Value->Shared->Prop),C i j->Q (.int (g i j) s.toks) { s with toks:=s.toks+1 }->wpAny (model X.prog X.w) X.A (f (.int i t) (.int j u)) Q E s) :
  OpR X f (rI C λi j=>.int (g i j)):=by
 intro pins s σ H x y v u Q I rx ry h
 obtain⟨i,j,rfl,rfl,hc,q⟩:=h
 obtain⟨t,rfl⟩:=rx
 obtain⟨t',rfl⟩:=ry
 exact rule i j t t' s _ _ hc ⟨.int (g i j),H,I.tok _,⟨_,rfl⟩,q⟩
theorem HI{f:Value->Value->Sem Value}{g:Int->Int->Int}
  (rule:∀(i j:Int) (t u:Tok) (s:Shared) (Q:Value->Shared->Prop) (E:Value->Shared->Prop),Q (.int (g i j) s.toks) { s with toks:=s.toks+1 }->wpAny (model X.prog X.w) X.A (f (.int i t) (.int j u)) Q E s) :
  OpR X f (tY λi j=>.int (g i j)):=by
 intro pins s σ H x y v u Q I rx ry h
 obtain⟨i,j,rfl,rfl,q⟩:=h
 obtain⟨t,rfl⟩:=rx
 obtain⟨t',rfl⟩:=ry
 exact rule i j t t' s _ _ ⟨.int (g i j),H,I.tok _,⟨_,rfl⟩,q⟩
theorem jv{f:Value->Value->Sem Value}{g:Int->Int->Bool}
  (rule:∀(i j:Int) (t u:Tok) (s:Shared) (Q:Value->Shared->Prop) (E:Value->Shared->Prop),Q (.bool (g i j)) s->wpAny (model X.prog X.w) X.A (f (.int i t) (.int j u)) Q E s) :
  OpR X f (tY λi j=>.bl (g i j)):=by
 intro pins s σ H x y v u Q I rx ry h
 obtain⟨i,j,rfl,rfl,q⟩:=h
 obtain⟨t,rfl⟩:=rx
 obtain⟨t',rfl⟩:=ry
 exact rule i j t t' s _ _ ⟨.bl (g i j),H,I,rfl,q⟩
noncomputable def sj(i j:Int):Prop:=0 < j/\j < 1073741824
noncomputable def lv(i j:Int):Prop:=0<=j/\j<=1000000/\i.natAbs < 2 ^ 64
noncomputable def CMul(i j:Int):Prop:=(-(2 ^ 64) < i/\i < 2 ^ 64)\/(-(2 ^ 64) < j/\j < 2 ^ 64)
theorem CMul.ok{i j:Int}(h:CMul i j):IntMulOk i j:=by
 rcases h with⟨h1,h2⟩|⟨h1,h2⟩
 ·exact .of_left (intBits_le_64 h1 h2)
 ·exact .of_right (intBits_le_64 h1 h2)
theorem op_add:OpR X (binaryOp .Add) (tY λi j=>.int (i+j)):=HI λ_ _ _ _ _ _ _ q=>add_int q
theorem DZ:OpR X (binaryOp .Sub) (tY λi j=>.int (i - j)):=HI λ_ _ _ _ _ _ _ q=>sub_int q
theorem op_mul:OpR X (binaryOp .Mult) (rI CMul λi j=>.int (i * j)):=SM λ_ _ _ _ _ _ _ hc q=>mul_int q hc.ok
theorem HY:OpR X (binaryOp .FloorDiv) (rI sj λi j=>.int (i / j)):=SM λi j _ _ _ _ _ hc q=>by
 have h1:(0:Int) < j:=hc.1
 have h2:j < 1073741824:=hc.2
 exact floordiv_int (by omega) (by rw[Int.fdiv_eq_ediv_of_nonneg i (by omega)];exact q) (.inl (PyProof.noPylong_small (by omega)))
theorem eJ:OpR X (binaryOp .Mod) (rI (λ_ j=>0 < j) λi j=>.int (i % j)):=SM λi j _ _ _ _ _ hc q=>by
 have h1:(0:Int) < j:=hc
 exact mod_int' (by omega) (by rw[Int.fmod_eq_emod_of_nonneg i (by omega)];exact q)
theorem tj:OpR X (binaryOp .Pow) (rI lv λi j=>.int (i ^ j.toNat)):=SM λ_ _ _ _ _ _ _ hc q=>pow_int_small hc.1 hc.2.1 hc.2.2 q
theorem unI{f:Value->Sem Value}{g:Int->Int}
  (rule:∀(i:Int) (t:Tok) (s:Shared) (Q:Value->Shared->Prop) (E:Value->Shared->Prop),Q (.int (g i) s.toks) { s with toks:=s.toks+1 }->wpAny (model X.prog X.w) X.A (f (.int i t)) Q E s) :
  CN X f (rU λi=>.int (g i)):=by
 intro pins s σ H x v Q I rx h
 obtain⟨i,rfl,q⟩:=h
 obtain⟨t,rfl⟩:=rx
 exact rule i t s _ _ ⟨.int (g i),H,I.tok _,⟨_,rfl⟩,q⟩
theorem HB:CN X (unaryOp .USub) (rU λi=>.int (-i)):=unI λ_ _ _ _ _ q=>neg_int q
end
noncomputable def II:V->V->Bool
 | .non,.non=>true | .non,.int _=>true | .int _,.non=>true | .non,.bl _=>true | .bl _,.non=>true | .non,.str _=>true | .str _,.non=>true
 | .int _,.int _=>true | .bl _,.bl _=>true | .str _,.str _=>true | .byt _,.byt _=>true
 | .int _,.str _=>true | .str _,.int _=>true | .bl _,.str _=>true | .str _,.bl _=>true
 | _,_=>false
noncomputable def TM:R2:=λx y H Q=>II x y=true/\Q (.bl (decide (x=y))) H
noncomputable def UM:R2:=λx y H Q=>II x y=true/\Q (.bl (!decide (x=y))) H
theorem IY{i j:Int}:decide (V.int i=V.int j)=(i==j):=by
 rw[N5]
 simp
theorem uj{i j:Bool}:decide (V.bl i=V.bl j)=(i==j):=by
 rw[N5]
 simp
theorem JY{i j:Str}:decide (V.str i=V.str j)=(i==j):=by
 rw[N5]
 simp
theorem aD{i j:Array UInt8}:decide (V.byt i=V.byt j)=(i.toList==j.toList):=by
 rw[N5]
 cases i
 cases j
 simp
section
variable {X:Cx}{a b c:Expr}{ta tb tc:TE}{pos:Pos}
theorem FQ{pins:List (Addr×Obj)}{σ:St}{H:Hp}{s:Shared}{Q:VK}{k k':Bool}(I:Inv X pins σ H s)(q:Q (.bl k) H)(e:k=k'):EP X pins σ Q (.bool k') s:=by
 subst e
 exact ⟨.bl k,H,I,rfl,q⟩
theorem op_eq:OpR X (compareOp .Eq) TM:=by
 intro pins s σ H x y v u Q I rx ry h
 obtain⟨hs,q⟩:=h
 cases x with
 | non =>
  cases rx
  cases y with
  | non=>cases ry;exact PySem.EqNone.eq_none_none (FQ I q (by simp))
  | bl j=>cases ry;exact PySem.EqNone.eq_none_bool (FQ I q (by simp))
  | int j=>obtain⟨t',rfl⟩:=ry;exact PySem.EqNone.eq_none_int (FQ I q (by simp))
  | str j=>obtain⟨t',rfl⟩:=ry;exact PySem.EqNone.eq_none_str (FQ I q (by simp))
  | _=>exact absurd (show false=true from hs) G1
 | bl i =>
  cases rx
  cases y with
  | non=>cases ry;exact PySem.EqNone.eq_bool_none (FQ I q (by simp))
  | bl j=>cases ry;exact eq_bool (FQ I q uj)
  | str j=>obtain⟨t',rfl⟩:=ry;exact PySem.EqMixed.eq_bool_str (FQ I q (by simp))
  | _=>exact absurd (show false=true from hs) G1
 | int i =>
  obtain⟨t,rfl⟩:=rx
  cases y with
  | non=>cases ry;exact PySem.EqNone.eq_int_none (FQ I q (by simp))
  | int j=>obtain⟨t',rfl⟩:=ry;exact eq_int (FQ I q IY)
  | str j=>obtain⟨t',rfl⟩:=ry;exact PySem.EqMixed.eq_int_str (FQ I q (by simp))
  | _=>exact absurd (show false=true from hs) G1
 | str i =>
  obtain⟨t,rfl⟩:=rx
  cases y with
  | non=>cases ry;exact PySem.EqNone.eq_str_none (FQ I q (by simp))
  | bl j=>cases ry;exact PySem.EqMixed.eq_str_bool (FQ I q (by simp))
  | int j=>obtain⟨t',rfl⟩:=ry;exact PySem.EqMixed.eq_str_int (FQ I q (by simp))
  | str j=>obtain⟨t',rfl⟩:=ry;exact eq_str (FQ I q JY)
  | _=>exact absurd (show false=true from hs) G1
 | byt i =>
  obtain⟨t,rfl⟩:=rx
  cases y with
  | byt j=>obtain⟨t',rfl⟩:=ry;exact PySem.W.eq_bytes (FQ I q aD)
  | _=>exact absurd (show false=true from hs) G1
 | _=>cases y<;>exact absurd (show false=true from hs) G1
theorem op_ne:OpR X (compareOp .NotEq) UM:=by
 intro pins s σ H x y v u Q I rx ry h
 obtain⟨hs,q⟩:=h
 cases x with
 | non =>
  cases rx
  cases y with
  | non=>cases ry;exact PySem.EqNone.ne_none_none (FQ I q (by simp))
  | bl j=>cases ry;exact PySem.EqNone.ne_none_bool (FQ I q (by simp))
  | int j=>obtain⟨t',rfl⟩:=ry;exact PySem.EqNone.ne_none_int (FQ I q (by simp))
  | str j=>obtain⟨t',rfl⟩:=ry;exact PySem.EqNone.ne_none_str (FQ I q (by simp))
  | _=>exact absurd (show false=true from hs) G1
 | bl i =>
  cases rx
  cases y with
  | non=>cases ry;exact PySem.EqNone.ne_bool_none (FQ I q (by simp))
  | bl j=>cases ry;exact ne_bool (FQ I q (congrArg not uj))
  | str j=>obtain⟨t',rfl⟩:=ry;exact PySem.EqMixed.ne_bool_str (FQ I q (by simp))
  | _=>exact absurd (show false=true from hs) G1
 | int i =>
  obtain⟨t,rfl⟩:=rx
  cases y with
  | non=>cases ry;exact PySem.EqNone.ne_int_none (FQ I q (by simp))
  | int j=>obtain⟨t',rfl⟩:=ry;exact ne_int (FQ I q (congrArg not IY))
  | str j=>obtain⟨t',rfl⟩:=ry;exact PySem.EqMixed.ne_int_str (FQ I q (by simp))
  | _=>exact absurd (show false=true from hs) G1
 | str i =>
  obtain⟨t,rfl⟩:=rx
  cases y with
  | non=>cases ry;exact PySem.EqNone.ne_str_none (FQ I q (by simp))
  | bl j=>cases ry;exact PySem.EqMixed.ne_str_bool (FQ I q (by simp))
  | int j=>obtain⟨t',rfl⟩:=ry;exact PySem.EqMixed.ne_str_int (FQ I q (by simp))
  | str j=>obtain⟨t',rfl⟩:=ry;exact ne_str (FQ I q (congrArg not JY))
  | _=>exact absurd (show false=true from hs) G1
 | byt i =>
  obtain⟨t,rfl⟩:=rx
  cases y with
  | byt j=>obtain⟨t',rfl⟩:=ry;exact PySem.W.ne_bytes (FQ I q (congrArg not aD))
  | _=>exact absurd (show false=true from hs) G1
 | _=>cases y<;>exact absurd (show false=true from hs) G1
theorem aW:OpR X (compareOp .Lt) (tY λi j=>.bl (decide (i < j))):=jv λ_ _ _ _ _ _ _ q=>lt_int q
theorem fH:OpR X (compareOp .LtE) (tY λi j=>.bl (decide (i<=j))):=jv λ_ _ _ _ _ _ _ q=>le_int q
theorem bD:OpR X (compareOp .Gt) (tY λi j=>.bl (decide (j < i))):=jv λ_ _ _ _ _ _ _ q=>gt_int q
theorem JI:OpR X (compareOp .GtE) (tY λi j=>.bl (decide (j<=i))):=jv λ_ _ _ _ _ _ _ q=>ge_int q
theorem OpR.or{f:Value->Value->Sem Value}{r r':R2}(h:OpR X f r)(h':OpR X f r'):OpR X f (λx y H Q=>r x y H Q\/r' x y H Q):=by
 intro pins s σ H x y v u Q I rx ry q
 rcases q with q|q
 ·exact h pins s σ H x y v u Q I rx ry q
 ·exact h' pins s σ H x y v u Q I rx ry q
theorem vj(b:Expr){op:CmpOp}(h:op≠.In:=by decide)(h2:op≠.NotIn:=by decide):behindInMarks op b=false:=by
 have e1:(op==CmpOp.In)=false:=by cases op<;>first|rfl|exact absurd rfl h
 have e2:(op==CmpOp.NotIn)=false:=by cases op<;>first|rfl|exact absurd rfl h2
 cases b<;>simp[behindInMarks,e1,e2]
theorem cD{op:CmpOp}{r:R2}(ho:OpR X (compareOp op) r)(ha:PE X a ta)(hb:PE X b tb)(hm:behindInMarks op b=false):PE X (.Compare a [op] [b] pos) (FB r ta tb):=by
 intro pins s σ H Q I h
 exact wpAny_Compare1 (GB ha hb I h λv u s2 x y H2 I2 rx ry q=>ho pins s2 σ H2 x y v u Q I2 rx ry q) hm
noncomputable def wj(t:TE):TT:=λσ H Q=>t σ H λx H'=>∃k,x=.bl k/\Q k H'
theorem nv{op:CmpOp}{r:R2}(ho:OpR X (compareOp op) r)(ha:PE X a ta)(hb:PE X b tb)(hm:behindInMarks op b=false):PT X (.Compare a [op] [b] pos) (wj (FB r ta tb)):=by
 intro pins s σ H Q I h
 refine wpAny_isTrue_Compare1 (gX (ha pins s σ H _ I h) λv s1 ⟨x,H1,I1,r1,q1⟩=>gX (hb pins s1 σ H1 _ I1 q1) λu s2 ⟨y,H2,I2,r2,q2⟩ =>
   gX (ho pins s2 σ H2 x y v u _ I2 r1 r2 q2) λc s3 ⟨z,H3,I3,r3,k,e,q3⟩=>?_) hm
 subst e
 cases r3
 exact wpAny_truthy_bool ⟨H3,I3,q3⟩
noncomputable def LG(r r':R2)(ta tb tc:TE):TE:=λσ H Q=>ta σ H λx H1=>tb σ H1 λy H2=>r x y H2 λz H3=>∃k,z=.bl k /\
 (if k=true then tc σ H3 λw' H4=>r' y w' H4 Q else Q (.bl false) H3)
theorem xj{op op':CmpOp}{r r':R2}(ho:OpR X (compareOp op) r)(ho':OpR X (compareOp op') r')(ha:PE X a ta)(hb:PE X b tb)(hc:PE X c tc)
  (hm:lastMarks [op,op'] [b,c]=false:=by with_unfolding_all rfl):PE X (.Compare a [op,op'] [b,c] pos) (LG r r' ta tb tc):=by
 intro pins s σ H Q I h
 refine Compare_chain (gX (ha pins s σ H _ I h) λv s1 ⟨x,H1,I1,r1,q1⟩=>chain_link (gX (hb pins s1 σ H1 _ I1 q1) λu s2 ⟨y,H2,I2,r2,q2⟩ =>
   gX (ho pins s2 σ H2 x y v u _ I2 r1 r2 q2) λd s3 ⟨z,H3,I3,r3,k,e,q3⟩=>?_)) hm
 subst e
 cases r3
 refine wpAny_truthy_bool ?_
 cases k with
 | false=>exact ite_ff ⟨.bl false,H3,I3,rfl,q3⟩
 | true=>exact ite_tt (chain_last (gX (hc pins s3 σ H3 _ I3 q3) λw' s4 ⟨z',H4,I4,r4,q4⟩=>ho' pins s4 σ H4 y z' u w' Q I4 r2 r4 q4))
theorem mU:(sizeLine:Nat) < 2 ^ 63:=by rw[sizeLine_eq];decide
theorem VZ{x:V}{us:List Value}(r:Vals [x] us):∃u,us=[u]/\RelV x u:=by
 cases r with
 | cons r1 r2=>cases r2;exact ⟨_,rfl,r1⟩
theorem KJ{x y:V}{us:List Value}(r:Vals [x,y] us):∃u w',us=[u,w']/\RelV x u/\RelV y w':=by
 cases r with
 | cons r1 r2 =>
  cases r2 with
  | cons r3 r4=>cases r4;exact ⟨_,_,rfl,r1,r3⟩
theorem gH:hX X (.builtin "abs") (λxs H Q=>∃i,xs=[.int i]/\Q (.int (if i < 0 then -i else i)) H):=by
 intro pins s σ H xs us Q I r h
 obtain⟨i,rfl,q⟩:=h
 obtain⟨u,rfl,t,rfl⟩:=VZ r
 exact call_abs_int λu tk=>⟨.int (if i < 0 then -i else i),H,I.tok _,⟨_,rfl⟩,q⟩
theorem BV(hc:X.calm=true):hX X (.builtin "max") (λxs H Q=>∃i j,xs=[.int i,.int j]/\Q (.int (if j > i then j else i)) H):=by
 intro pins s σ H xs us Q I r h
 obtain⟨i,j,rfl,q⟩:=h
 obtain⟨u,w',rfl,⟨t,rfl⟩,⟨t',rfl⟩⟩:=KJ r
 refine max_two_ints (I.ok.hd hc) λh' tk k=>⟨_,H,I.kept k,?_,q⟩
 by_cases hj:j > i
 ·rw[if_pos hj,if_pos hj];exact ⟨_,rfl⟩
 ·rw[if_neg hj,if_neg hj];exact ⟨_,rfl⟩
theorem Pq(hc:X.calm=true):hX X (.builtin "min") (λxs H Q=>∃i j,xs=[.int i,.int j]/\Q (.int (if j < i then j else i)) H):=by
 intro pins s σ H xs us Q I r h
 obtain⟨i,j,rfl,q⟩:=h
 obtain⟨u,w',rfl,⟨t,rfl⟩,⟨t',rfl⟩⟩:=KJ r
 refine min_two_ints (I.ok.hd hc) λh' tk k=>⟨_,H,I.kept k,?_,q⟩
 by_cases hj:j < i
 ·rw[if_pos hj,if_pos hj];exact ⟨_,rfl⟩
 ·rw[if_neg hj,if_neg hj];exact ⟨_,rfl⟩
end
structure ObjM(h:Heap)(x dx C:Addr)(mA:Str->Option Value):Prop where
 obj:h.get? x=some (N9 C dx)
 ns:h.Ns1 dx mA
 ne:dx≠x
section
variable {prog:Program}{w:World}{A:Around}{E:Value->Shared->Prop}{s:Shared}{K:q0}{x dx C f:Addr}{mA:Str->Option Value}{name:Str}{v:Value}
end
theorem RelO.some_of{v:V}{o:Option Value}(r:RelO (some v) o):∃u,o=some u/\RelV v u:=by
 cases o with
 | none=>exact (show False from r).elim
 | some u=>exact ⟨u,rfl,r⟩
section
variable {P:Program}{w:World}{H H':Hp}{h h':Heap}{a C dx:Addr}{fs fs':List (Str×V)}
end
structure Cls(K:q0)(C:Addr):Prop where
 pg:PySem.W.plainGet K C Str.empty=true
 hd:PySem.W.hasDictIn K C=true
 po:PySem.W.plainOver K C=true
 sa:T6 K (.ref C) "__setattr__"=some (some (.builtin "object.__setattr__"))
structure Con(K:q0)(C:Addr)(f:Str)(v:V)(u:Value):Prop where
 at_:T6 K (.ref C) f=some (some u)
 rel:RelV v u
 get:K9 K u "__get__"=some none
 cp:PySem.W.copiedNames.contains f=false
structure Meth(K:q0)(C:Addr)(m:Str)(f:Addr):Prop where
 at_:T6 K (.ref C) m=some (some (.ref f))
 fn:PySem.W.isFn K (.ref f)=true
 kp:A5 K (.ref f)=true
section
variable {X:Cx}{pins:List (Addr×Obj)}{σ:St}{H:Hp}{s:Shared}{a C dx:Addr}{fs:List (Str×V)}{f:Str}{v:V}{A:Around}{E:Value->Shared->Prop}
end
section
variable {X:Cx}{o e value:Expr}{f:Str}{pos pos' tpos:Pos}{ta tv:TE}
end
section
variable {X:Cx}{pins:List (Addr×Obj)}{σ:St}{H:Hp}{s:Shared}{A:Around}{E:Value->Shared->Prop}{Q:Value->Shared->Prop}{c:Value}{b:Bool}
inductive TyOf (K:q0) (H:Hp):V->Value->Prop where
 | non:TyOf K H .non (.type "NoneType")
 | bl (x:Bool):TyOf K H (.bl x) (.type "bool")
 | int (i:Int):TyOf K H (.int i) (.type "int")
 | str (x:Str):TyOf K H (.str x) (.type "str")
 | flt (x:UInt64):TyOf K H (.flt x) (.type "float")
 | lst {a:Addr}{xs:List V} (e:H a=some (.lst xs)):TyOf K H (.ref a) (.type "list")
 | frz {a:Addr}{o:Obj}{xs:List V} (e:H a=some (.frz o (.lst xs))):TyOf K H (.ref a) (.type "list")
 | tup {a:Addr}{xs:List V} (e:H a=some (.tup xs)):TyOf K H (.ref a) (.type "tuple")
 | dK {a:Addr}{kvs:List (GQ×V)} (e:H a=some (.dK kvs)):TyOf K H (.ref a) (.type "dict")
 | dT {a:Addr}{kvs:List (List GQ×V)} (e:H a=some (.dT kvs)):TyOf K H (.ref a) (.type "dict")
 | ins {a C dx:Addr}{fs:List (Str×V)} (e:H a=some (.ins C dx fs)) (cl:Cls K C) (ha:T6 K (.ref C) "__class__"=some (some (.builtin "object.__class__")))
   (hn:K9 K (.builtin "object.__class__") "__get__"=some (some (.builtin "getset_descriptor.__get__"))) (htk:PySem.W.takesIn K (.builtin "object.__class__")=some true)
   (hm:PySem.W.mroIn K C (.type "object")=some true):TyOf K H (.ref a) (.ref C)
end
structure Room(k:Nat)(A:Around):Prop where
 hd:A.handled=none
 dp:A.depth+3 * k+5 < recursionLimit
 un:A.units+16 * k+200 < cLine
 gd:A.guards=some []
theorem Room.mono{j k:Nat}{A:Around}(r:Room k A)(h:j<=k):Room j A:=⟨r.hd,by have:=r.dp;omega,by have:=r.un;omega,r.gd⟩
theorem Room.deeper{k:Nat}{A:Around}(r:Room (k+1) A)(env:Env):Room k (A.deeper env) :=
 ⟨r.hd,by have:=r.dp;show A.depth+1+3 * k+5 < _;omega,by have:=r.un;show A.units+3+16 * k+200 < _;omega,r.gd⟩
theorem Room.depth{k:Nat}{A:Around}(r:Room k A):A.depth < recursionLimit:=by have:=r.dp;omega
theorem Room.units{k:Nat}{A:Around}(r:Room k A):A.units+64 < cLine:=by have:=r.un;omega
noncomputable def bW:TA:=λ_ H Q=>Q [] H
noncomputable def uY(ta:TE)(tr:TA):TA:=λσ H Q=>ta σ H λx H1=>tr σ H1 λxs H2=>Q (x :: xs) H2
section
variable {X:Cx}{e:Expr}{es:List Expr}{te:TE}{t:TA}{pos:Pos}
theorem fJ:PA X [] bW:=λ_ _ _ _ H Q I h=>Calls.spliced_nil ⟨[],H,I,.nil,h⟩
theorem CJ(ha:PE X e te)(hr:PA X es t)(hs:starEach (e :: es) X.env=(false,eval e X.env) :: starEach es X.env:=by rfl):PA X (e :: es) (uY te t):=by
 intro pos pins s σ H Q I h
 rw[hs]
 show wpAny _ _ (spliced ((false,eval e X.env) :: backTo pos (starEach es X.env))) _ _ s
 refine Calls.spliced_cons (gX (ha pins s σ H _ I h) λu s1 ⟨x,H1,I1,r1,q1⟩=>?_)
 exact gX (hr pos pins s1 σ H1 _ I1 q1) λus s2 ⟨xs,H2,I2,r2,q2⟩=>⟨x :: xs,H2,I2,.cons r1 r2,q2⟩
noncomputable def IB(t:TA):TE:=λσ H Q=>t σ H λxs H1=>xs.length<=sizeLine/\∀p,H1 p=none->Q (.ref p) (HQ H1 p (.tup xs))
noncomputable def iH(t:TA):TE:=λσ H Q=>t σ H λxs H1=>xs.length<=sizeLine/\∀p,H1 p=none->Q (.ref p) (HQ H1 p (.lst xs))
theorem JB{x1}(h:PA X es t):PE X (.Tuple es x1 pos) (IB t):=by
 intro pins s σ H Q I hq
 refine wpAny_Tuple_spliced (gX (h pos pins s σ H _ I hq) λus s1 ⟨xs,H1,I1,r,z,q⟩=>⟨by rw[<- r.length];exact z,?_⟩)
 have hf:H1 s1.heap.objs.size=none:=I1.hok.fresh (G0 _)
 refine ⟨.ref s1.heap.objs.size,HQ H1 s1.heap.objs.size (.tup xs),I1.laid (t':=s1.toks) (λb u e=>g0 _ e) (G0 _) ?_,rfl,q _ hf⟩
 exact ⟨z,us,r,⟨_,J0 _ rfl,rfl,_,rfl,rfl⟩⟩
theorem cW(h:PA X es t):PE X (.List es pos) (iH t):=by
 intro pins s σ H Q I hq
 refine wpAny_List_spliced (gX (h pos pins s σ H _ I hq) λus s1 ⟨xs,H1,I1,r,z,q⟩=>⟨by rw[<- r.length];exact z,?_⟩)
 have hf:H1 s1.heap.objs.size=none:=I1.hok.fresh (G0 _)
 refine ⟨.ref s1.heap.objs.size,HQ H1 s1.heap.objs.size (.lst xs),I1.laid (t':=s1.toks) (λb u e=>g0 _ e) (G0 _) ?_,rfl,q _ hf⟩
 exact ⟨z,us,0,r,J0 _ rfl⟩
end
noncomputable abbrev Sp:=List V->Hp->VK->XK->Prop
noncomputable abbrev yj:=List Env->Hp->Shared->XK->Value->Shared->Prop
structure Env0(P:Program)(w:World)(K:q0)(mg:Str->Option Value)(base:Heap)(A:Around)(outer:List Env)(s:Shared)(H:Hp):Prop where
 frames:A.frames=some outer
 mod:Mod K mg base
 bs:∀b o,base.get? b=some o->s.heap.get? b=some o/\H b=none
 bsz:base.objs.size<=s.heap.objs.size
 funs:s.heap.FunFrames base outer
 frf:∀b∈XF outer,H b=none
 hok:HOk P w H s.heap
 bare:AllBare s.gens
noncomputable def CE(outer:List Env)(P:Program)(w:World)(H:Hp)(s:Shared)(Q:VK)(u:Value)(s':Shared):Prop :=
 ∃v H',s'.os=s.os/\AllBare s'.gens/\Un (XF outer) [] H H' s.heap s'.heap/\HOk P w H' s'.heap/\RelV v u/\Q v H'
noncomputable def CR(CX:yj)(outer:List Env)(P:Program)(w:World)(H:Hp)(s:Shared)(Q:VK)(E:XK)(r:Result)(s':Shared):Prop :=
 match r with
 | .ok (.ret u)=>CE outer P w H s Q u s'
 | .ok _=>False
 | .error e=>CX outer H s E e s'
structure FnOk(P:Program)(w:World)(K:q0)(mg:Str->Option Value)(base:Heap)(CX:yj)(k:Nat)(f:Addr)(fd:FuncData)(ps:List Str)(sp:Sp):Prop where
 len:∀vs H Q E,sp vs H Q E->vs.length=ps.length
 run:∀(A:Around) (outer:List Env) (s:Shared) (H:Hp) (args:Args) (us:List Value) (vs:List V) (Q:VK) (E:XK),Room k A->Env0 P w K mg base A outer s H->BindsTo s fd args (ps.zip us)->Vals vs us->sp vs H Q E ->
  codeAny (model P w) A (.call (.ref f) args) (CR CX outer P w H s Q E) s
section
variable {X:Cx}{pins:List (Addr×Obj)}{σ:St}{H:Hp}{s s':Shared}
theorem Inv.env0(I:Inv X pins σ H s):Env0 X.prog X.w X.K X.mg X.base X.A X.stack s H :=
 ⟨I.ok.frames,I.ok.mod,I.bs,A1 I.ok.bsz I.sz,I.stack,I.stkFree,I.hok,I.bare⟩
theorem Inv.after{Q:VK}{u:Value}(I:Inv X pins σ H s)(h:CE X.stack X.prog X.w H s Q u s'):EP X pins σ Q u s':=by
 obtain⟨v,H',os,bare,un,hok,r,q⟩:=h
 obtain⟨hh,g,d,t,os'⟩:=s'
 obtain rfl:os'=s.os:=os
 exact ⟨v,H',I.call (h':=hh) (g':=g) (d':=d) (t':=t) (ch:=[]) un hok bare (λb z=>absurd z (by simp)),r,q⟩
end
noncomputable def vY(sp:Sp)(dvs:List V)(E:XK)(t:TA):TE:=λσ H Q=>t σ H λvs H1=>sp (vs++dvs) H1 Q E
noncomputable def Binds(K:q0)(fd:FuncData)(ps:List Str)(ds:List Value):Prop :=
 ∀(s:Shared) (us:List Value),K.In s.heap->(us++ds).length=ps.length->BindsTo s fd ⟨us,[]⟩ (ps.zip (us++ds))
theorem Binds.all{K:q0}{fd:FuncData}{ps:List Str}(h:∀us:List Value,us.length=ps.length->bindArgs fd ⟨us,[]⟩=pure (ps.zip us)):Binds K fd ps []:=λs us _ hl=>by
 rw[P2]at hl ⊢
 exact .of_eq (h us hl)
noncomputable def MG(CX:yj)(X:Cx)(E:XK):Prop:=∀(pins:List (Addr×Obj)) (σ:St) (H:Hp) (s:Shared) (e:Value) (s':Shared),Inv X pins σ H s->CX X.stack H s E e s'->X.xe e s'
section
variable {X:Cx}{CX:yj}{k:Nat}{f C:Addr}{fd:FuncData}{ps:List Str}{sp:Sp}{dvs:List V}{ds:List Value}{E:XK}{x m:Str}{p pos apos:Pos}{e o:Expr}{es:List Expr}{ta:TE}{t:TA}
theorem KB{pins:List (Addr×Obj)}{σ:St}{H:Hp}{s:Shared}{Q:VK}{us:List Value}{vs:List V}(F:FnOk X.prog X.w X.K X.mg X.base CX k f fd ps sp)(hr:Room k X.A)(hb:Binds X.K fd ps ds)(hd:Vals dvs ds)(hx:MG CX X E)
  (I:Inv X pins σ H s) (r:Vals vs us) (h:sp (vs++dvs) H Q E):wpAny (model X.prog X.w) X.A (call (.ref f) us) (EP X pins σ Q) X.xe s:=by
 have r2:Vals (vs++dvs) (us++ds):=r.append hd
 have hl:(us++ds).length=ps.length:=by rw[<- r2.length];exact F.len _ _ _ _ h
 refine wpAny_call (codeAny_mono (F.run X.A X.stack s H ⟨us,[]⟩ (us++ds) (vs++dvs) Q E hr I.env0 (hb s us I.kIn hl) r2 h) λr s' hq=>?_)
 cases r with
 | error e=>exact hx pins σ H s e s' I hq
 | ok fl =>
  cases fl with
  | ret u=>exact I.after hq
  | next=>exact False.elim hq
  | brk=>exact False.elim hq
  | cont=>exact False.elim hq
theorem qv(F:FnOk X.prog X.w X.K X.mg X.base CX k f fd ps sp)(hr:Room k X.A)(hg:Gl X x)(hm:X.mg x=some (.ref f))(hk:A5 X.K (.ref f)=true)(hb:Binds X.K fd ps ds)(hd:Vals dvs ds)(hx:MG CX X E)
  (ha:PA X (e :: es) t) (hdb:(x==("__debug__":Str))=false:=by decide) (he:starEach (e :: es) X.env=(false,eval e X.env) :: starEach es X.env:=by rfl) (hpl:(backTo pos (starEach es X.env)).any (·.1)=false:=by rfl) :
  PE X (.Call (.Name x p) (e :: es) [] pos) (vY sp dvs E t):=by
 intro pins s σ H Q I h
 refine wpAny_Call_Name_kw (Zw I hg hm ?_ hdb)
 refine PySem.W.callWith_K (h₀:=X.base) I.ok.mod.kin hk (gX (ha pos pins s σ H _ I h) λus s1 ⟨vs,H1,I1,r,q⟩=>⟨I1.kIn,?_⟩) he hpl
 exact KB F hr hb hd hx I1 r q
structure Mk(K:q0)(C f:Addr):Prop where
 makes:PySem.W.makesIn K C=true
 init:T6 K (.ref C) "__init__"=some (some (.ref f))
 fn:PySem.W.isFn K (.ref f)=true
 kp:A5 K (.ref C)=true
end
section
variable {X:Cx}{CX:yj}{k:Nat}{f C:Addr}{fd:FuncData}{ps ks:List Str}{sp:Sp}{E:XK}{x m:Str}{p pos apos kpos:Pos}{e o:Expr}{es:List Expr}{kws:List Keyword}{te ta:TE}{t tk:TA}{nm:Option Str}
structure KBinds(K:q0)(fd:FuncData)(ps ks:List Str)(g:List Value->List Value->List Value)(gV:List V->List V->List V):Prop where
 to:∀(s:Shared) (us ws:List Value),K.In s.heap->(g us ws).length=ps.length->BindsTo s fd ⟨us,ks.zip ws⟩ (ps.zip (g us ws))
 rel:∀{vs:List V}{us:List Value}{zs:List V}{ws:List Value},Vals vs us->Vals zs ws->Vals (gV vs zs) (g us ws)
variable {g:List Value->List Value->List Value}{gV:List V->List V->List V}
end
structure FnScope(N P:List Str)(sc:Scope):Prop where
 kind:sc.kind=.function
 co:sc.isCoroutine=false
 gen:sc.isGenerator=false
 nd:N.Nodup
 pre:N.take P.length=P
 par:∀x∈P,sc.names.lookup x=some .local\/sc.names.lookup x=some .cell
 nofree:∀y∈sc.names,y.2≠.free
theorem CV{kindOf:Str->Option NameKind}{x:Str}:∀{binds:List (Str×Value)}{m:Str->Option Value},(∀v,(x,v)∉binds)->bindL kindOf binds m x=m x
 | [],_,_=>rfl
 | (n,v) :: r,m,h=>by
  unfold bindL
  rw[CV λw hw=>h w (u0 _ hw)]
  split
  ·have:x≠n:=by rintro rfl;exact h v A0
   simp[this]
  ·rfl
theorem DV{kindOf:Str->Option NameKind}{x:Str}:∀{binds:List (Str×Value)}{m:Str->Option Value},(∀v,(x,v)∉binds)->bindC kindOf binds m x=m x
 | [],_,_=>rfl
 | (n,v) :: r,m,h=>by
  unfold bindC
  rw[DV λw hw=>h w (u0 _ hw)]
  split
  ·rfl
  ·have:x≠n:=by rintro rfl;exact h v A0
   simp[this]
theorem EV{kindOf:Str->Option NameKind}{x:Str}{v:Value}:∀{P:List Str}{vs:List Value}{i:Nat}{m:Str->Option Value},P.Nodup->P[i]?=some x->vs[i]?=some v->kindOf x=some .local ->
  bindL kindOf (P.zip vs) m x=some v
 | [],_,_,_,_,h,_,_=>by simp at h
 | _ :: _,[],_,_,_,_,h,_=>by simp at h
 | p :: P,w :: vs,0,m,nd,h1,h2,hk=>by
  simp at h1 h2;subst h1;subst h2
  show bindL kindOf ((p,w) :: P.zip vs) m p=_
  unfold bindL
  rw[CV λv hv=>(Z4.mp nd).1 (K4 hv).1,if_pos hk]
  simp
 | p :: P,w :: vs,i+1,m,nd,h1,h2,hk=>by
  show bindL kindOf ((p,w) :: P.zip vs) m x=_
  unfold bindL
  exact EV (i:=i) (Z4.mp nd).2 (by simpa using h1) (by simpa using h2) hk
theorem FV{kindOf:Str->Option NameKind}{x:Str}{v:Value}:∀{P:List Str}{vs:List Value}{i:Nat}{m:Str->Option Value},P.Nodup->P[i]?=some x->vs[i]?=some v->kindOf x≠some .local ->
  bindC kindOf (P.zip vs) m x=some v
 | [],_,_,_,_,h,_,_=>by simp at h
 | _ :: _,[],_,_,_,_,h,_=>by simp at h
 | p :: P,w :: vs,0,m,nd,h1,h2,hk=>by
  simp at h1 h2;subst h1;subst h2
  show bindC kindOf ((p,w) :: P.zip vs) m p=_
  unfold bindC
  rw[DV λv hv=>(Z4.mp nd).1 (K4 hv).1,if_neg hk]
  simp
 | p :: P,w :: vs,i+1,m,nd,h1,h2,hk=>by
  show bindC kindOf ((p,w) :: P.zip vs) m x=_
  unfold bindC
  exact FV (i:=i) (Z4.mp nd).2 (by simpa using h1) (by simpa using h2) hk
noncomputable def start(N:List Str)(vs:List V):St:=vs.map some++V1 (N.length - vs.length) none
noncomputable def jH(CX:yj)(P:Program)(w:World)(K:q0)(mg:Str->Option Value)(base:Heap)(N:List Str)(qual:Str)(scope:Scope)(f:Addr)(cd:Value)(A:Around)(outer:List Env)(s:Shared)(H:Hp)(E:XK):Cx where
 prog:=P
 w:=w
 K:=K
 mg:=mg
 base:=base
 A:=A.deeper (envOfC qual scope s.heap.objs.size f cd)
 N:=N
 s₀:=s
 H₀:=H
 env:=envOfC qual scope s.heap.objs.size f cd
 outer:=outer
 stack:=envOfC qual scope s.heap.objs.size f cd :: outer
 ex:=[]
 calm:=true
 fn:=λ_=>true
 pn:=[]
 xe:=λe s'=>wpAny (model P w) (A.deeper (envOfC qual scope s.heap.objs.size f cd)) (leaving (envOfC qual scope s.heap.objs.size f cd) e) (λ_ s''=>CX outer H s E e s'') (λe' s''=>CX outer H s E e' s'') s'
theorem lK{sc:Scope}{n:Nat}{x:Str}(h:sc.names.lookup x=some .cell):∃c,(cellsFrom n sc.names []).lookup x=some c:=by
 have q:=F8 sc.names n [] (.inl h)
 exact m8.mp q
theorem Qq{CX:yj}{P:Program}{w:World}{K:q0}{mg:Str->Option Value}{base:Heap}{N ps:List Str}{qual:Str}{scope:Scope}{f:Addr}{cd:Value}{A:Around}{outer:List Env}{s s1:Shared}{H:Hp}{E:XK}{us:List Value}{vs:List V}
  (S:FnScope N ps scope) (hd:A.handled=none) (e0:Env0 P w K mg base A outer s H) (hl:vs.length=ps.length) (r:Vals vs us)
  (x:InCallC s s.heap.objs.size (bindL (envOfC qual scope s.heap.objs.size f cd).kindOf (ps.zip us) λ_=>none) (cellsFrom (s.heap.objs.size+1) scope.names []) (bindC (envOfC qual scope s.heap.objs.size f cd).kindOf (ps.zip us) λ_=>none) s1) :
  Inv (jH CX P w K mg base N qual scope f cd A outer s H E) [] (start N vs) H s1:=by
 have hpl:ps.length<=N.length:=by have:=congrArg U4 S.pre;rw[S3]at this;omega
 obtain⟨h1,tk,rfl,hk⟩:=x.done
 have noA:∀b:Addr,b∉(jH CX P w K mg base N qual scope f cd A outer s H E).ex:=λb z=>absurd (show b∈([]:List Addr) from z) (by simp)
 refine ⟨⟨e0.mod,S.kind,rfl,rfl,G0 _,λy z c h1 h2=>?_,λy hy=>?_,λy c _ h=>?_,λ_=>hd,Around.frames_deeper e0.frames,.inr ⟨rfl,rfl⟩,λb z=>absurd z (noA b),e0.bs,e0.bsz,λb _ _=>noA b,λb z=>absurd z (noA b),e0.funs,e0.frf⟩,
   rfl,e0.bare,Un.kept hk,⟨_,x.toInCall.ns,λi y v h1 h2 h3=>?_⟩,λy c h=>⟨_,x.cell y c h⟩,e0.hok.fresh (G0 _),λy c h=>?_,λp hp=>absurd (show p∈([]:List (Addr×Obj)) from hp) (by simp),e0.hok.kept hk,?_⟩
 ·exact name_of_addr x.apart (PySem.mem_of_lookup h1) (PySem.mem_of_lookup h2)
 ·have hy:scope.names.lookup y=some .cell\/scope.names.lookup y=some .free:=hy
  rcases hy with hy|hy
  ·exact lK hy
  ·exact absurd rfl (S.nofree _ (PySem.mem_of_lookup hy))
 ·exact j5 (x.above y c (PySem.mem_of_lookup h))
 ·have hi:i < vs.length:=by
   unfold start at h2
   by_cases hi:i < vs.length
   ·exact hi
   ·rw[O1 (by simpa using hi)]at h2
    rw[y8]at h2
    split at h2<;>cases h2
  have ha:vs[i]?=some v:=by
   unfold start at h2
   rw[X1 (by simpa using hi),X0]at h2
   cases e:vs[i]? with
   | none=>rw[e]at h2;cases h2
   | some a=>rw[e]at h2;cases h2;rfl
  obtain⟨u,hu,rv⟩:=r.get ha
  have hp:ps[i]?=some y:=by
   rw[<- S.pre,n8 (by omega)];exact h1
  have ndP:ps.Nodup:=by rw[<- S.pre];exact S.nd.sublist (List.take_sublist _ _)
  refine ⟨u,rv,?_⟩
  rcases S.par y (Y1 hp) with k|k
  ·exact .inl ⟨k,EV ndP hp hu k⟩
  ·obtain⟨c,e⟩:=lK (n:=s.heap.objs.size+1) k
   refine .inr ⟨.inl k,c,e,?_⟩
   have q:=x.cell y c e
   rw[FV ndP hp hu (by show scope.names.lookup y≠_;rw[k];decide)]at q
   exact q
 ·exact e0.hok.fresh (j5 (x.above y c (PySem.mem_of_lookup h)))
 ·unfold start
  show _=N.length
  rw[M0,i0,Q8]
  omega
theorem KI{CX:yj}{P:Program}{w:World}{K:q0}{mg:Str->Option Value}{base:Heap}{k:Nat}{f:Addr}{name qual:Str}{params:Arguments}{body:List Stmt}{scope:Scope}{dV kV doc pm cdv ct oc:Value}{an od:Option Addr}
  {osl:Array (Option Value)}{N ps:List Str}{sp:Sp} (lk:K.lookup f=some ⟨oc,od,.func (Q5 name qual params body scope dV kV doc pm an cdv ct),osl⟩) (hcd:T7 K cdv qual=true) (S:FnScope N ps scope)
  (len:∀vs H Q E,sp vs H Q E->vs.length=ps.length)
  (hbody:∀(A:Around) (outer:List Env) (s:Shared) (H:Hp) (vs:List V) (Q:VK) (E:XK),Room k (A.deeper (envOfC qual scope s.heap.objs.size f cdv))->sp vs H Q E ->
    ∃t,PSs (jH CX P w K mg base N qual scope f cdv A outer s H E) body t/\t { nx:=λ_ H'=>Q .non H',rt:=Q } (start N vs) H) :
  FnOk P w K mg base CX (k+1) f (Q5 name qual params body scope dV kV doc pm an cdv ct) ps sp:=by
 refine ⟨len,λA outer s H args us vs Q E hr e0 hb r hsp=>?_⟩
 have hl:=len _ _ _ _ hsp
 have KX:K.In s.heap:=e0.mod.kin.keeps λb o e=>(e0.bs b o e).1
 have lim:s.heap.NoLimit:=e0.mod.nolimit.keeps λb o e=>(e0.bs b o e).1
 have hkind:∀y∈ps.zip us,scope.names.lookup y.1=some .local\/(scope.names.lookup y.1=some .cell/\((cellsFrom (s.heap.objs.size+1) scope.names []).lookup y.1).isSome=true):=λ⟨n,v⟩ hy=>by
  rcases S.par n (K4 hy).1 with q|q
  ·exact .inl q
  ·exact .inr ⟨q,F8 _ _ _ (.inl q)⟩
 refine codeAny_call_function hr.depth (KX _ _ lk) rfl S.co S.gen rfl (PySem.W.codeRec_of KX hcd) (hb _ _ _ _ ?_)
 refine wpAny_newFunctionEnv_cells S.kind hkind λenv he s1 x=>?_
 subst he
 refine ⟨lim.keeps x.toInCall.keep,codeAny_func ?_⟩
 obtain⟨t,ht,hq⟩:=hbody A outer s H vs Q E (hr.deeper _) hsp
 have I:Inv (jH CX P w K mg base N qual scope f cdv A outer s H E) [] (start N vs) H s1:=Qq S hr.hd e0 hl r x
 refine wpAny_mono (ht [] s1 (start N vs) H _ I hq) (λfl s' hs=>?_) λe s' hs=>hs
 have fin:∀{σ':St}{H':Hp}{v:V}{u:Value},Inv (jH CX P w K mg base N qual scope f cdv A outer s H E) [] σ' H' s'->RelV v u->Q v H'->CE outer P w H s Q u s' :=
  λ{σ' H' v u} J rv q=>⟨v,H',J.os,J.bare,J.base,J.hok,rv,q⟩
 cases fl with
 | ret u =>
  obtain⟨v,σ',H',J,rv,q⟩:=hs
  exact fin J rv q
 | next =>
  obtain⟨σ',H',J,q⟩:=hs
  exact fin (v:=V.non) (u:=x6) J rfl q
 | brk =>
  obtain⟨_,_,_,q⟩:=hs
  exact False.elim q
 | cont =>
  obtain⟨_,_,_,q⟩:=hs
  exact False.elim q
section
variable {X:Cx}{x:Str}{p pos:Pos}{e:Expr}{es:List Expr}{t:TA}{id T:String}{r:List V->Hp->VK->Prop}
noncomputable def sI(r:List V->Hp->VK->Prop)(t:TA):TE:=λσ H Q=>t σ H λvs H1=>r vs H1 Q
theorem kH(hc:hX X (.builtin id) r)(hg:Gl X x)(hm:X.mg x=none)(hv:bootBuiltins x=some (.builtin id))(ha:PA X (e :: es) t)(hn:x ≠ "__name__":=by decide)(hdb:(x==("__debug__":Str))=false:=by decide)
  (he:starEach (e :: es) X.env=(false,eval e X.env) :: starEach es X.env:=by rfl) (hpl:(backTo pos (starEach es X.env)).any (·.1)=false:=by rfl):PE X (.Call (.Name x p) (e :: es) [] pos) (sI r t):=by
 intro pins s σ H Q I h
 refine wpAny_Call_Name_kw (rZ I hg hm hv ?_ hn hdb)
 exact PyProof.Rows.callWith_builtin1 (gX (ha pos pins s σ H _ I h) λus s1 ⟨vs,H1,I1,r1,q1⟩=>hc pins s1 σ H1 vs us Q I1 r1 q1) he hpl
theorem SK(hc:hX X (.type T) r)(hg:Gl X x)(hm:X.mg x=none)(hv:bootBuiltins x=some (.type T))(ha:PA X (e :: es) t)(hn:x ≠ "__name__":=by decide)(hdb:(x==("__debug__":Str))=false:=by decide)
  (he:starEach (e :: es) X.env=(false,eval e X.env) :: starEach es X.env:=by rfl) (hpl:(backTo pos (starEach es X.env)).any (·.1)=false:=by rfl):PE X (.Call (.Name x p) (e :: es) [] pos) (sI r t):=by
 intro pins s σ H Q I h
 refine wpAny_Call_Name_kw (rZ I hg hm hv ?_ hn hdb)
 exact J2 (gX (ha pos pins s σ H _ I h) λus s1 ⟨vs,H1,I1,r1,q1⟩=>hc pins s1 σ H1 vs us Q I1 r1 q1) he hpl
end
end L2
namespace HT
open PySem PyProof.Rows
noncomputable def lexLt:List Int->List Int->Bool
 | [],[]=>false
 | [],_ :: _=>true
 | _ :: _,[]=>false
 | x :: xs,y :: ys=>if x=y then lexLt xs ys else decide (x < y)
theorem lexLt_cons(x y:Int)(xs ys:List Int):lexLt (x :: xs) (y :: ys)=if x=y then lexLt xs ys else decide (x < y):=rfl
theorem eV:lexLt [] []=false:=rfl
theorem dW(y:Int)(ys:List Int):lexLt [] (y :: ys)=true:=rfl
theorem eW(x:Int)(xs:List Int):lexLt (x :: xs) []=false:=rfl
theorem zj(A:Around)(s:Shared)(a:Int)(t:Tok)(c:Int)(u:Tok):∃e,SeqAt.EqAt A s (.int a t) (.int c u) e/\(e=true ↔ a=c) :=
 ⟨(a==c),SeqAt.EqAt.int_int a t c u,by simp⟩
theorem Aj(A:Around)(s:Shared)(a:Int)(t:Tok)(c:Int)(u:Tok)(prog:Program)(w:World)(E:Value->Shared->Prop)(Q:Value->Shared->Prop)(h:Q (.bool (decide (a < c))) s) :
  wpAny (model prog w) A (richCompare .Lt (.int a t) (.int c u)) Q E s :=
 (PyProof.Rows.lt_int h:wpAny (model prog w) A (compareOp .Lt (.int a t) (.int c u)) Q E s)
section
open PySem.SeqAt
open PySem.AutoSeq1 (wpAny_loadPart')
open PySem.MeetsSeq PySem.MeetsSeq2 PySem.MeetsSeq3
theorem fV(l b:Addr)(items items2:Array Value)(n n2:Nat)(dd dd2:Option Addr)(sl sl2:Array (Option Value))(ns ms:List Int)(hi:IntsAre items.toList ns)(hj:IntsAre items2.toList ms) :
  Meets (Builtin.«tuple.__lt__» ⟨[.ref l,.ref b],[]⟩)
   (λ_ R s=>s.heap.get? l=some { cls:=.type "tuple",dict:=dd,data:=.seq items n,slots:=sl }/\s.heap.get? b=some { cls:=.type "tuple",dict:=dd2,data:=.seq items2 n2,slots:=sl2 } /\
     R (.ok (.ret (.bool (lexLt ns ms)))) s) :=
 .of_wp λprog w A R s h=>by
  obtain⟨hp,g,d,tk,os⟩:=s;obtain⟨hl,hb,h⟩:=h
  have f2:=AutoSeq1.sub_tuple_tuple
  have z1:items.size=ns.length:=by rw[<- hi.length];simp
  have z2:items2.size=ms.length:=by rw[<- hj.length];simp
  wp_walk using wpAny_loadPart' hl,wpAny_loadPart' hb,wpAny_forIn_list _ (λrest b s'=>b.1=none/\s'=⟨hp,g,d,tk,os⟩/\∃(vs ws:List Value) (ns' ms':List Int),rest=vs.zip ws /\
    IntsAre vs ns'/\IntsAre ws ms'/\ns'.length+items2.size=ms'.length+items.size/\R (.ok (.ret (.bool (lexLt ns' ms')))) ⟨hp,g,d,tk,os⟩) _
  case turn =>
   rintro⟨y,x⟩ rest b s' ⟨hb',rfl,vs,ws,ns',ms',hz,hvi,hwi,hlen,hR⟩
   cases hvi with
   | nil=>rw[List.zip_nil_left]at hz;cases hz
   | cons a t hvi' =>
    cases hwi with
    | nil=>rw[List.zip_nil_right]at hz;cases hz
    | cons c u hwi' =>
     rw[S4]at hz
     injection hz with hyx hrest
     injection hyx with hy hx
     subst hy hx
     rw[lexLt_cons]at hR
     simp only[K1]at hlen
     obtain⟨e,he,hiff⟩:=zj A.in1 ⟨hp,g,d,tk,os⟩ a t c u
     refine wpAny_bind (he prog w _ _ ?_)
     cases e with
     | true =>
      rw[if_pos (hiff.mp rfl)]at hR
      wp_walk
      exact ⟨rfl,rfl,_,_,_,_,hrest,hvi',hwi',by omega,hR⟩
     | false =>
      rw[if_neg (λq=>absurd (hiff.mpr q) G1)]at hR
      have hri:=Aj A.in1 ⟨hp,g,d,tk,os⟩ a t c u prog w
      wp_walk using hri
      exact ⟨_,rfl,by simpa using hR⟩
  case fin =>
   rintro⟨b1,b2⟩ s' ⟨hb',rfl,vs,ws,ns',ms',hz,hvi,hwi,hlen,hR⟩
   simp only at hb'
   subst hb'
   have hv:lexLt ns' ms'=decide (items.size < items2.size):=by
    cases hvi with
    | nil =>
     cases hwi with
     | nil =>
      simp only[N6]at hlen
      rw[eV]
      exact (decide_eq_false (by omega)).symm
     | cons c u hw =>
      simp only[N6,K1]at hlen
      rw[dW]
      exact (decide_eq_true (by omega)).symm
    | cons a t hv =>
     cases hwi with
     | nil =>
      simp only[N6,K1]at hlen
      rw[eW]
      exact (decide_eq_false (by omega)).symm
     | cons c u hw =>
      rw[S4]at hz
      cases hz
   rw[hv]at hR
   wp_walk
   exact ⟨_,rfl,by simpa [Builtin.Tuple.tupleCompareSizes]using hR⟩
  case h =>
   exact ⟨rfl,rfl,items.toList,items2.toList,ns,ms,rfl,hi,hj,by omega,h⟩
end
section
variable {prog:Program}{w:World}{A:Around}{E:Value->Shared->Prop}{s:Shared}
theorem lt_tupInts{l b:Addr}{items items2:Array Value}{ns ms:List Int}{Q:Value->Shared->Prop}(hl:IsTup s.heap l items)(hb:IsTup s.heap b items2)(hi:IntsAre items.toList ns)(hj:IntsAre items2.toList ms)
  (hu:A.units < cLine) (h:Q (.bool (lexLt ns ms)) s):wpAny (model prog w) A (compareOp .Lt (.ref l) (.ref b)) Q E s:=by
 obtain⟨⟨cls,dd,data,sl⟩,ho,hc,n,hd⟩:=id hl
 obtain⟨⟨cls2,dd2,data2,sl2⟩,ho2,hc2,n2,hd2⟩:=id hb
 simp only at hc hd hc2 hd2
 subst hc hd hc2 hd2
 exact richCompare_meets_room (op:=.Lt) ⟨_,ho,rfl⟩ ⟨_,ho2,rfl⟩ PySem.F.slot_tuple_lt PySem.F.entry_tuple_lt (PySem.F.args_tuple_lt_2 _ _) (fV l b items items2 n n2 dd dd2 sl sl2 ns ms hi hj)
  ⟨ho,ho2,show O9 (lexLt ns ms)≠Value.notImplemented/\Q (.bool (lexLt ns ms)) s from ⟨(λx=>nomatch x),h⟩⟩ hu
theorem cat_tup{t b:Addr}{vs ws:List Value}{Q:Value->Shared->Prop}(ht:IsTup s.heap t vs.toArray)(hb:IsTup s.heap b ws.toArray)(hv:vs≠[])
  (h1:ws=[]->Q (.ref t) s) (h2:ws≠[]->Q (.ref s.heap.objs.size) { s with heap:=s.heap.push { cls:=.type "tuple",data:=.seq (vs++ws).toArray } })
  (hsz:vs.length+ws.length<=sizeLine):wpAny (model prog w) A (binaryOp .Add (.ref t) (.ref b)) Q E s:=by
 obtain⟨⟨cls,dd,data,sl⟩,ho,hc,n,hd⟩:=id ht
 obtain⟨⟨cls2,dd2,data2,sl2⟩,ho2,hc2,n2,hd2⟩:=id hb
 simp only at hc hd hc2 hd2
 subst hc hd hc2 hd2
 have e:vs.toArray++ws.toArray=(vs++ws).toArray:=by simp
 by_cases hw:ws=[]
 ·exact concat_meets ⟨_,ho,rfl⟩ ⟨_,ho2,rfl⟩ noFill_tuple_add seq_tuple_add PySem.F.slot_tuple_add PySem.F.entry_tuple_add (PySem.F.args_tuple_add_2 _ _)
   (tuple_addW1 t b vs.toArray ws.toArray n n2 dd dd2 sl sl2 (by simpa using hv) (by simp[hw])) ⟨ho,ho2,h1 hw⟩
 ·refine concat_meets ⟨_,ho,rfl⟩ ⟨_,ho2,rfl⟩ noFill_tuple_add seq_tuple_add PySem.F.slot_tuple_add PySem.F.entry_tuple_add (PySem.F.args_tuple_add_2 _ _)
   (tuple_addW2 t b vs.toArray ws.toArray n n2 dd dd2 sl sl2 (by simpa using hv) (by simpa using hw) (by rw[Q0,Q0];exact hsz)) ⟨ho,ho2,?_⟩
  rw[e]
  exact h2 hw
noncomputable def sIx(n d:Nat):Option Int->Nat
 | none=>d
 | some v=>if v < 0 then (v+(n:Int)).toNat else min v.toNat n
theorem LB(n d:Nat)(hd:d<=n)(o:Option Int):sIx n d o<=n:=by
 cases o with
 | none=>exact hd
 | some v =>
  show (if v < 0 then (v+(n:Int)).toNat else min v.toNat n)<=n
  by_cases hv:v < 0
  ·rw[if_pos hv];omega
  ·rw[if_neg hv];exact Nat.min_le_right _ _
theorem dD(v:Int)(n d:Nat):(if v < 0 then max (v+(n:Int)) 0 else min v (n:Int))=((sIx n d (some v):Nat):Int):=by
 show (if v < 0 then max (v+(n:Int)) 0 else min v (n:Int))=(((if v < 0 then (v+(n:Int)).toNat else min v.toNat n):Nat):Int)
 by_cases hv:v < 0
 ·simp only[if_pos hv];omega
 ·simp only[if_neg hv];omega
theorem NG(lo hi:Option Int)(n:Nat):M6 lo hi 1 (n:Int)=(((sIx n 0 lo:Nat):Int),((sIx n n hi:Nat):Int)):=by
 have h1:¬((1:Int) < 0):=by omega
 unfold M6
 simp only[h1,if_false]
 refine Prod.ext ?_ ?_
 ·cases lo with
  | none=>rfl
  | some v=>exact dD v n 0
 ·cases hi with
  | none=>rfl
  | some v=>exact dD v n n
theorem OG(i j:Nat):K5 (i:Int) (j:Int) 1=j - i:=by
 unfold K5
 have h1:(1:Int) > 0:=by omega
 simp only[h1,if_true,Int.ediv_one]
 split<;>omega
theorem fW{v:Value}{o:Option Int}{Q:Option Int->Shared->Prop}(p:IsPart v o)(h:Q o s):wpAny (model prog w) A (Builtin.Slice.slicePartIndex v) Q E s:=by
 cases p with
 | none=>exact slicePart_none h
 | int i t=>exact slicePart_int h
theorem TK{sl:Addr}{vl vu:Value}{lo hi:Option Int}{n:Nat}{Q:Int×Int×Nat->Shared->Prop}(hs:s.heap.IsSliceOf sl vl vu .none)(pl:IsPart vl lo)(pu:IsPart vu hi)
  (h:Q (((sIx n 0 lo:Nat):Int),1,sIx n n hi - sIx n 0 lo) s):wpAny (model prog w) A (V7 (.ref sl) (pure (n:Int))) Q E s:=by
 obtain⟨os,hos,hcs,hds⟩:=id hs
 unfold V7 Builtin.Slice.sliceFields
 refine wpAny_bind (wpAny_bind (wpAny_field hos hds (x:=vl) rfl (wpAny_bind (wpAny_field hos hds (x:=vu) rfl (wpAny_bind (wpAny_field hos hds (x:=.none) rfl (wpAny_pure ?_)))))))
 refine wpAny_bind (slicePart_none ?_)
 show wpAny _ _ (if ((1:Int)==0)=true then _ else _) _ _ s
 rw[if_neg (by decide)]
 refine wpAny_bind (fW pl (wpAny_bind (fW pu (wpAny_bind (wpAny_pure ?_)))))
 show wpAny _ _ (match M6 lo hi 1 (n:Int) with|(lo,hi)=>pure (lo,(1:Int),K5 lo hi 1)) _ _ s
 rw[NG lo hi n]
 show wpAny _ _ (pure (((sIx n 0 lo:Nat):Int),(1:Int),K5 ((sIx n 0 lo:Nat):Int) ((sIx n n hi:Nat):Int) 1)) _ _ s
 rw[OG]
 exact wpAny_pure h
theorem Bj(xs:Array Value)(i k:Nat):((V0 k).filterMap λ(m:Nat)=>xs[((i:Int)+(m:Int) * 1).toNat]?).toArray=((xs.toList.drop i).take k).toArray:=by
 have e:(λ(m:Nat)=>xs[((i:Int)+(m:Int) * 1).toNat]?)=λm=>xs[i+m]?:=by
  funext m
  have:((i:Int)+(m:Int) * 1).toNat=i+m:=by omega
  rw[this]
 rw[e]
 have:=pick_run xs i k
 rw[List.filterMap_map]at this
 have e2:((λx=>xs[x]?) ∘ λx=>i+x)=λm=>xs[i+m]?:=rfl
 rw[e2]at this
 rw[this]
theorem getItem_tuple_cut{t sl:Addr}{items:Array Value}{vl vu:Value}{lo hi:Option Int}{Q:Value->Shared->Prop}(ht:IsTup s.heap t items)(hs:s.heap.IsSliceOf sl vl vu .none)(pl:IsPart vl lo)(pu:IsPart vu hi)
  (hw:¬(sIx items.size 0 lo=0/\sIx items.size items.size hi=items.size))
  (h:Q (.ref s.heap.objs.size) { s with heap:=s.heap.push { cls:=.type "tuple",data:=.seq ((items.toList.drop (sIx items.size 0 lo)).take (sIx items.size items.size hi - sIx items.size 0 lo)).toArray } })
  (hsz:items.size<=sizeLine):wpAny (model prog w) A (getItem (.ref t) (.ref sl)) Q E s:=by
 have htake:sizeOk (.seq ((items.toList.drop (sIx items.size 0 lo)).take (sIx items.size items.size hi - sIx items.size 0 lo)).toArray):=by
  show ((items.toList.drop (sIx items.size 0 lo)).take (sIx items.size items.size hi - sIx items.size 0 lo)).toArray.size<=sizeLine
  rw[Q0,S3,m6,U0]
  omega
 have hj:sIx items.size items.size hi<=items.size:=LB _ _ (G0 _) hi
 obtain⟨os,hos,hcs,hds⟩:=id hs
 have hTs:s.TypeIs (.ref sl) "slice":=⟨os,hos,hcs⟩
 unfold getItem
 try with_reducible refine wpAny_holding ?_
 first|refine wpAny_bind (wpAny_pure ?_)|skip
 refine wpAny_bind (wpAny_sequenceKey ht.typeIs (by decide) ?_)
 refine wpAny_bind (wpAny_callSpecial?_slot (name:=Str.ofString "__getitem__") ht.typeIs g7
   (wpAny_call_entry g7 ht.typeIs entry_tuple_getitem ?_ (args_tuple_getitem _ _)))
 show wpAny _ _ (Builtin.Tuple.tupleItemsOf (.ref t) >>= _) _ _ s
 refine wpAny_bind (tupleItemsOf_ ht ?_)
 refine wpAny_bind (wpAny_typeOf hTs ?_)
 rw[if_pos (by decide)]
 refine wpAny_bind (TK hs pl pu ?_)
 have hno:¬((((sIx items.size 0 lo:Nat):Int)==0&&(1:Int)==1&&(sIx items.size items.size hi - sIx items.size 0 lo)==items.size)=true):=by
  intro q
  rw[P4,P4]at q
  have q1:((sIx items.size 0 lo:Nat):Int)=0:=eq_of_beq q.1.1
  have q2:sIx items.size items.size hi - sIx items.size 0 lo=items.size:=eq_of_beq q.2
  exact hw ⟨by omega,by omega⟩
 show wpAny _ _ (if (((sIx items.size 0 lo:Nat):Int)==0&&(1:Int)==1&&(sIx items.size items.size hi - sIx items.size 0 lo)==items.size)=true then _ else _) _ _ s
 rw[if_neg hno,Bj]
 first
  | exact wpAny_bind (m:=Z5 _) (wpAny_newObj_type (wpAny_pure ⟨_,rfl,wpAny_pure h⟩) htake)
  | exact wpAny_bind (m:=Z5 _) (wpAny_newObj_type (wpAny_bind (wpAny_pure (wpAny_pure ⟨_,rfl,wpAny_pure h⟩))) htake)
  | exact wpAny_bind (wpAny_bind (m:=Z5 _) (wpAny_newObj_type (wpAny_pure (wpAny_pure ⟨_,rfl,wpAny_pure h⟩)) htake))
  | exact wpAny_bind (wpAny_bind (m:=Z5 _) (wpAny_newObj_type (wpAny_pure ⟨_,rfl,wpAny_pure h⟩) htake))
end
end HT
namespace L2
open PySem PySem.Spec PyProof.Rows
noncomputable abbrev TO:=St->Hp->(Option Int->Hp->Prop)->Prop
noncomputable def PO(X:Cx)(e:Option Expr)(t:TO):Prop :=
 ∀(pins:List (Addr×Obj)) (s:Shared) (σ:St) (H:Hp) (Q:Option Int->Hp->Prop),Inv X pins σ H s->t σ H Q ->
  wpAny (model X.prog X.w) X.A (evalPart e X.env) (λu s'=>∃o H',Inv X pins σ H' s'/\IsPart u o/\Q o H') X.xe s
noncomputable def sv:TO:=λ_ H Q=>Q none H
noncomputable def LI(t:TE):TO:=λσ H Q=>t σ H λx H1=>∃i,x=.int i/\Q (some i) H1
theorem tX{ns:List Int}:∀{us:List Value},Vals (ns.map V.int) us->IntsAre us ns:=by
 induction ns with
 | nil=>intro us r;rw[q5]at r;cases r;exact .nil
 | cons n ns ih =>
  intro us r
  rw[Z0]at r
  cases r with
  | cons r1 r2 =>
   obtain⟨t,e⟩:=r1
   subst e
   exact .cons n t (ih r2)
section
variable {X:Cx}{e:Expr}{te:TE}{lo hi:Option Expr}{tl th:TO}{pos p2:Pos}
theorem uv:PO X none sv:=by
 intro pins s σ H Q I h
 rw[evalPart_none]
 exact wpAny_pure ⟨none,H,I,.none,h⟩
theorem vv(h:PE X e te):PO X (some e) (LI te):=by
 intro pins s σ H Q I hw
 rw[evalPart_some]
 refine gX (h pins s σ H _ I hw) λu s1 ⟨x,H1,I1,r1,q1⟩=>?_
 obtain⟨i,rfl,q⟩:=q1
 obtain⟨t,rfl⟩:=r1
 exact ⟨some i,H1,I1,.int i t,q⟩
noncomputable def SO(X:Cx)(r:V->Option Int->Option Int->Hp->VK->Prop):Prop :=
 ∀(pins:List (Addr×Obj)) (s:Shared) (σ:St) (H:Hp) (x:V) (v vl vu:Value) (lo hi:Option Int) (sl:Addr) (Q:VK),Inv X pins σ H s->RelV x v->s.heap.IsSliceOf sl vl vu .none->IsPart vl lo->IsPart vu hi->r x lo hi H Q ->
  ∃T id,typeLookup (.type T) "__getitem__"=pure (some (.builtin id))/\s.TypeIs v T/\wpAny (model X.prog X.w) X.A (getItem v (.ref sl)) (EP X pins σ Q) X.xe s
noncomputable def sP(r:V->Option Int->Option Int->Hp->VK->Prop)(te:TE)(tl th:TO):TE:=λσ H Q=>te σ H λx H1=>tl σ H1 λl H2=>th σ H2 λu H3=>r x l u H3 Q
theorem Cj{r:V->Option Int->Option Int->Hp->VK->Prop}(hr:SO X r)(he:PE X e te)(hl:PO X lo tl)(hu:PO X hi th):PE X (.Subscript e (.Slice lo hi none p2) pos) (sP r te tl th):=by
 intro pins s σ H Q I h
 refine Subscript_ (gX (he pins s σ H _ I h) λv s1 ⟨x,H1,I1,r1,q1⟩=>?_)
 refine wpAny_Slice (gX (hl pins s1 σ H1 _ I1 q1) λvl s2 ⟨l,H2,I2,pl,q2⟩=>gX (hu pins s2 σ H2 _ I2 q2) λvu s3 ⟨u,H3,I3,pu,q3⟩=>?_)
 rw[evalPart_none]
 refine wpAny_pure ?_
 have I4:Inv X pins σ H3 { s3 with heap:=s3.heap.push { cls:=.type "slice",data:=.fields #[vl,vu,.none] } }:=I3.kept (t':=s3.toks) λb ob q=>g0 _ q
 obtain⟨T,id,hT,ht,hg⟩:=hr pins { s3 with heap:=s3.heap.push { cls:=.type "slice",data:=.fields #[vl,vu,.none] } } σ H3 x v vl vu l u s3.heap.objs.size Q I4 r1 (Heap.IsSliceOf.new ..) pl pu q3
 show wpAny (model X.prog X.w) X.A (subscriptTail e (.Slice lo hi none p2) v (.ref s3.heap.objs.size)) (EP X pins σ Q) X.xe { s3 with heap:=s3.heap.push { cls:=.type "slice",data:=.fields #[vl,vu,.none] } }
 exact tail_any (ops:=[.ref s3.heap.objs.size,v]) ht hT hg (by with_unfolding_all rfl)
noncomputable def Rq(xs:List V)(lo hi:Option Int):List V:=(xs.drop (HT.sIx xs.length 0 lo)).take (HT.sIx xs.length xs.length hi - HT.sIx xs.length 0 lo)
theorem lH(xs:List V)(lo hi:Option Int):(Rq xs lo hi).length<=xs.length:=by
 unfold Rq
 rw[S3,m6]
 omega
noncomputable def MI(K:q0):V->Option Int->Option Int->Hp->VK->Prop:=λx lo hi H Q=>∃a xs,x=.ref a/\SqT K H a xs /\
 ¬(HT.sIx xs.length 0 lo=0/\HT.sIx xs.length xs.length hi=xs.length)/\∀p,H p=none->Q (.ref p) (HQ H p (.tup (Rq xs lo hi)))
theorem MB:SO X (MI X.K):=by
 intro pins s σ H x v vl vu lo hi sl Q I rx hs pl pu h
 obtain⟨a,xs,rfl,hx,hw,q⟩:=h
 cases rx
 obtain⟨its,r,ht,hz⟩:=I.tuple hx
 have hlen:its.toArray.size=xs.length:=by rw[Q0];exact r.length.symm
 refine ⟨"tuple",_,g7.lookup,ht.typeIs,?_⟩
 refine HT.getItem_tuple_cut ht hs pl pu (by rw[hlen];exact hw) ?_ (by rw[hlen];exact hz)
 rw[hlen]
 refine ⟨.ref s.heap.objs.size,_,I.laid (t':=s.toks) (o:=.tup (Rq xs lo hi)) (λb ob q=>g0 _ q) (G0 _) ?_,rfl,q _ (I.hok.fresh (G0 _))⟩
 exact ⟨A1 (lH xs lo hi) hz,_,(r.drop (HT.sIx xs.length 0 lo)).take (HT.sIx xs.length xs.length hi - HT.sIx xs.length 0 lo),IsTupD.new _ _⟩
noncomputable def NI(K:q0):R2:=λx y H Q=>∃a b xs ys,x=.ref a/\y=.ref b/\SqT K H a xs/\SqT K H b ys/\xs≠[]/\xs.length+ys.length<=sizeLine /\
 (ys=[]->Q (.ref a) H)/\(ys≠[]->∀p,H p=none->Q (.ref p) (HQ H p (.tup (xs++ys))))
theorem Vals.nil_iff{xs:List V}{us:List Value}(r:Vals xs us):us=[] ↔ xs=[]:=by
 cases r with
 | nil=>simp
 | cons _ _=>simp
theorem zv:OpR X (binaryOp .Add) (NI X.K):=by
 intro pins s σ H x y v u Q I rx ry h
 obtain⟨a,b,xs,ys,rfl,rfl,ha,hb,hx,hz,q1,q2⟩:=h
 cases rx
 cases ry
 obtain⟨its,r1,p1,_⟩:=I.tuple ha
 obtain⟨its2,r2,p2,_⟩:=I.tuple hb
 refine HT.cat_tup p1 p2 (λz=>hx (r1.nil_iff.mp z)) (λz=>⟨.ref a,H,I,rfl,q1 (r2.nil_iff.mp z)⟩) (λz=>?_) (by rw[<- r1.length,<- r2.length];exact hz)
 refine ⟨.ref s.heap.objs.size,_,I.laid (t':=s.toks) (o:=.tup (xs++ys)) (λb ob q=>g0 _ q) (G0 _) ?_,rfl,q2 (λw=>z (r2.nil_iff.mpr w)) _ (I.hok.fresh (G0 _))⟩
 exact ⟨by rw[M0];exact hz,_,r1.append r2,IsTupD.new _ _⟩
end
noncomputable def QG(n:Nat)(i:Int):Option Nat:=if 0<=i then (if i < n then some i.toNat else none) else if -(n:Int)<=i then some (i+n).toNat else none
noncomputable def AY{α:Type}(xs:List α)(i:Int):Option α:=(QG xs.length i).bind λj=>xs[j]?
theorem eD{n:Nat}{i:Int}{j:Nat}(h:QG n i=some j):seqIndex? i n=some j/\j < n/\-(n:Int)<=i/\i < n:=by
 unfold QG at h
 by_cases h0:0<=i
 ·rw[if_pos h0]at h
  by_cases h1:i < n
  ·rw[if_pos h1]at h
   have e:i.toNat=j:=S1 h
   exact ⟨by rw[seqIndex_of h0 h1,e],by omega,by omega,h1⟩
  ·rw[if_neg h1]at h;cases h
 ·rw[if_neg h0]at h
  by_cases h1:-(n:Int)<=i
  ·rw[if_pos h1]at h
   have e:(i+n).toNat=j:=S1 h
   exact ⟨by rw[seqIndex_neg (by omega) h1,e],by omega,h1,by omega⟩
  ·rw[if_neg h1]at h;cases h
theorem fD{α:Type}{xs:List α}{i:Int}{v:α}(h:AY xs i=some v):∃j,seqIndex? i xs.length=some j/\xs[j]?=some v/\j < xs.length/\-(xs.length:Int)<=i/\i < xs.length:=by
 unfold AY at h
 cases e:QG xs.length i with
 | none=>rw[e]at h;cases h
 | some j =>
  rw[e]at h
  obtain⟨h1,h2,h3,h4⟩:=eD e
  exact ⟨j,h1,h,h2,h3,h4⟩
theorem KY{α:Type}{xs:List α}{j:Nat}{v:α}(h:xs[j]?=some v):AY xs (j:Int)=some v:=by
 have hj:j < xs.length:=(W0.mp h).1
 have e:QG xs.length (j:Int)=some j:=by
  unfold QG
  rw[if_pos (by omega),if_pos (by omega)];simp
 unfold AY;rw[e];exact h
noncomputable def gD(b:Expr):Prop:=∀o i,subscripted b false o i=operate [o,i] (getItem o i)
noncomputable def IxR(X:Cx)(r:R2):Prop :=
 ∀(value slice:Expr) (pins:List (Addr×Obj)) (s:Shared) (σ:St) (H:Hp) (x y:V) (v u:Value) (Q:VK),Inv X pins σ H s->RelV x v->RelV y u->r x y H Q ->
  subscripted slice false v u=operate [v,u] (getItem v u)->wpAny (model X.prog X.w) X.A (subscriptTail value slice v u) (EP X pins σ Q) X.xe s
noncomputable def DN(X:Cx)(id:String)(r:V->List V->Hp->VK->Prop):Prop :=
 ∀(pins:List (Addr×Obj)) (s:Shared) (σ:St) (H:Hp) (x:V) (xs:List V) (v:Value) (us:List Value) (Q:VK),Inv X pins σ H s->RelV x v->Vals xs us->r x xs H Q ->
  wpAny (model X.prog X.w) X.A (call (.builtin id) (v :: us)) (EP X pins σ Q) X.xe s
section
variable {X:Cx}{a b:Expr}{ta tb:TE}{pos:Pos}
theorem IxR.or{r r':R2}(h:IxR X r)(h':IxR X r'):IxR X (λx y H Q=>r x y H Q\/r' x y H Q):=by
 intro value slice pins s σ H x y v u Q I rx ry q hs
 rcases q with q|q
 ·exact h value slice pins s σ H x y v u Q I rx ry q hs
 ·exact h' value slice pins s σ H x y v u Q I rx ry q hs
theorem OI{r:R2}(hr:IxR X r)(ha:PE X a ta)(hb:PE X b tb)(hs:gD b):PE X (.Subscript a b pos) (FB r ta tb):=by
 intro pins s σ H Q I h
 exact Subscript_ (GB ha hb I h λv u s2 x y H2 I2 rx ry q=>hr a b pins s2 σ H2 x y v u Q I2 rx ry q (hs _ _))
noncomputable def Av(K:q0):R2:=λx y H Q=>∃p xs i v,x=.ref p/\y=.int i/\SqL K H p xs/\AY xs i=some v/\Q v H
noncomputable def Bv(K:q0):R2:=λx y H Q=>∃p xs i v,x=.ref p/\y=.int i/\SqT K H p xs/\AY xs i=some v/\Q v H
theorem Cv:IxR X (Av X.K):=by
 intro value slice pins s σ H x y v u Q I rx ry h hs
 obtain⟨p,xs,i,z,rfl,rfl,hq,he,q⟩:=h
 cases rx
 obtain⟨t,rfl⟩:=ry
 obtain⟨its,r,pl,hz⟩:=I.list hq
 obtain⟨j,h1,h2,h3,h4,h5⟩:=fD he
 obtain⟨w,ew,rw'⟩:=r.get h2
 have hl:=r.length
 have hn:=mU
 have fin:EP X pins σ Q w s:=⟨z,H,I,rw',q⟩
 by_cases h0:0<=i
 ·have hj:i.toNat=j:=by
   rw[seqIndex_of h0 h5]at h1
   exact S1 h1
  exact item_listR pl.isList h0 (by omega) (by rw[hj];simpa using ew) fin hs
 ·have hj:(i+(its.toArray.size:Int)).toNat=j:=by
   rw[seqIndex_neg (by omega) h4]at h1
   rw[Q0,<- hl]
   exact S1 h1
  exact subscriptTail_builtinR (x:=w) pl.isList.typeIs slot_list_getitem.lookup
   (wpAny_getItem_list_neg (Q:=λr s'=>r=w/\EP X pins σ Q r s') pl.isList (by omega) (by rw[Q0]<;>omega) (by omega) (by rw[hj];simpa using ew) ⟨rfl,fin⟩) hs
theorem NB:IxR X (Bv X.K):=by
 intro value slice pins s σ H x y v u Q I rx ry h hs
 obtain⟨p,xs,i,z,rfl,rfl,hq,he,q⟩:=h
 cases rx
 obtain⟨t,rfl⟩:=ry
 obtain⟨its,r,pl,hz⟩:=I.tuple hq
 obtain⟨j,h1,h2,h3,h4,h5⟩:=fD he
 obtain⟨w,ew,rw'⟩:=r.get h2
 have hl:=r.length
 have hn:=mU
 have fin:EP X pins σ Q w s:=⟨z,H,I,rw',q⟩
 exact subscriptTail_builtinR (x:=w) pl.typeIs slot_tuple_getitem.lookup
  (getItem_tuple (j:=j) (Q:=λr s'=>r=w/\EP X pins σ Q r s') pl (by omega) (by omega) (by rw[Q0,<- hl];exact h1) (by simpa using ew) ⟨rfl,fin⟩) hs
theorem RG(its:List Value)(n j:Nat)(u:Value):S2 (·.setIfInBounds j u) { cls:=.type "list",data:=.seq its.toArray n }={ cls:=.type "list",data:=.seq (its.set j u).toArray n }:=by
 simp[S2]
theorem Inv.lst{pins:List (Addr×Obj)}{σ:St}{H:Hp}{s:Shared}{p:Addr}{xs:List V}(I:Inv X pins σ H s)(h:H p=some (.lst xs)) :
  ∃(its:List Value) (n:Nat),Vals xs its/\s.heap.get? p=some { cls:=.type "list",data:=.seq its.toArray n }/\xs.length<=sizeLine:=by
 obtain⟨z,its,n,r,e⟩:=I.hok p _ h
 exact ⟨its,n,r,e,z⟩
theorem Inv.lstUpd{pins:List (Addr×Obj)}{σ:St}{H:Hp}{s:Shared}{p:Addr}{xs ys:List V}{its its':List Value}{n n':Nat}{f:Obj->Obj}(I:Inv X pins σ H s)(h:H p=some (.lst xs))
  (ho:s.heap.get? p=some { cls:=.type "list",data:=.seq its.toArray n }) (hf:f { cls:=.type "list",data:=.seq its.toArray n }={ cls:=.type "list",data:=.seq its'.toArray n' }) (r:Vals ys its') (hz:ys.length<=sizeLine) (t:Nat) :
  Inv X pins σ (HQ H p (.lst ys)) { s with heap:=s.heap.update p f,toks:=t }:=by
 have e:(s.heap.update p f).get? p=some { cls:=.type "list",data:=.seq its'.toArray n' }:=by
  rw[V2 f ho (by rw[hf]<;>rfl),hf]
 refine I.write (x:=p) (e:=p) (by rw[h];trivial) (.inl rfl) (λb u hb q=>(V3 _ _ (L1 hb)).trans q) ⟨_,e⟩ ?_
 exact ⟨hz,its',n',r,e⟩
noncomputable def iD:V->V->V->Hp->(Hp->Prop)->Prop:=λo i v H Q=>∃p xs k j,o=.ref p/\i=.int k/\H p=some (.lst xs)/\QG xs.length k=some j/\Q (HQ H p (.lst (xs.set j v)))
theorem Dj:EI X iD:=by
 intro pins s σ H o i v ov iv u Q I ro ri rv h
 obtain⟨p,xs,k,j,rfl,rfl,hp,hj,q⟩:=h
 cases ro
 obtain⟨t,rfl⟩:=ri
 obtain⟨its,n,r,ho,hz⟩:=I.lst hp
 obtain⟨h1,h2,h3,h4⟩:=eD hj
 have hl:=r.length
 have hn:=mU
 have I':Inv X pins σ (HQ H p (.lst (xs.set j v))) { s with heap:=s.heap.update p (S2 (·.setIfInBounds j u)) } :=
  I.lstUpd hp ho (RG its n j u) (r.set rv j) (by rw[i4];exact hz) s.toks
 by_cases h0:0<=k
 ·have hk:k.toNat=j:=by
   rw[seqIndex_of h0 h4]at h1
   exact S1 h1
  exact PySem.W.ki_setAt ho h0 (by omega) (by rw[Q0,<- hl];exact h4) (by rw[hk];exact ⟨_,I',q⟩)
 ·have hk:(k+(its.toArray.size:Int)).toNat=j:=by
   rw[seqIndex_neg (by omega) h3]at h1
   rw[Q0,<- hl]
   exact S1 h1
  exact PySem.W.ki_setBack ho (by omega) (by rw[Q0,<- hl];exact h3) (by omega) (by rw[hk];exact ⟨_,I',q⟩)
theorem nU:hX X (.builtin "len") (λxs H Q=>∃p ys,xs=[.ref p]/\(SqL X.K H p ys\/SqT X.K H p ys)/\Q (.int ys.length) H):=by
 intro pins s σ H xs us Q I r h
 obtain⟨p,ys,rfl,hq,q⟩:=h
 obtain⟨u,rfl,rx⟩:=VZ r
 cases rx
 have hn:=mU
 rcases hq with hq|hq
 ·obtain⟨its,r',pl,hz⟩:=I.list hq
  have hlen:=r'.length
  exact Calls.call_len_list pl.isList (by simp only[Q0]<;>omega) ⟨.int ys.length,H,I.tok _,⟨s.toks+1,by rw[Q0,hlen]⟩,q⟩
 ·obtain⟨its,r',pl,hz⟩:=I.tuple hq
  have hlen:=r'.length
  exact len_tuple pl (by simp only[Q0]<;>omega) ⟨.int ys.length,H,I.tok _,⟨s.toks+1,by rw[Q0,hlen]⟩,q⟩
theorem oU:hX X (.type "list") (λxs H Q=>∃p ys,xs=[.ref p]/\(SqL X.K H p ys\/SqT X.K H p ys)/\∀l,H l=none->Q (.ref l) (HQ H l (.lst ys))):=by
 intro pins s σ H xs us Q I r h
 obtain⟨p,ys,rfl,hq,q⟩:=h
 obtain⟨u,rfl,rx⟩:=VZ r
 cases rx
 have fin:∀(its:List Value),Vals ys its->ys.length<=sizeLine->∀(h':Heap) (c':Nat),(∀b o',s.heap.get? b=some o'->h'.get? b=some o') ->
   h'.get? s.heap.objs.size=some { cls:=.type "list",dict:=none,data:=.seq its.toArray c',slots:=#[] }->EP X pins σ Q (.ref s.heap.objs.size) { s with heap:=h' }:=λits r' hz h' c' kp e =>
  ⟨.ref s.heap.objs.size,_,I.laid (t':=s.toks) kp (G0 _) (show ObjOk X.prog X.w _ h' _ (.lst ys) from ⟨hz,its,c',r',e⟩),rfl,q _ (I.hok.fresh (G0 _))⟩
 rcases hq with hq|hq
 ·obtain⟨its,r',pl,hz⟩:=I.list hq
  have hlen:=r'.length
  obtain⟨o,ho,hc,n,hd⟩:=pl.isList
  exact call_list_seq p (.inl rfl) ho hc hd (λh' c' kp e=>fin its r' hz h' c' kp e) (by simp only[Q0]<;>omega)
 ·obtain⟨its,r',pl,hz⟩:=I.tuple hq
  have hlen:=r'.length
  obtain⟨o,ho,hc,n,hd⟩:=pl
  exact call_list_seq p (.inr rfl) ho hc hd (λh' c' kp e=>fin its r' hz h' c' kp e) (by simp only[Q0]<;>omega)
theorem iV:hX X (.type "tuple") (λxs H Q=>∃p ys,xs=[.ref p]/\((SqL X.K H p ys/\∀l,H l=none->Q (.ref l) (HQ H l (.tup ys)))\/(SqT X.K H p ys/\Q (.ref p) H))):=by
 intro pins s σ H xs us Q I r h
 obtain⟨p,ys,rfl,h⟩:=h
 obtain⟨u,rfl,rx⟩:=VZ r
 cases rx
 rcases h with⟨hq,q⟩|⟨hq,q⟩
 ·obtain⟨its,r',pl,hz⟩:=I.list hq
  have hlen:=r'.length
  refine call_tuple_list pl.isList (λh' kp=>?_) (by simp only[Q0]<;>omega)
  have I1:Inv X pins σ H { s with heap:=h' }:=I.kept (t':=s.toks) kp
  have I2:Inv X pins σ (HQ H h'.objs.size (.tup ys)) { s with heap:=h'.push { cls:=.type "tuple",data:=.seq its.toArray } } :=
   I1.laid (t':=s.toks) (λb o e=>g0 _ e) (G0 _) (show ObjOk X.prog X.w _ _ _ (.tup ys) from ⟨hz,its,r',IsTupD.new _ _⟩)
  exact ⟨.ref h'.objs.size,_,I2,rfl,q _ (I1.hok.fresh (G0 _))⟩
 ·obtain⟨its,r',pl,hz⟩:=I.tuple hq
  exact call_tuple_same pl ⟨.ref p,H,I,rfl,q⟩
noncomputable def UO(K:q0)(T:String)(x:V)(H:Hp):Prop:=match x with
 | .str _=>T = "str"
 | .int _=>T = "int"
 | .ref p=>(T = "list"/\∃xs,SqL K H p xs)\/(T = "tuple"/\∃o,K.lookup p=some o/\o.cls=.type "tuple"/\o.dict=none) \/
   (T = "dict"/\((∃kvs,H p=some (.dK kvs))\/∃kvs,H p=some (.dT kvs)))\/(T = "set"/\∃S n,H p=some (.set S n))
 | _=>False
theorem OB{pins:List (Addr×Obj)}{σ:St}{H:Hp}{s:Shared}{T:String}{x:V}{v:Value}(I:Inv X pins σ H s)(r:RelV x v)(ty:UO X.K T x H) :
  s.TypeIs v T/\∀a,v=.ref a->∃ob,s.heap.get? a=some ob/\ob.dict=none:=by
 cases x with
 | str z =>
  obtain⟨t,rfl⟩:=r
  cases (show T = "str" from ty)
  exact ⟨typeIs_str s z t,λ_ e=>nomatch e⟩
 | int i =>
  obtain⟨t,rfl⟩:=r
  cases (show T = "int" from ty)
  exact ⟨typeIs_int s i t,λ_ e=>nomatch e⟩
 | ref p =>
  cases r
  rcases ty with⟨rfl,xs,hq⟩|⟨rfl,o,hk,hc,hd⟩|⟨rfl,hk⟩|⟨rfl,S,n,hk⟩
  ·obtain⟨its,_,pl,_⟩:=I.list hq
   refine ⟨pl.isList.typeIs,λa e=>?_⟩
   cases e
   obtain⟨o,n,e,c,hd,_⟩:=pl
   exact ⟨o,e,hd⟩
  ·refine ⟨⟨o,I.kIn p o hk,hc⟩,λa e=>?_⟩
   cases e
   exact ⟨o,I.kIn _ o hk,hd⟩
  ·have z:∃o,s.heap.get? p=some o/\o.ExactDict:=by
    rcases hk with⟨kvs,hk⟩|⟨kvs,hk⟩
    ·obtain⟨_,_,_,_,o,_,_,e,ex,_⟩:=I.hok p _ hk
     exact ⟨o,e,ex⟩
    ·obtain⟨_,_,_,_,o,_,_,e,ex,_⟩:=I.hok p _ hk
     exact ⟨o,e,ex⟩
   obtain⟨o,e,ex⟩:=z
   refine ⟨⟨o,e,ex.1⟩,λa e2=>?_⟩
   cases e2
   exact ⟨o,e,ex.2.1⟩
  ·obtain⟨o,_,_,_,e,ex,_⟩:=I.hok p _ hk
   refine ⟨⟨o,e,ex.1⟩,λa e2=>?_⟩
   cases e2
   exact ⟨o,e,ex.2.1⟩
 | _=>exact False.elim ty
noncomputable def VM(K:q0)(T:String)(r:V->List V->Hp->VK->Prop)(to:TE)(t:TA):TE:=λσ H Q=>to σ H λx H1=>UO K T x H1/\t σ H1 λxs H2=>r x xs H2 Q
variable {o e:Expr}{es:List Expr}{to:TE}{t:TA}{name:Str}{apos cpos:Pos}{T id:String}{r:V->List V->Hp->VK->Prop}
theorem Ru(pa:PlainAttrs T)(slot:Slot T name id)(hty:typeOf (.builtin id)=pure (.type "method_descriptor"))(hm:DN X id r)(ho:PE X o to)(ha:PA X (e :: es) t)
  (hbase:attributeBase o name X.env (eval o X.env)=eval o X.env:=by rfl)
  (hfew:((backTo cpos (starEach (e :: es) X.env)).all (λx=>!x.1)&&(backToKw cpos (keywordEach [] X.env)).all (λx=>x.1.isSome)
    && decide ((e :: es).length+([]:List Keyword).length+(if ([]:List Keyword).isEmpty then 0 else 1) < 30))=true:=by rfl)
  (hline:(apos.endLine==cpos.line)=true:=by rfl) (hs:starEach (e :: es) X.env=(false,eval e X.env) :: starEach es X.env:=by rfl) (hplain:(backTo cpos (starEach es X.env)).any (·.1)=false:=by rfl) :
  PE X (.Call (.Attribute o name apos) (e :: es) [] cpos) (VM X.K T r to t):=by
 intro pins s σ H Q I h
 refine wpAny_Call_method_late hbase hfew hline rfl (gX (ho pins s σ H _ I h) λv s1 ⟨x,H1,I1,r1,ty,q1⟩=>?_)
 obtain⟨h1,h2⟩:=OB I1 r1 ty
 refine ⟨T,id,pa,slot,hty,h1,h2,?_⟩
 have hA:=ha cpos pins s1 σ H1 _ I1 q1
 rw[hs]at hA ⊢
 refine Calls.callWith_builtin (by show (false||(backTo cpos (starEach es X.env)).any (·.1))=false;rw[hplain]<;>rfl) (Calls.evalArgs_plain ?_)
 exact gX hA λus s2 ⟨vs,H2,I2,r2,q2⟩=>hm pins s2 σ H2 x vs v us Q I2 r1 r2 q2
end
noncomputable def EN(X:Cx)(id:String)(r:V->List V->Hp->VK->Prop):Prop :=
 ∀(pins:List (Addr×Obj)) (s:Shared) (σ:St) (H:Hp) (x:V) (xs:List V) (v:Value) (us:List Value) (Q:VK),Inv X pins σ H s->RelV x v->Vals xs us->r x xs H Q ->
  wpAny (model X.prog X.w) X.A (call (.builtin id) (v :: us)) (EP X pins σ Q) X.xe s
theorem Vals.one:∀{x:V}{us:List Value},Vals [x] us->∃u,us=[u]/\RelV x u
 | _,_,.cons r .nil=>⟨_,rfl,r⟩
theorem Vals.rep{xs:List V}{us:List Value}(h:Vals xs us):∀k:Nat,Vals (V1 k xs).flatten (V1 k us).flatten
 | 0=>.nil
 | k+1=>by
  rw[X3,X3,U5,U5]
  exact Vals.append h (Vals.rep h k)
theorem GV(its:List Value):∀(k:Nat) (acc:List Value),
  P9 (λx1 x2=>x1++x2) acc.toArray (V1 k its.toArray)=(acc++(V1 k its).flatten).toArray
 | 0,acc=>by simp
 | k+1,acc=>by
  have e:acc.toArray++its.toArray=(acc++its).toArray:=by simp
  have e2:(acc++its)++(V1 k its).flatten=acc++(V1 (k+1) its).flatten:=by
   rw[X3,U5,Q2]
  rw[<- e2,<- GV its k (acc++its),<- e,X3,Q3]
section
variable {X:Cx}{pins:List (Addr×Obj)}{σ:St}{H:Hp}{s:Shared}{l b:Addr}{xs ys zs:List V}
theorem Inv.lset{its its':List Value}{n:Nat}{f:Array Value->Array Value}{t':Nat}(I:Inv X pins σ H s)(hH:H l=some (.lst xs))
  (e:s.heap.get? l=some { cls:=.type "list",data:=.seq its.toArray n }) (hf:f its.toArray=its'.toArray) (hv:Vals ys its') (hz:ys.length<=sizeLine) :
  Inv X pins σ (HQ H l (.lst ys)) { s with heap:=s.heap.update l (S2 f),toks:=t' }:=by
 have q:=PySem.IsL.update e f
 rw[hf]at q
 refine I.write (x:=l) (e:=l) (by rw[hH];exact trivial) (.inl rfl) (λb' u hb hu=>(V3 s.heap (S2 f) (L1 hb)).trans hu) ⟨_,q⟩ ?_
 exact ⟨hz,its',_,hv,q⟩
theorem Inv.lnew{its:List Value}{t':Nat}(I:Inv X pins σ H s)(hv:Vals ys its)(hz:ys.length<=sizeLine) :
  Inv X pins σ (HQ H s.heap.objs.size (.lst ys)) { s with heap:=s.heap.push { cls:=.type "list",data:=.seq its.toArray },toks:=t' } :=
 I.laid (λ_ _ q=>g0 _ q) (G0 _) ⟨hz,its,0,hv,J0 _ rfl⟩
theorem Inv.fresh(I:Inv X pins σ H s):H s.heap.objs.size=none:=I.hok.fresh (G0 _)
theorem Inv.lstM(I:Inv X pins σ H s)(hH:H l=some (.lst xs)):xs.length<=sizeLine/\∃(its:List Value) (n:Nat),Vals xs its/\xs.length=its.length/\s.heap.get? l=some { cls:=.type "list",data:=.seq its.toArray n }:=by
 obtain⟨z,its,n,r,e⟩:=I.hok l _ hH
 exact ⟨z,its,n,r,r.length,e⟩
theorem mH{n:Nat}(h:n<=sizeLine):i6 n=false:=by
 unfold i6
 exact decide_eq_false (by omega)
end
section
variable {X:Cx}
noncomputable def LY:V->List V->Hp->VK->Prop:=λx vs H Q=>∃l xs y,x=.ref l/\vs=[y]/\H l=some (.lst xs)/\xs.length < sizeLine/\Q .non (HQ H l (.lst (xs++[y])))
theorem SX:EN X "list.append" LY:=by
 intro pins s σ H x vs v us Q I rx rv h
 obtain⟨l,xs,y,rfl,rfl,hH,hz,q⟩:=h
 cases rx
 obtain⟨u,rfl,ru⟩:=rv.one
 obtain⟨z,its,n,r,hl,e⟩:=I.lstM hH
 refine call_meets F.slot_list_append ⟨_,e,rfl⟩ F.entry_list_append (F.args_list_append_2 _ _) (PySem.list_append l its.toArray n u (by rw[Q0];omega)) ⟨e,?_⟩
 refine ⟨.non,_,I.lset (its':=its++[u]) hH e (by simp) (r.append (.cons ru .nil)) ?_,rfl,q⟩
 rw[M0,E1]
 omega
noncomputable def jD:V->List V->Hp->VK->Prop:=λx vs H Q=>∃l b xs zs,x=.ref l/\vs=[.ref b]/\H l=some (.lst xs)/\H b=some (.lst zs)/\xs.length+zs.length<=sizeLine/\Q .non (HQ H l (.lst (xs++zs)))
theorem Tq:EN X "list.extend" jD:=by
 intro pins s σ H x vs v us Q I rx rv h
 obtain⟨l,b,xs,zs,rfl,rfl,hH,hB,hz,q⟩:=h
 cases rx
 obtain⟨u,rfl,ru⟩:=rv.one
 cases ru
 obtain⟨z,its,n,r,hl,e⟩:=I.lstM hH
 obtain⟨z2,its2,n2,r2,hl2,e2⟩:=I.lstM hB
 have hsz:its.toArray.size+its2.toArray.size<=sizeLine:=by rw[Q0,Q0];omega
 have hlong:¬(!its.toArray.isEmpty&&i6 (its.toArray.size+its2.toArray.size))=true:=by
  rw[mH hsz,Bool.and_false]
  exact G1
 refine call_meets F.slot_list_extend ⟨_,e,rfl⟩ F.entry_list_extend (F.args_list_extend_2 _ _)
  (AutoSeq1.list_extend_list_list_0 l its.toArray n b its2.toArray n2 hlong (by rw[Q0];omega) (by omega)) ⟨e,e2,?_⟩
 refine ⟨.non,_,I.lset (its':=its++its2) hH e (by simp) (r.append r2) ?_,rfl,q⟩
 rw[M0]
 omega
noncomputable def PB:R2:=λx y H Q=>∃l b xs zs,x=.ref l/\y=.ref b/\H l=some (.lst xs)/\H b=some (.lst zs)/\xs.length+zs.length<=sizeLine/\∀p,H p=none->Q (.ref p) (HQ H p (.lst (xs++zs)))
theorem QB:OpR X (binaryOp .Add) PB:=by
 intro pins s σ H x y v u Q I rx ry h
 obtain⟨l,b,xs,zs,rfl,rfl,hH,hB,hz,q⟩:=h
 cases rx
 cases ry
 obtain⟨z,its,n,r,hl,e⟩:=I.lstM hH
 obtain⟨z2,its2,n2,r2,hl2,e2⟩:=I.lstM hB
 refine PySem.P.add_list e e2 ?_ (by rw[Q0,Q0];omega)
 have ea:its.toArray++its2.toArray=(its++its2).toArray:=by simp
 rw[ea]
 exact ⟨.ref _,_,I.lnew (t':=s.toks) (r.append r2) (by rw[M0];omega),rfl,q _ I.fresh⟩
noncomputable def RB:R2:=λx y H Q=>∃l k xs,x=.ref l/\y=.int k/\H l=some (.lst xs)/\-(2 ^ 63)<=k/\k < 2 ^ 63/\xs.length * k.toNat<=sizeLine /\
 ∀p,H p=none->Q (.ref p) (HQ H p (.lst (V1 k.toNat xs).flatten))
theorem Dv{α:Type}(xs:List α)(k:Nat):(V1 k xs).flatten.length=k * xs.length:=by
 induction k with
 | zero=>simp
 | succ k ih=>rw[X3,U5,M0,ih,y9,A9]
theorem SB:OpR X (binaryOp .Mult) RB:=by
 intro pins s σ H x y v u Q I rx ry h
 obtain⟨l,k,xs,rfl,rfl,hH,h1,h2,hz,q⟩:=h
 cases rx
 obtain⟨t,rfl⟩:=ry
 obtain⟨z,its,n,r,hl,e⟩:=I.lstM hH
 have hlen:its.toArray.size * k.toNat<=sizeLine:=by rw[Q0,<- hl];exact hz
 have hcap:¬its.toArray.size * k.toNat > (2 ^ 63 - 1) / 8:=by
  have:(sizeLine:Nat)<=(2 ^ 63 - 1) / 8:=by decide
  omega
 have hfit:¬(!Builtin.List.listFitsIndex k)=true:=by
  rw[fitsIndex_both h1 h2]
  exact G1
 have hlong:¬i6 (its.toArray.size * k.toNat)=true:=by
  rw[mH hlen]
  exact G1
 have hnew:P9 (λx1 x2=>x1++x2) #[] (V1 (if its.toArray.isEmpty=true then 0 else k.toNat) its.toArray)=(V1 k.toNat its).flatten.toArray:=by
  have f0:∀m:Nat,P9 (λx1 x2=>x1++x2) #[] (V1 m its.toArray)=(V1 m its).flatten.toArray:=λm=>by
   have:=GV its m []
   rw[K8]at this
   exact this
  rw[f0]
  cases its with
  | nil=>simp
  | cons a r'=>rw[if_neg (by simp)]
 refine wpAny_binaryOp_repeat_ref (T:="list") (U:="int") (by decide) ⟨_,e,rfl⟩ (λs'=>typeIs_int s' k t) noFill_list_mul F.fills_int_mul F.slot_int_rmul repeat_list F.slot_int_index.lookup
  (call_meets F.slot_int_rmul (typeIs_int s k t) F.entry_int_rmul (F.args_int_rmul_2 _ _) (int___rmul___int_list k t l its.toArray n)
    ⟨e,rfl,⟨_,e,rfl⟩,call_meets F.slot_list_mul ⟨_,e,rfl⟩ F.entry_list_mul (F.args_list_mul_2 _ _) (AutoListH.list___mul___list_int_3 l its.toArray n k t hfit hcap hlong) ⟨e,?_⟩⟩)
 rw[hnew]
 exact ⟨.ref _,_,I.lnew (t':=s.toks) (r.rep k.toNat) (by rw[Dv,S5];exact hz),rfl,q _ I.fresh⟩
end
section
variable {prog:Program}{w:World}{A:Around}{E:Value->Shared->Prop}{s:Shared}
set_option maxRecDepth 100000 in
end
section
variable {X:Cx}
end
section
variable {κ:Type}[DecidableEq κ]
noncomputable def wX(kvs:List (κ×V))(k:κ):Option V:=(kvs.find? λkv=>decide (kv.1=k)).map (·.2)
noncomputable def aZ(kvs:List (κ×V))(k:κ)(v:V):List (κ×V) :=
 if (kvs.any λkv=>decide (kv.1=k))=true then kvs.map (λkv=>if kv.1=k then (kv.1,v) else kv) else kvs++[(k,v)]
theorem bZ{p:κ×V}{r:List (κ×V)}{k:κ}(e:p.1=k):wX (p :: r) k=some p.2:=by simp[wX,j4,e]
theorem cZ{p:κ×V}{r:List (κ×V)}{k:κ}(e:¬p.1=k):wX (p :: r) k=wX r k:=by simp[wX,j4,e]
theorem gW(k:κ):∀kvs:List (κ×V),(kvs.any λkv=>decide (kv.1=k))=(wX kvs k).isSome
 | []=>rfl
 | p :: r=>by
  rw[j8]
  by_cases e:p.1=k
  ·simp only[bZ e,decide_eq_true e,Bool.true_or,u9]
  ·rw[cZ e,decide_eq_false e,Bool.false_or];exact gW k r
theorem xZ(kvs:List (κ×V))(k:κ)(v:V):(aZ kvs k v).length<=kvs.length+1:=by
 unfold aZ
 split
 ·rw[i0];omega
 ·rw[M0,K1,N6];omega
theorem nH{kvs:List (κ×V)}{k:κ}(v:V)(h:wX kvs k=none):aZ kvs k v=kvs++[(k,v)]:=by
 unfold aZ
 rw[gW,h]
 exact if_neg (by decide)
theorem RelO.isSome_eq{o:Option V}{u:Option Value}(r:RelO o u):o.isSome=u.isSome:=by
 cases o with
 | none=>cases u with
  | none=>rfl
  | some _=>exact (show False from r).elim
 | some _=>cases u with
  | none=>exact (show False from r).elim
  | some _=>rfl
theorem RelO.getD{o:Option V}{u:Option Value}{d:V}{d':Value}(r:RelO o u)(rd:RelV d d'):RelV (o.getD d) (u.getD d'):=by
 cases o with
 | none=>cases u with
  | none=>exact rd
  | some _=>exact (show False from r).elim
 | some _=>cases u with
  | none=>exact (show False from r).elim
  | some _=>exact r
theorem KV.val{kvs:List (κ×V)}{vs:List (κ×Value)}(r:KV kvs vs)(k:κ):RelO (wX kvs k) (valueAt vs k):=by
 unfold KV at r
 induction r with
 | nil=>exact True.intro
 | @cons p q ps qs h t ih =>
  obtain⟨h1,h2⟩:=h
  by_cases e:p.1=k
  ·have e':q.1=k:=h1.symm.trans e
   have b:valueAt (q :: qs) k=some q.2:=by simp[valueAt,j4,e']
   rw[bZ e,b];exact h2
  ·have e':¬q.1=k:=λz=>e (h1.trans z)
   have b:valueAt (q :: qs) k=valueAt qs k:=by simp[valueAt,j4,e']
   rw[cZ e,b];exact ih
theorem KV.any{kvs:List (κ×V)}{vs:List (κ×Value)}(r:KV kvs vs)(k:κ):(kvs.any λkv=>decide (kv.1=k))=vs.any λkv=>decide (kv.1=k):=by
 unfold KV at r
 induction r with
 | nil=>rfl
 | cons h t ih=>rw[j8,j8,ih,h.1]
theorem KV.repl{kvs:List (κ×V)}{vs:List (κ×Value)}(r:KV kvs vs)(k:κ){y:V}{u:Value}(ry:RelV y u) :
  KV (kvs.map λkv=>if kv.1=k then (kv.1,y) else kv) (vs.map λkv=>if kv.1=k then (kv.1,u) else kv):=by
 unfold KV at r ⊢
 induction r with
 | nil=>exact .nil
 | @cons p q ps qs h t ih =>
  rw[Z0,Z0]
  refine .cons ?_ ih
  obtain⟨h1,h2⟩:=h
  by_cases e:p.1=k
  ·rw[if_pos e,if_pos (h1.symm.trans e)];exact ⟨h1,ry⟩
  ·rw[if_neg e,if_neg (λz=>e (h1.trans z))];exact ⟨h1,h2⟩
theorem KV.put{kvs:List (κ×V)}{vs:List (κ×Value)}(r:KV kvs vs)(k:κ){y:V}{u:Value}(ry:RelV y u):KV (aZ kvs k y) (stored vs k u):=by
 unfold aZ stored
 rw[r.any k]
 by_cases e:(vs.any λkv=>decide (kv.1=k))=true
 ·rw[if_pos e,if_pos e];exact r.repl k ry
 ·rw[if_neg e,if_neg e];exact Paired.snoc r ⟨rfl,ry⟩
theorem KV.length{kvs:List (κ×V)}{vs:List (κ×Value)}(r:KV kvs vs):kvs.length=vs.length:=Paired.length r
end
theorem HV{P:Program}{w:World}{k:GQ}{u:Value}(r:RelV (kV k) u):(TQ P w).is k u=true:=by
 cases k with
 | inl i=>obtain⟨t,e⟩:=(show ∃t,u=Value.int i t from r);subst e;exact ZU P w i t
 | inr x=>obtain⟨t,e⟩:=(show ∃t,u=Value.str x t from r);subst e;exact aH P w x t
theorem IV{P:Program}{w:World}:∀{ks:List GQ}{us:List Value},Vals (ks.map kV) us->ItemsAre (TQ P w) ks us
 | [],_,r=>by rw[q5]at r;cases r;exact .nil
 | k :: ks,_,r=>by
  rw[Z0]at r
  cases r with
  | cons h t=>exact .cons (HV h) (IV t)
noncomputable abbrev KT(H:Hp):List (List GQ×V)->List (List GQ×Addr×Value)->Prop:=Paired λp q=>p.1=q.1/\H q.2.1=some (.tup (p.1.map kV))/\RelV p.2 q.2.2
theorem KT.val{H:Hp}{kvs:List (List GQ×V)}{xs:List (List GQ×Addr×Value)}(r:KT H kvs xs)(k:List GQ):RelO (wX kvs k) ((atKey xs k).map (·.2)):=by
 induction r with
 | nil=>exact True.intro
 | @cons p q ps qs h t ih =>
  obtain⟨h1,_,h2⟩:=h
  by_cases e:p.1=k
  ·have e':q.1=k:=h1.symm.trans e
   have b:atKey (q :: qs) k=some q.2:=by simp[atKey,j4,e']
   rw[bZ e,b];exact h2
  ·have e':¬q.1=k:=λz=>e (h1.trans z)
   have b:atKey (q :: qs) k=atKey qs k:=by simp[atKey,j4,e']
   rw[cZ e,b];exact ih
theorem KT.repl{H:Hp}{kvs:List (List GQ×V)}{xs:List (List GQ×Addr×Value)}(r:KT H kvs xs)(k:List GQ){y:V}{u:Value}(ry:RelV y u) :
  KT H (kvs.map λkv=>if kv.1=k then (kv.1,y) else kv) (xs.map (putAt k u)):=by
 induction r with
 | nil=>exact .nil
 | @cons p q ps qs h t ih =>
  rw[Z0,Z0]
  refine .cons ?_ ih
  obtain⟨h1,h2,h3⟩:=h
  unfold putAt
  by_cases e:p.1=k
  ·rw[if_pos e,if_pos (h1.symm.trans e)];exact ⟨h1,h2,ry⟩
  ·rw[if_neg e,if_neg (λz=>e (h1.trans z))];exact ⟨h1,h2,h3⟩
theorem KT.put{H:Hp}{kvs:List (List GQ×V)}{xs:List (List GQ×Addr×Value)}(r:KT H kvs xs)(k:List GQ){b:Addr}{y:V}{u:Value}(hb:H b=some (.tup (k.map kV)))(ry:RelV y u) :
  KT H (aZ kvs k y) (storedH xs k b u):=by
 have e:(kvs.any λkv=>decide (kv.1=k))=(atKey xs k).isSome:=by
  rw[gW,(r.val k).isSome_eq,Option.isSome_map]
 unfold aZ storedH
 rw[e]
 by_cases q:(atKey xs k).isSome=true
 ·rw[if_pos q,if_pos q];exact r.repl k ry
 ·rw[if_neg q,if_neg q];exact Paired.snoc r ⟨rfl,hb,ry⟩
theorem KT.keeps{H H':Hp}{kvs:List (List GQ×V)}{xs:List (List GQ×Addr×Value)}(r:KT H kvs xs)(ht:∀b ys,H b=some (.tup ys)->H' b=some (.tup ys)):KT H' kvs xs :=
 Paired.mapP r λ_ _ z=>⟨z.1,ht _ _ z.2.1,z.2.2⟩
section
variable {P:Program}{w:World}{H:Hp}{h:Heap}{a:Addr}
theorem Su{u:HO}(ok:HOk P w H h)(e:Rd H a u):ObjOk P w H h a u:=e.ok ok
theorem oH{kvs:List (GQ×V)}(ok:HOk P w H h)(e:Rd H a (.dK kvs)):kvs.length<=sizeLine/\(a==sysModules)=false/\∃vs,KV kvs vs/\h.DictOf (TQ P w) a vs :=
 show ObjOk P w H h a (.dK kvs) from Su ok e
theorem Ej{kvs:List (GQ×V)}(ok:HOk P w H h)(e:H a=some (.dK kvs)):kvs.length<=sizeLine/\(a==sysModules)=false/\∃vs,KV kvs vs/\h.DictOf (TQ P w) a vs:=oH ok (.inl e)
theorem pU{ks:List GQ}(ok:HOk P w H h)(e:H a=some (.tup (ks.map kV))):(tupleKind (TQ P w)).is h ks a:=by
 obtain⟨_,its,r,o,h1,h2,n,h3,_⟩:=(show ObjOk P w H h a (.tup (ks.map kV)) from ok a _ e)
 exact ⟨o,its.toArray,n,h1,h2,h3,by simpa using IV r⟩
theorem pH{kvs:List (List GQ×V)}(ok:HOk P w H h)(e:Rd H a (.dT kvs)):kvs.length<=sizeLine/\(a==sysModules)=false /\
  ∃xs,KT H kvs xs/\h.DictOfH (tupleKind (TQ P w)) a xs:=by
 obtain⟨z,y,xs,r,o,es,ep,h1,h2,h3,h4,h5⟩:=(show ObjOk P w H h a (.dT kvs) from Su ok e)
 refine ⟨z,y,xs,r,o,es,ep,h1,h2,h3,h4,λx hx=>?_,h5⟩
 have all:∀{l:List (List GQ×V)}{m:List (List GQ×Addr×Value)},KT H l m->∀x∈m,(tupleKind (TQ P w)).is h x.1 x.2.1:=by
  intro l m q
  induction q with
  | nil=>intro x hx;exact nomatch hx
  | @cons p q ps qs hq t ih =>
   intro x hx
   rcases B2.mp hx with e|hx
   ·subst e
    exact pU ok (by rw[<- hq.1];exact hq.2.1)
   ·exact ih x hx
 exact all r x hx
theorem QI{kvs:List (List GQ×V)}(ok:HOk P w H h)(e:H a=some (.dT kvs)):kvs.length<=sizeLine/\(a==sysModules)=false /\
  ∃xs,KT H kvs xs/\h.DictOfH (tupleKind (TQ P w)) a xs:=pH ok (.inl e)
end
noncomputable def UG(H:Hp)(a:Addr)(y:V)(r:Option V):Prop :=
 (∃kvs k,Rd H a (.dK kvs)/\y=kV k/\r=wX kvs k)\/∃kvs k b,Rd H a (.dT kvs)/\y=.ref b/\H b=some (.tup (k.map kV))/\r=wX kvs k
noncomputable def TB(H:Hp)(a:Addr)(y v:V)(H':Hp):Prop :=
 (∃kvs k,H a=some (.dK kvs)/\y=kV k/\kvs.length < sizeLine/\H'=HQ H a (.dK (aZ kvs k v))) \/
 ∃kvs k b,H a=some (.dT kvs)/\y=.ref b/\H b=some (.tup (k.map kV))/\kvs.length < sizeLine/\H'=HQ H a (.dT (aZ kvs k v))
section
variable {X:Cx}{pins:List (Addr×Obj)}{σ:St}{H:Hp}{s:Shared}{a:Addr}{y v:V}{u r:Value}{o:Option V}{A:Around}{E:Value->Shared->Prop}
theorem Inv.big(I:Inv X pins σ H s):sysModules < s.heap.objs.size:=by
 have h:mainGlobals < s.heap.objs.size:=(I.mod.glob.keeps I.bk).lt
 exact P7 (by decide) h
theorem Uq{Q:Value->Shared->Prop}(hu:A.units+1 < cLine)(I:Inv X pins σ H s)(g:UG H a y (some v))(ry:RelV y u)(h:∀w' s',Inv X pins σ H s'->RelV v w'->Q w' s') :
  wpAny (model X.prog X.w) A (getItem (.ref a) u) Q E s:=by
 rcases g with⟨kvs,k,e,ey,l⟩|⟨kvs,k,b,e,ey,eb,l⟩
 ·subst ey
  obtain⟨z,hd,vs,rel,dd⟩:=oH I.hok e
  obtain⟨w',hw,rw'⟩:=RelO.some_of (v:=v) (o:=valueAt vs k) (by rw[l];exact rel.val k)
  exact wpAny_getItem_of (HV ry) dd.mapOf hw (h w' _ (I.tok _) rw')
 ·subst ey
  cases (show u=U1 b from ry)
  obtain⟨z,hd,xs,rel,dd⟩:=pH I.hok e
  obtain⟨w',hw,rw'⟩:=RelO.some_of (v:=v) (o:=(atKey xs k).map (·.2)) (by rw[l];exact rel.val k)
  obtain⟨p,hp,hp2⟩:=J3.mp hw
  refine wpAny_getItem_heap (tupleKind_room_in1 hu) (pU I.hok eb) dd hp ?_
  rw[hp2]
  exact h w' _ (I.tok _) rw'
theorem MY{h':Heap}{t':Nat}{ob:HO}(I:Inv X pins σ H s)(mu:AI (H a))(hs:o5 a s.heap h')(he:∃q,h'.get? a=some q)(new:ObjOk X.prog X.w (HQ H a ob) h' a ob) :
  Inv X pins σ (HQ H a ob) { s with heap:=h',toks:=t' } :=
 I.write (x:=a) (e:=a) mu (.inl rfl) (λb q hb z=>(hs.2 b hb).trans z) he new
theorem VG{P:Program}{w:World}{H':Hp}{h':Heap}{kvs:List (GQ×V)}{vs:List (GQ×Value)}(z:kvs.length<=sizeLine)(hd:(a==sysModules)=false)(rel:KV kvs vs)(dd:h'.DictOf (TQ P w) a vs) :
  ObjOk P w H' h' a (.dK kvs):=⟨z,hd,vs,rel,dd⟩
theorem Vq{H':Hp}{Q:Unit->Shared->Prop}(hu:A.units+1 < cLine)(I:Inv X pins σ H s)(g:TB H a y v H')(ry:RelV y u)(rv:RelV v r)(h:∀s',Inv X pins σ H' s'->Q () s') :
  wpAny (model X.prog X.w) A (setItem (.ref a) u r) Q E s:=by
 rcases g with⟨kvs,k,e,ey,l,eH⟩|⟨kvs,k,b,e,ey,eb,l,eH⟩
 ·subst ey eH
  obtain⟨z,hd,vs,rel,dd⟩:=Ej I.hok e
  have hz:vs.length<=sizeLine:=by rw[<- rel.length];exact z
  have hl:(aZ kvs k v).length<=sizeLine:=by have:=xZ kvs k v;omega
  refine wpAny_setItem_pairs (hsz:=hz) (HV ry) dd λh' dd' hs=>h _ ?_
  have he:∃q,h'.get? a=some q:=let ⟨q,_,_,hq,_⟩:=dd';⟨q,hq⟩
  exact MY I (by rw[e];exact True.intro) hs he (VG hl hd (rel.put k rv) dd')
 ·subst ey eH
  cases (show u=U1 b from ry)
  obtain⟨z,hd,xs,rel,dd⟩:=QI I.hok e
  have hz:xs.length<=sizeLine:=by rw[<- Paired.length rel];exact z
  have hl:(aZ kvs k v).length<=sizeLine:=by have:=xZ kvs k v;omega
  refine wpAny_setItem_heap (hsz:=hz) (tupleKind_room_in1 hu) (pU I.hok eb) dd λh' dd' hs=>h _ ?_
  obtain⟨q,es,ep,hq,h2,h3,h4,_,h5⟩:=dd'
  refine MY I (by rw[e];exact True.intro) hs ⟨q,hq⟩ ⟨hl,hd,_,(rel.put k eb rv).keeps λc ys ec=>?_,q,es,ep,hq,h2,h3,h4,h5⟩
  rw[cQ (yI ec e (λz=>nomatch z))]
  exact ec
end
section
variable {X:Cx}{pins:List (Addr×Obj)}{σ:St}{H:Hp}{s:Shared}{a:Addr}{kvs:List (GQ×V)}{k:GQ}{u:Value}{A:Around}{E:Value->Shared->Prop}
end
noncomputable def UB(i:Expr):Prop:=∀ov iv,subscripted i false ov iv=operate [ov,iv] (getItem ov iv)
theorem Fv{prog:Program}{w:World}{A:Around}{E:Value->Shared->Prop}{s:Shared}{env:Env}{value slice:Expr}{pos:Pos}{T id:String}{Q:Value->Shared->Prop}
  (hl:typeLookup (.type T) "__getitem__"=pure (some (.builtin id))) (hs:UB slice)
  (h:wpAny (model prog w) A (eval value env) (λo s₁=>wpAny (model prog w) A (eval slice env) (λi s₂=>s₂.TypeIs o T/\wpAny (model prog w) A (getItem o i) Q E s₂) E s₁) E s) :
  wpAny (model prog w) A (eval (.Subscript value slice pos) env) Q E s:=by
 refine Subscript_ (wpAny_mono h (λo s₁ h₁=>wpAny_mono h₁ (λi s₂ h₂=>?_) λ_ _ x=>x) λ_ _ x=>x)
 obtain⟨hT,h₂⟩:=h₂
 unfold subscriptTail
 refine wpAny_bind ?_
 rw[getitemInPython_of_ne hT.not_modules]
 refine wpAny_bind (wpAny_specialOf hT hl ?_)
 have fin:wpAny (model prog w) A (subscripted slice false o i) (λr s₃=>wpAny (model prog w) A (letTemporaryGo value o r >>= λ_=>pure r) Q E s₃) E s₂:=by
  rw[hs o i]
  exact wpAny_operating (wpAny_mono h₂ (λr s₃ h₃=>wpAny_bind (wpAny_letTemporaryGo (wpAny_pure h₃))) λ_ _ x=>x)
 first
  | exact wpAny_pure (wpAny_bind fin)
  | exact wpAny_bind (wpAny_pure (wpAny_bind fin))
  | exact wpAny_bind fin
theorem qH{X:Cx}{pins:List (Addr×Obj)}{σ:St}{H:Hp}{s:Shared}{a:Addr}{y:V}{o:Option V}(I:Inv X pins σ H s)(g:UG H a y o):s.TypeIs (.ref a) "dict":=by
 rcases g with⟨kvs,k,e,_,_⟩|⟨kvs,k,b,e,_,_,_⟩
 ·obtain⟨_,_,vs,_,dd⟩:=oH I.hok e
  exact dd.typeIs
 ·obtain⟨_,_,xs,_,dd⟩:=pH I.hok e
  exact dd.typeIs
noncomputable def RI(td ty:TE):TE:=λσ H Q=>td σ H λx H1=>ty σ H1 λy H2=>∃a v,x=.ref a/\UG H2 a y (some v)/\Q v H2
noncomputable def Fj(td ty tv:TE):TS:=λD σ H=>tv σ H λv H1=>td σ H1 λx H2=>ty σ H2 λy H3=>∃a H4,x=.ref a/\TB H3 a y v H4/\D.nx σ H4
section
variable {X:Cx}{o i e value:Expr}{pos pos' tpos:Pos}{td ty tv:TE}
theorem Gv(hu:X.A.units+1 < cLine)(ho:PE X o td)(hi:PE X i ty)(hs:UB i):PE X (.Subscript o i pos) (RI td ty):=by
 intro pins s σ H Q I h
 refine Fv PySem.F.slot_dict_getitem.lookup hs (gX (ho pins s σ H _ I h) λu s1 ⟨x,H1,I1,rx,q1⟩=>gX (hi pins s1 σ H1 _ I1 q1) λiv s2 ⟨y,H2,I2,ry,a,v,ex,g,q2⟩=>?_)
 subst ex
 obtain rfl:u=U1 a:=rx
 exact ⟨qH I2 g,Uq hu I2 g ry λw' s3 I3 rw'=>⟨v,H2,I3,rw',q2⟩⟩
theorem Hv(hu:X.A.units+1 < cLine)(ho:PE X o td)(hi:PE X i ty)(hv:PE X value tv)(hs:swapsWith value (some (.Subscript o i pos')) pos.line X.env=pure false) :
  PS X (.Assign [.Subscript o i pos'] value pos) (Fj td ty tv):=by
 intro pins s σ H D I h
 refine wpAny_Assign_Subscript (gX (hv pins s σ H _ I h) λr s1 ⟨v,H1,I1,rv,q1⟩=>gX (ho pins s1 σ H1 _ I1 q1) λu s2 ⟨x,H2,I2,rx,q2⟩=>gX (hi pins s2 σ H2 _ I2 q2) λiv s3 ⟨y,H3,I3,ry,a,H4,ex,g,q3⟩=>?_) hs
 subst ex
 obtain rfl:u=U1 a:=rx
 exact Vq hu I3 g ry rv λs4 I4=>⟨σ,H4,I4,q3⟩
end
theorem Gj{P:Program}{w:World}{H:Hp}(h:Heap)(hb:sysModules < h.objs.size):ObjOk P w H (h.push { cls:=.type "dict",data:=.dict #[] }) h.objs.size (.dK []) :=
 ⟨u4 _,beq_eq_false_iff_ne.mpr (L1 (R0 hb)),[],.nil,Heap.DictOf.new h⟩
section
variable {X:Cx}{pos:Pos}
end
noncomputable def qU:List (TE×TE)->St->Hp->(List (V×V)->Hp->Prop)->Prop
 | [],_,H,Q=>Q [] H
 | (tk,tv) :: r,σ,H,Q=>tk σ H λx H1=>tv σ H1 λy H2=>qU r σ H2 λps H3=>Q ((x,y) :: ps) H3
noncomputable abbrev VV:List (V×V)->List (Value×Value)->Prop:=Paired λp q=>RelV p.1 q.1/\RelV p.2 q.2
noncomputable def WM(X:Cx)(pos:Pos)(keys:List (Option Expr))(values:List Expr)(trs:List (TE×TE)):Prop :=
 ∀(pins:List (Addr×Obj)) (s:Shared) (σ:St) (H:Hp) (Q:List (V×V)->Hp->Prop),Inv X pins σ H s->qU trs σ H Q ->
  wpAny (model X.prog X.w) X.A (evalPairs (pairTrees keys values X.env pos)) (λvs s'=>∃ps H',Inv X pins σ H' s'/\VV ps vs/\Q ps H') X.xe s
theorem kD{X:Cx}{pos:Pos}:WM X pos [] [] []:=λpins s σ H Q I h=>pairTrees_nil_walk ⟨[],H,I,.nil,h⟩
theorem mK{X:Cx}{pos:Pos}{k v:Expr}{ks:List (Option Expr)}{vs:List Expr}{tk tv:TE}{trs:List (TE×TE)}(hk:PE X k tk)(hv:PE X v tv)(hr:WM X pos ks vs trs) :
  WM X pos (some k :: ks) (v :: vs) ((tk,tv) :: trs):=λpins s σ H Q I h =>
 pairTrees_cons_walk (gX (hk pins s σ H _ I h) λu s1 ⟨x,H1,I1,rx,q1⟩=>gX (hv pins s1 σ H1 _ I1 q1) λw2 s2 ⟨y,H2,I2,ry,q2⟩ =>
   gX (hr pins s2 σ H2 _ I2 q2) λws s3 ⟨ps,H3,I3,rel,q3⟩=>⟨(x,y) :: ps,H3,I3,.cons ⟨rx,ry⟩ rel,q3⟩)
noncomputable def OZ(kvs more:List (GQ×V)):List (GQ×V):=more.foldl (λacc kv=>aZ acc kv.1 kv.2) kvs
theorem KV.merge:∀{more:List (GQ×V)}{rs:List (GQ×Value)}{kvs:List (GQ×V)}{vs:List (GQ×Value)},KV more rs->KV kvs vs->KV (OZ kvs more) (merged vs rs):=by
 intro more rs kvs vs r
 unfold KV at r
 induction r generalizing kvs vs with
 | nil=>intro q;exact q
 | @cons p q ps qs h t ih =>
  intro r0
  have e:KV (aZ kvs p.1 p.2) (stored vs q.1 q.2):=by
   have:=r0.put p.1 h.2
   rw[<- h.1];exact this
  exact ih e
theorem LJ:∀(more kvs:List (GQ×V)),(OZ kvs more).length<=kvs.length+more.length
 | [],kvs=>by show kvs.length<=kvs.length+0;omega
 | p :: r,kvs=>by
  have h1:=LJ r (aZ kvs p.1 p.2)
  have h2:=xZ kvs p.1 p.2
  show (OZ (aZ kvs p.1 p.2) r).length<=_
  rw[K1];omega
theorem iW{P:Program}{w:World}:∀{kvs:List (GQ×V)}{ws:List (Value×Value)},VV (kvs.map λkv=>(kV kv.1,kv.2)) ws->∃rs,Carries (TQ P w) ws rs/\KV kvs rs
 | [],_,r=>by rw[q5]at r;cases r;exact ⟨[],True.intro,.nil⟩
 | p :: kvs,_,r=>by
  rw[Z0]at r
  cases r with
  | @cons a b as bs h t =>
   obtain⟨rs,c,q⟩:=iW (P:=P) (w:=w) t
   obtain⟨b1,b2⟩:=b
   exact ⟨(p.1,b2) :: rs,⟨HV h.1,rfl,c⟩,.cons ⟨rfl,h.2⟩ q⟩
noncomputable def lD(trs:List (TE×TE)):TE:=λσ H Q=>∀p,H p=none->qU trs σ (HQ H p (.dK [])) λps H2=>H2 p=some (.dK [])/\∃kvs:List (GQ×V),ps=kvs.map (λkv=>(kV kv.1,kv.2))/\kvs.length<=15/\Q (.ref p) (HQ H2 p (.dK (OZ [] kvs)))
theorem mD{X:Cx}{pos:Pos}{keys:List (Option Expr)}{values:List Expr}{trs:List (TE×TE)}(h:WM X pos keys values trs)(hall:keys.all (·.isSome)=true)(hl:keys.length=values.length)(h0:keys≠[])
  (h15:keys.length<=15):PE X (.Dict keys values pos) (lD trs):=by
 intro pins s σ H Q I q
 have hn:=I.hok.fresh (G0 s.heap.objs.size)
 have I1:=I.laid (a:=s.heap.objs.size) (o:=.dK []) (h':=s.heap.push { cls:=.type "dict",data:=.dict #[] }) (t':=s.toks) (λ_ _ q=>g0 _ q) (G0 _) (Gj s.heap I.big)
 refine wpAny_Dict_walk (knd:=TQ X.prog X.w) hall hl h0 h15 (gX (h pins _ σ _ _ I1 (q _ hn)) λws s2 ⟨ps,H2,I2,rel,e,kvs,ep,lk,q2⟩=>?_)
 subst ep
 obtain⟨rs,c,rk⟩:=iW (P:=X.prog) (w:=X.w) rel
 obtain⟨z,hd,vs0,r0,dd⟩:=Ej I2.hok e
 cases r0
 refine ⟨rs,c,dd,λh' dd' hs=>⟨.ref s.heap.objs.size,_,?_,rfl,q2⟩⟩
 have hz:(OZ [] kvs).length<=sizeLine:=by
  have h1:=LJ kvs []
  rw[N6]at h1
  rw[sizeLine_eq];omega
 have he:∃q,h'.get? s.heap.objs.size=some q:=let ⟨q,_,_,hq,_⟩:=dd';⟨q,hq⟩
 exact MY I2 (by rw[e];exact True.intro) hs he (VG hz hd (rk.merge .nil) dd')
structure M1(X:Cx)(o:Expr)(m:Str)(apos:Pos)(e:Expr)(cpos:Pos):Prop where
 base:attributeBase o m X.env (eval o X.env)=eval o X.env
 few:((backTo cpos (starEach [e] X.env)).all (λx=>!x.1)&&(backToKw cpos (keywordEach [] X.env)).all (λx=>x.1.isSome)
   && decide (([e]:List Expr).length+([]:List Keyword).length+(if ([]:List Keyword).isEmpty then 0 else 1) < 30))=true
 line:(apos.endLine==cpos.line)=true
 trees:backTo cpos (starEach [e] X.env)=[(false,eval e X.env)]
structure M2(X:Cx)(o:Expr)(m:Str)(apos:Pos)(e f:Expr)(cpos:Pos):Prop where
 base:attributeBase o m X.env (eval o X.env)=eval o X.env
 few:((backTo cpos (starEach [e,f] X.env)).all (λx=>!x.1)&&(backToKw cpos (keywordEach [] X.env)).all (λx=>x.1.isSome)
   && decide (([e,f]:List Expr).length+([]:List Keyword).length+(if ([]:List Keyword).isEmpty then 0 else 1) < 30))=true
 line:(apos.endLine==cpos.line)=true
 trees:backTo cpos (starEach [e,f] X.env)=[(false,eval e X.env),(false,eval f X.env)]
noncomputable def FN(H:Hp)(a:Addr):Prop:=(∃kvs,Rd H a (.dK kvs))\/∃kvs,Rd H a (.dT kvs)
theorem Hj{X:Cx}{pins:List (Addr×Obj)}{σ:St}{H:Hp}{s:Shared}{a:Addr}(I:Inv X pins σ H s)(d:FN H a) :
  s.TypeIs (.ref a) "dict"/\(∀b,U1 a=.ref b->∃ob,s.heap.get? b=some ob/\ob.dict=none)/\(a==sysModules)=false:=by
 rcases d with⟨kvs,e⟩|⟨kvs,e⟩
 ·obtain⟨_,hd,vs,_,dd⟩:=oH I.hok e
  refine ⟨dd.typeIs,λb q=>?_,hd⟩
  cases q
  obtain⟨ob,_,_,h1,h2,_⟩:=dd
  exact ⟨ob,h1,h2.2.1⟩
 ·obtain⟨_,hd,xs,_,dd⟩:=pH I.hok e
  refine ⟨dd.typeIs,λb q=>?_,hd⟩
  cases q
  obtain⟨ob,_,_,h1,h2,_⟩:=dd
  exact ⟨ob,h1,h2.2.1⟩
section
variable {X:Cx}{pins:List (Addr×Obj)}{σ:St}{H:Hp}{s:Shared}{a:Addr}{y d:V}{u r:Value}{o:Option V}{A:Around}{E:Value->Shared->Prop}
theorem VB{Q:Value->Shared->Prop}(hu:A.units+1 < cLine)(I:Inv X pins σ H s)(g:UG H a y o)(ry:RelV y u)(rd:RelV d r)(h:∀w' s',Inv X pins σ H s'->RelV (o.getD d) w'->Q w' s') :
  wpAny (model X.prog X.w) A (call (.builtin "dict.get") [.ref a,u,r]) Q E s:=by
 rcases g with⟨kvs,k,e,ey,l⟩|⟨kvs,k,b,e,ey,eb,l⟩
 ·subst ey
  obtain⟨z,hd,vs,rel,dd⟩:=oH I.hok e
  refine call_meetsIn PySem.F.slot_dict_get dd.typeIs PySem.F.entry_dict_get (PySem.F.args_dict_get_3 _ _ _) (meets_dict_get_default (TQ X.prog X.w) a (HV ry) hd r) ⟨_,dd.mapOf,h _ _ (I.tok _) ?_⟩
  rw[l]
  exact (rel.val k).getD rd
 ·subst ey
  cases (show u=U1 b from ry)
  obtain⟨z,hd,xs,rel,dd⟩:=pH I.hok e
  refine call_meetsIn PySem.F.slot_dict_get dd.typeIs PySem.F.entry_dict_get (PySem.F.args_dict_get_3 _ _ _) (meetsH_dict_get_default (tupleKind (TQ X.prog X.w)) a b hd r) ⟨tupleKind_room_in1 hu,k,xs,pU I.hok eb,dd,h _ _ (I.tok _) ?_⟩
  rw[l]
  exact (rel.val k).getD rd
end
noncomputable def Ij(td ty tx:TE):TE:=λσ H Q=>td σ H λx H1=>∃a,x=.ref a/\FN H1 a/\ty σ H1 λy H2=>tx σ H2 λz H3=>∃o,UG H3 a y o/\Q (o.getD z) H3
section
variable {X:Cx}{o e f:Expr}{apos cpos:Pos}{td ty tx:TE}
theorem Jj(hu:X.A.units+1 < cLine)(ho:PE X o td)(he:PE X e ty)(hf:PE X f tx)(m:M2 X o "get" apos e f cpos):PE X (.Call (.Attribute o "get" apos) [e,f] [] cpos) (Ij td ty tx):=by
 intro pins s σ H Q I h
 refine wpAny_Call_method m.base m.few m.line PySem.F.plainAttrs_dict PySem.F.slot_dict_get PySem.F.type_dict_get (gX (ho pins s σ H _ I h) λu s1 ⟨x,H1,I1,rx,a,ex,d,q1⟩=>?_)
 subst ex
 obtain rfl:u=U1 a:=rx
 obtain⟨t1,t2,_⟩:=Hj I1 d
 refine ⟨t1,t2,?_⟩
 rw[m.trees]
 refine Calls.callWith_builtin rfl (Calls.evalArgs_plain (Calls.spliced_cons (gX (he pins s1 σ H1 _ I1 q1) λiv s2 ⟨y,H2,I2,ry,q2⟩ =>
   Calls.spliced_cons (gX (hf pins s2 σ H2 _ I2 q2) λfv s3 ⟨z,H3,I3,rz,ov,g,q3⟩=>Calls.spliced_nil ?_))))
 exact VB hu I3 g ry rz λw' s4 I4 rw'=>⟨_,H3,I4,rw',q3⟩
end
section
variable {X:Cx}{pins:List (Addr×Obj)}{σ:St}{H:Hp}{s:Shared}{a:Addr}{kvs:List (GQ×V)}{A:Around}{E:Value->Shared->Prop}
end
section
variable {X:Cx}{pins:List (Addr×Obj)}{σ:St}{H:Hp}{s:Shared}{a:Addr}{y:V}{u:Value}{A:Around}{E:Value->Shared->Prop}
end
end L2
namespace Att
open PySem PySem.W PySem.Calls PyProof.Rows
theorem BY{P:Params}{h:Heap}:∀(ns:List Int) (vs:List Value),WellAll P h vs (ns.map WData.int)->IntsAre vs ns:=by
 intro ns
 induction ns with
 | nil =>
  intro vs w
  rw[q5]at w
  cases w
  exact .nil
 | cons n ns ih =>
  intro vs w
  rw[Z0]at w
  cases w with
  | cons a b =>
   cases a
   exact .cons _ _ (ih _ b)
theorem Wq{l:OpenLaw}{n:Nat}(hn:l.most=some n){P:Params}{h:Heap}{args:List WData}{vals:List Value}
  (hpre:l.row.toRowW.claim.pre args=true) (hwl:WellAll P h vals args) :
  ∃a vs ns,vals=[U1 a]/\args=[WData.list (ns.map WData.int)]/\h.get? a=some { cls:=.type "list",data:=.seq vs.toArray }/\IntsAre vs ns/\ns.length<=n:=by
 have hsh:WShape.hasAll [] args [.list .int]=true:=(pre_splitW hpre).1
 have hc:l.pre.holds [] { args:=args }=true:=(pre_splitW hpre).2
 obtain⟨d,r,rfl,h1,h2⟩:=hasAllW_cons hsh
 obtain rfl:=hasAllW_nil h2
 obtain⟨xs,rfl,h3⟩:=hasW_list h1
 obtain⟨ns,rfl⟩:=items_int h3
 have hlen:ns.length<=n:=by
  unfold OpenLaw.pre at hc
  have h4:(WTm.not (.lt (.lit (.int (n:Int))) (.len (.arg 0)))).holds [] { args:=[.list (ns.map .int)] }=true:=by
   have h4:=(holds_andW hc).1
   rw[hn]at h4
   exact h4
  have h5:=condW_of h4 (w_not (w_lt w_lit (w_len_list (w_arg rfl))))
  rw[i0]at h5
  refine r8 λq=>?_
  have q':(n:Int) < ((ns.length:Nat):Int):=by omega
  first
   | (rw[decide_eq_true q']at h5;exact absurd h5 (by decide))
   | (simp at h5;omega)
 cases hwl with
 | cons w1 w2 =>
  cases w2
  cases w1 with
  | list ho hall=>exact ⟨_,_,ns,rfl,rfl,ho,BY ns _ hall,hlen⟩
theorem Xq(l:OpenLaw)(args:List WData):l.row.toRowW.claim.post args (.bool true) args=true :=
 postW_of (r:=l.row.toRowW) (X:=(true==true))
  (show WShape.has [] (.bool true) .bool=true by first|rfl|decide|simp[WShape.has,WShape.arms,WShape.armsAll])
  (show (WTm.eq .res (.lit (.bool true))).value [] { args:=args,res:=some (.bool true),after:=args }=some (.bool (true==true)) from w_eq_bool (w_res rfl) w_lit) rfl
theorem attach_call{l:OpenLaw}{n:Nat}{q:Program}{loose:List Str}{XP:(Str->Option Value)->Heap->Prop}{YP:World->Heap->Prop}{d:DefRec}
  (hn:l.most=some n) (hdf:d.params.defaults=[])
  (call:∀(w:World) (s₀ s₁:Shared) (mg mb:Str->Option Value) (fa:Addr) (o:Obj) (pm cd doc:Value) (a:Addr) (vs:List Value) (ns:List Int),
    Ground q loose [] XP w s₀ mg mb s₁.heap->YP w s₁.heap ->
    s₁.heap.get? fa=some o->o.data=.func (docDef d.name d.params d.body d.scope pm cd doc)->s₁.heap.CodeRec cd d.name->mg d.name=some (.ref fa) ->
    s₁.heap.get? a=some { cls:=.type "list",data:=.seq vs.toArray }->IntsAre vs ns->ns.length<=n->s₁.gens=#[] ->
    codeAny (model l.prog w) callerA (.call (.ref fa) ⟨[.ref a],[]⟩) (λr s'=>r=.ok (.ret (.bool true))/\OldK s₁.heap s'.heap/\s'.os=s₁.os/\AllBare s'.gens) s₁) :
  WalkO q loose XP YP l.row.toRowW d [] (λf vs=>PySem.call f vs):=by
 intro w s₀ s₁ mg mb G Y fa o pm cd doc dV kV ho hd hcd hD hmg hg args vals as hpre hlay hrd hwl hlo
 obtain rfl:dV=.none:=Dflts.none hD hdf
 obtain rfl:kV=.none:=Dflts.noKw hD
 obtain⟨a,vs,ns,rfl,rfl,hobj,hints,hlen⟩:=Wq hn hpre hwl
 refine enter_call (codeAny_mono (call w s₀ s₁ mg mb fa o pm cd doc a vs ns G Y ho (fd_plain hd) hcd hmg hobj hints hlen hg) λr s' hq=>?_)
 obtain⟨rfl,h2,h3,h4⟩:=hq
 exact ⟨.inl ⟨.bool true,.bool true,[],rfl,λ_=>rfl,.bool true,Xq l _,λ_=>⟨List.Pairwise.nil,λ_ hm=>(nomatch hm)⟩⟩,h2,h3,h4⟩
section
variable {prog:Program}{w:World}{A:Around}{E:Value->Shared->Prop}{s:Shared}{K:Frag}
end
end Att
namespace L2
open PySem PySem.Spec PyProof.Rows
theorem JV:∀{vs:List Value}{ns:List Int},IntsAre vs ns->Vals (ns.map V.int) vs
 | _,_,.nil=>.nil
 | _,_,.cons n t h=>.cons ⟨t,rfl⟩ (JV h)
noncomputable def WB(H:Hp):Prop:=∀b,H b=none\/∃o xs,H b=some (.frz o (.lst xs))
theorem Kj{P:Program}{w:World}{K:q0}{mg mb:Str->Option Value}{CX:yj}{k:Nat}{fa a:Addr}{fd:FuncData}{x:Str}{sp:Sp}{s₁:Shared}{vs:List Value}{ns:List Int}
  (KX:K.In s₁.heap) (hns:s₁.heap.Ns mainGlobals mg) (hb:s₁.heap.Ns builtinsNs mb) (hbb:∀x:Str,x ≠ "__name__"->mb x=bootBuiltins x) (hlim:s₁.heap.NoLimit) (hg:s₁.gens=#[])
  (ha:s₁.heap.get? a=some { cls:=.type "list",data:=.seq vs.toArray }) (hi:IntsAre vs ns) (hl:ns.length<=sizeLine) (hr:Room k callerA)
  (F:∀base:Heap,K.In base->base.Ns mainGlobals mg->FnOk P w K mg base CX k fa fd [x] sp) (hbind:∀(s:Shared) (u:Value),BindsTo s fd ⟨[u],[]⟩ [(x,u)])
  (hsp:∀H:Hp,WB H->SqL K H a (ns.map V.int)->sp [.ref a] H (λv _=>v=.bl true) λ_ _ _=>False)
  (hCX:∀H e s',CX [] H s₁ (λ_ _ _=>False) e s'->False) :
  codeAny (model P w) callerA (.call (.ref fa) ⟨[.ref a],[]⟩) (λr s'=>r=.ok (.ret (.bool true))/\OldK s₁.heap s'.heap/\s'.os=s₁.os/\AllBare s'.gens) s₁:=by
 have rv:=JV hi
 have lenV:=hi.length
 have core:∀H:Hp,WB H->SqL K H a (ns.map V.int)->HOk P w H s₁.heap->(∀b,H b≠none->b=a)->(H a≠none->K.lookup a=none) ->
   codeAny (model P w) callerA (.call (.ref fa) ⟨[.ref a],[]⟩) (λr s'=>r=.ok (.ret (.bool true))/\OldK s₁.heap s'.heap/\s'.os=s₁.os/\AllBare s'.gens) s₁:=by
  intro H hO hS hok hA hK
  have base_of:∀{b:Addr}{o:Obj},s₁.heap.get? b=some o->H b=none->(hU s₁.heap H).get? b=some o:=λe n=>fj e n
  have noA:∀{b:Addr}{o:Obj}{es:Array DictEntry}{ep:Nat},s₁.heap.get? b=some o->o.data=.dict es ep->H b=none:=λ{b o es ep} e d=>by
   cases q:H b with
   | none=>rfl
   | some u =>
    have e':b=a:=hA b (by rw[q];simp)
    subst e'
    rw[ha]at e;cases e
    have d':Data.seq vs.toArray _=Data.dict es ep:=d
    cases d'
  have nsK:∀{b:Addr}{m:Str->Option Value},s₁.heap.Ns b m->(hU s₁.heap H).Ns b m:=λ{b m} ⟨o,es,ep,e,d,r⟩=>⟨o,es,ep,base_of e (noA e d),d,r⟩
  have hKb:K.In (hU s₁.heap H):=λb o e=>base_of (KX b o e) (by
    cases q:H b with
    | none=>rfl
    | some u =>
      have e':b=a:=hA b (by rw[q];simp)
      subst e'
      rw[hK (by rw[q];simp)]at e;cases e)
  have hM:Mod K mg (hU s₁.heap H):=⟨hKb,nsK hns,⟨mb,nsK hb,hbb⟩,let ⟨mc,h1,h2⟩:=hlim;⟨mc,nsK h1,h2⟩⟩
  have e0:Env0 P w K mg (hU s₁.heap H) callerA [] s₁ H:=⟨rfl,hM,λb o e=>Xw e,Nat.le_of_eq (Iq _ _),trivial,λb hb=>absurd (show b∈([]:List Addr) from hb) (by simp),hok,.of_eq hg⟩
  refine codeAny_mono ((F _ hKb (nsK hns)).run callerA [] s₁ H ⟨[.ref a],[]⟩ [.ref a] [.ref a] _ _ hr e0 (hbind s₁ (.ref a)) (.cons rfl .nil) (hsp H hO hS)) λr s' h=>?_
  cases r with
  | error e=>exact (hCX H e s' h).elim
  | ok fl =>
   cases fl with
   | next=>exact False.elim h
   | brk=>exact False.elim h
   | cont=>exact False.elim h
   | ret u =>
    obtain⟨v,H',os,bare,un,hok',r',q⟩:=h
    have q':v=.bl true:=q
    subst q'
    obtain rfl:u=O9 true:=r'
    refine ⟨rfl,OldK.of_keep λb o e=>?_,os,bare⟩
    cases q:H b with
    | none=>exact un.keep b o e q (by intro z;exact absurd (show b∈([]:List Addr) from z) (by simp)) (by simp)
    | some u =>
     rcases hO b with z|⟨ob,xs,z⟩
     ·rw[q]at z;cases z
     ·have z2:=un.frzs b ob _ z
      obtain⟨e1,_⟩:=hok b _ z
      obtain⟨e2,_⟩:=hok' b _ z2
      rw[e]at e1;cases e1
      exact e2
 cases hk:K.lookup a with
 | some o =>
  have e:=KX a o hk
  rw[ha]at e
  cases e
  refine core (λ_=>none) (λ_=>.inl rfl) (.inr ⟨_,vs.toArray,_,hk,rfl,rfl,rfl,by rw[Q0,lenV];exact hl,by simpa using rv⟩) (λb u z=>by have z':(none:Option HO)=some u:=z;cases z') (λb z=>absurd rfl z) λz=>absurd rfl z
 | none =>
  refine core (λb=>if b=a then some (.frz { cls:=.type "list",data:=.seq vs.toArray } (.lst (ns.map V.int))) else none) (λb=>?_) (.inl (.inr ⟨{ cls:=.type "list",data:=.seq vs.toArray },if_pos rfl⟩)) (λb u z=>?_) (λb z=>?_) λ_=>hk
  ·by_cases hb:b=a
   ·exact .inr ⟨_,_,if_pos hb⟩
   ·exact .inl (if_neg hb)
  ·by_cases hb:b=a
   ·have z':=(if_pos hb).symm.trans z
    cases z'
    subst hb
    exact ⟨ha,by rw[i0];exact hl,vs,_,rv,ha⟩
   ·have z':=(if_neg hb).symm.trans z
    cases z'
  ·by_cases hb:b=a
   ·exact hb
   ·exact absurd (if_neg hb) z
theorem walk_of{l:L8}{n k:Nat}{q:Program}{loose:List Str}{XP:(Str->Option Value)->Heap->Prop}{YP:World->Heap->Prop}{d:DefRec}{K:Params->q0}{CX:World->yj}{sp:World->Sp}{x:Str}
  (hn:l.most=some n) (hn2:n<=sizeLine) (hdf:d.params.defaults=[]) (hr:Room k callerA)
  (hY:∀(w:World) (h:Heap),YP w h->(K w.params).In h)
  (F:∀(w:World) (mg:Str->Option Value) (fa:Addr) (h:Heap),(K w.params).In h->h.Ns mainGlobals mg->mg d.name=some (.ref fa) ->
    ∃fd:FuncData,(∀(s:Shared) (u:Value),BindsTo s fd ⟨[u],[]⟩ [(x,u)]) /\
      ∀base:Heap,(K w.params).In base->base.Ns mainGlobals mg->FnOk l.prog w (K w.params) mg base (CX w) k fa fd [x] (sp w))
  (hsp:∀(w:World) (H:Hp) (a:Addr) (ns:List Int),ns.length<=n->WB H->SqL (K w.params) H a (ns.map V.int)->sp w [.ref a] H (λv _=>v=.bl true) λ_ _ _=>False)
  (hCX:∀(w:World) (H:Hp) (s:Shared) (e:Value) (s':Shared),CX w [] H s (λ_ _ _=>False) e s'->False) :
  PySem.W.WalkO q loose XP YP l.row.toRowW d [] (λf vs=>PySem.call f vs):=by
 refine Att.attach_call hn hdf λw s₀ s₁ mg mb fa o pm cd doc a vs ns G Y ho hd hcd hmg hobj hints hlen hg=>?_
 have KX:=hY w _ Y
 obtain⟨fd,hb,hF⟩:=F w mg fa _ KX G.T.g hmg
 exact Kj KX G.T.g G.T.b G.T.builtins G.T.nolimit hg hobj hints (A1 hlen hn2) hr hF hb (λH hO hS=>hsp w H a ns hlen hO hS) λH e s'=>hCX w H s₁ e s'
noncomputable def PZ(s:Stmt):Arguments:=match s with
 | .FunctionDef _ a _ _ _ _ _ _ _ _=>a
 | _=>{ posonlyargs:=[],args:=[],vararg:=none,kwonlyargs:=[],kw_defaults:=[],kwarg:=none,defaults:=[] }
noncomputable def YX(s:Stmt):List Stmt:=match s with
 | .FunctionDef _ _ b _ _ _ _ _ _ _=>b
 | _=>[]
noncomputable def fQ(s:Stmt):Scope:=match s with
 | .FunctionDef _ _ _ _ _ _ sc _ _ _=>sc
 | _=>{ kind:=.function,names:=[],isGenerator:=false,isCoroutine:=false }
noncomputable abbrev fZ:yj:=λ_ _ _ _ _ _=>False
noncomputable abbrev E0:XK:=λ_ _ _=>False
theorem SI{X:Cx}:MG fZ X E0:=λ_ _ _ _ _ _ _ h=>h.elim
structure Fun(K:q0)(x qual:Str)(st:Stmt)(f:Addr)(fd:FuncData):Prop where
 ex:∃(oc:Value) (od:Option Addr) (kV doc pm:Value) (an:Option Addr) (cdv ct:Value) (osl:Array (Option Value)),
  fd=Q5 x qual (PZ st) (YX st) (fQ st) .none kV doc pm an cdv ct/\K.lookup f=some ⟨oc,od,.func fd,osl⟩/\T7 K cdv qual=true
 kp:A5 K (.ref f)=true
section
variable {P:Program}{w:World}{K:q0}{mg:Str->Option Value}{base:Heap}
theorem Fun.ok{x qual:Str}{st:Stmt}{f:Addr}{fd:FuncData}{N ps:List Str}{k:Nat}{sp:Sp}(F:Fun K x qual st f fd)(S:FnScope N ps (fQ st))(len:∀vs H Q E,sp vs H Q E->vs.length=ps.length)
  (hbody:∀(cdv:Value) (A:Around) (outer:List Env) (s:Shared) (H:Hp) (vs:List V) (Q:VK) (E:XK),Room k (A.deeper (envOfC qual (fQ st) s.heap.objs.size f cdv))->sp vs H Q E ->
    ∃t,PSs (jH fZ P w K mg base N qual (fQ st) f cdv A outer s H E).nox (YX st) t/\t { nx:=λ_ H'=>Q .non H',rt:=Q } (start N vs) H):FnOk P w K mg base fZ (k+1) f fd ps sp:=by
 obtain⟨oc,od,kV,doc,pm,an,cdv,ct,osl,rfl,lk,hcd⟩:=F.ex
 refine KI lk hcd S len λA outer s H vs Q E hr hsp=>?_
 obtain⟨t,h,q⟩:=hbody cdv A outer s H vs Q E hr hsp
 exact ⟨t,h.nox,q⟩
theorem Fun.binds{x qual:Str}{st:Stmt}{f:Addr}{fd:FuncData}{ps:List Str}(F:Fun K x qual st f fd)
  (h:∀(kV doc pm:Value) (an:Option Addr) (cdv ct:Value) (us:List Value),us.length=ps.length->bindArgs (Q5 x qual (PZ st) (YX st) (fQ st) .none kV doc pm an cdv ct) ⟨us,[]⟩=pure (ps.zip us)):Binds K fd ps []:=by
 obtain⟨oc,od,kV,doc,pm,an,cdv,ct,osl,rfl,lk,hcd⟩:=F.ex
 exact .all (h kV doc pm an cdv ct)
theorem XB{x qual:Str}{st:Stmt}{f:Addr}{oc:Value}{od an:Option Addr}{osl:Array (Option Value)}{kV doc pm cdv ct:Value}(l:K.lookup f=some ⟨oc,od,.func (Q5 x qual (PZ st) (YX st) (fQ st) .none kV doc pm an cdv ct),osl⟩)
  (c:T7 K cdv qual=true) (k:A5 K (.ref f)=true):Fun K x qual st f (Q5 x qual (PZ st) (YX st) (fQ st) .none kV doc pm an cdv ct):=⟨⟨oc,od,kV,doc,pm,an,cdv,ct,osl,rfl,l,c⟩,k⟩
end
theorem nK{A:Around}{k:Nat}(hr:Room k A):A.units+1 < cLine:=o4 (g9 (by decide:1<=64) _) hr.units
section
variable {X:Cx}
theorem pv(i:Nat){x:Str}{pos:Pos}(hN:X.N[i]?=some x:=by rfl)(hv:qI X.env.scope x:=by first|exact Or.inl rfl|exact Or.inr (Or.inl rfl)|exact Or.inr (Or.inr rfl))(hd:(x==("__debug__":Str))=false:=by decide)
  (hcd:(x==("__classdict__":Str))=false:=by decide):PE X (.Name x pos) (qZ i):=HG hN hv hd hcd
end
theorem TX{c A B:Prop}[Decidable c](h1:c->A)(h2:¬c->B):if c then A else B:=by
 by_cases h:c
 ·rw[if_pos h]
  exact h1 h
 ·rw[if_neg h]
  exact h2 h
section
variable {κ:Type}[DecidableEq κ]
end
noncomputable def QZ(cells:List (Str×Addr)):List (Str×NameKind)->List (Str×Addr)->List (Str×Addr)
 | [],acc=>acc
 | (n,k) :: r,acc=>QZ cells r (if k==.free then (n,(cells.lookup n).getD 0) :: acc else acc)
theorem jW{env:Env}{sc:Scope}(h:∀y∈sc.names,y.2=.free->∃c,env.cells.lookup y.1=some c):closureFor sc env=pure (QZ env.cells sc.names []):=by
 have go:∀(l:List (Str×NameKind)) (acc:List (Str×Addr)),(∀y∈l,y.2=.free->∃c,env.cells.lookup y.1=some c) ->
   (forIn l acc λ(x:Str×NameKind) r=>(if (x.2==NameKind.free)=true then (do let a<-cellOf env x.1;pure (ForInStep.yield ((x.1,a) :: r))) else pure (ForInStep.yield r):Sem (ForInStep (List (Str×Addr)))))=pure (QZ env.cells l acc):=by
  intro l
  induction l with
  | nil=>intro acc _;rfl
  | cons y r ih =>
   intro acc hl
   obtain⟨n,k⟩:=y
   rw[O5]
   by_cases hk:(k==NameKind.free)=true
   ·obtain⟨c,hc⟩:=hl (n,k) A0 (by simpa using hk)
    have hc:env.cells.lookup n=some c:=hc
    simp only[hk,if_true,cellOf,hc,pure_bind,QZ,T3]
    exact ih _ λy hy=>hl y (u0 _ hy)
   ·simp only[hk,if_false,pure_bind,QZ]
    exact ih _ λy hy=>hl y (u0 _ hy)
 have e:=go sc.names [] h
 unfold closureFor
 show (forIn sc.names [] _ >>= λcs=>pure cs)=_
 rw[show (forIn sc.names ([]:List (Str×Addr)) λ(x:Str×NameKind) r=>(match x with|(name,kind)=>if (kind==NameKind.free)=true then (do let a<-cellOf env name;pure (ForInStep.yield ((name,a) :: r))) else pure (ForInStep.yield r):Sem (ForInStep (List (Str×Addr)))))=pure (QZ env.cells sc.names []) from e]
 rfl
theorem gJ{cells:List (Str×Addr)}{x:Str}{c:Addr}:∀{l:List (Str×NameKind)}{acc:List (Str×Addr)},(∀y∈l,y.2=.free->∃c,cells.lookup y.1=some c)->(QZ cells l acc).lookup x=some c ->
  acc.lookup x=some c\/cells.lookup x=some c
 | [],acc,_,h=>.inl h
 | (n,k) :: r,acc,hl,h=>by
  have ih:=gJ (l:=r) (λy hy=>hl y (u0 _ hy)) h
  rcases ih with ih|ih
  ·by_cases hk:(k==NameKind.free)=true
   ·rw[if_pos hk,U3]at ih
    obtain⟨c',hc⟩:=hl (n,k) A0 (by simpa using hk)
    have hc:cells.lookup n=some c':=hc
    cases e:x==n with
    | true =>
     rw[e]at ih
     have:x=n:=by simpa using e
     subst this
     simp only[hc,T3,Option.some.injEq]at ih
     subst ih
     exact .inr hc
    | false=>rw[e]at ih;exact .inl ih
   ·rw[if_neg hk]at ih;exact .inl ih
  ·exact .inr ih
theorem kW{cells:List (Str×Addr)}{x:Str}:∀{l:List (Str×NameKind)}{acc:List (Str×Addr)},((∃c,acc.lookup x=some c)\/l.lookup x=some .free)->∃c,(QZ cells l acc).lookup x=some c
 | [],acc,h=>by
  rcases h with h|h
  ·exact h
  ·simp at h
 | (n,k) :: r,acc,h=>by
  refine kW (l:=r) ?_
  rcases h with⟨c,h⟩|h
  ·left
   by_cases hk:(k==NameKind.free)=true
   ·rw[if_pos hk,U3]
    cases x==n with
    | true=>exact ⟨_,rfl⟩
    | false=>exact ⟨c,h⟩
   ·rw[if_neg hk];exact ⟨c,h⟩
  ·rw[U3]at h
   cases e:x==n with
   | true =>
    rw[e]at h
    have hk:k=.free:=S1 h
    left
    subst hk
    rw[if_pos (by decide),U3,e]
    exact ⟨_,rfl⟩
   | false=>rw[e]at h;exact .inr h
theorem iJ{env:Env}{x:Str}:∀{names:List (Str×NameKind)},
  (names.map λ(n,k)=>if (k==NameKind.free&&env.scope.kind==.function&&env.kindOf n==some .cell) then (n,NameKind.cell) else (n,k)).lookup x =
   (names.lookup x).map λk=>if (k==NameKind.free&&env.scope.kind==.function&&env.kindOf x==some .cell) then .cell else k
 | []=>rfl
 | (n,k) :: r=>by
  have ih:=@iJ env x r
  rw[Z0]
  show Y7 x ((if (k==NameKind.free&&env.scope.kind==.function&&env.kindOf n==some .cell)=true then (n,NameKind.cell) else (n,k)) :: _)=_
  cases hx:x==n with
  | true =>
   have e:x=n:=by simpa using hx
   subst e
   by_cases hc:(k==NameKind.free&&env.scope.kind==.function&&env.kindOf x==some .cell)=true
   ·rw[if_pos hc];simp only[U3,hx,P5];rw[if_pos hc]
   ·rw[if_neg hc];simp only[U3,hx,P5];rw[if_neg hc]
  | false =>
   by_cases hc:(k==NameKind.free&&env.scope.kind==.function&&env.kindOf n==some .cell)=true
   ·rw[if_pos hc];simp only[U3,hx];exact ih
   ·rw[if_neg hc];simp only[U3,hx];exact ih
theorem jJ(sc:Scope)(env:Env)(x:Str):(relabel sc env).names.lookup x=(sc.names.lookup x).map λk=>if (k==NameKind.free&&env.scope.kind==.function&&env.kindOf x==some .cell) then .cell else k:=iJ
theorem RZ:∀(names:List (Str×NameKind)) (n:Nat) (acc:List (Str×Addr)),cellsFrom n names acc=cellsFrom n names []++acc
 | [],_,_=>rfl
 | (x,k) :: r,n,acc=>by
  unfold cellsFrom
  split
  ·rw[RZ r (n+1) ((x,n) :: acc),RZ r (n+1) [(x,n)],Q2];rfl
  ·exact RZ r n acc
theorem lW{x:Str}{c:Addr}:∀(names:List (Str×NameKind)) (n:Nat),(x,c)∈cellsFrom n names []->(x,NameKind.cell)∈names/\n<=c
 | [],_,h=>by cases h
 | (y,k) :: r,n,h=>by
  unfold cellsFrom at h
  split at h
  ·rename_i hk
   have hk:k=.cell:=by simpa using hk
   rw[RZ,O2]at h
   rcases h with h|h
   ·have:=lW r (n+1) h
    exact ⟨u0 _ this.1,by omega⟩
   ·have h:(x,c)=(y,n):=by simpa using h
    cases h
    subst hk
    exact ⟨A0,G0 _⟩
  ·have:=lW r n h
   exact ⟨u0 _ this.1,this.2⟩
theorem UX{α:Type}{x:Str}:∀{l m:List (Str×α)},(l++m).lookup x=(l.lookup x).or (m.lookup x)
 | [],_=>rfl
 | (y,v) :: l,m=>by
  rw[List.cons_append,U3,U3]
  cases x==y with
  | true=>rfl
  | false=>exact UX
theorem UK{M:Model}{A:Around}{E:Value->Shared->Prop}{s:Shared}{scope:Scope}{globals:Addr}{closure:List (Str×Addr)}{qual:Str}{env:Env}{Q:Env->Shared->Prop}
  (hQ:Q (newEnv scope s.heap.objs.size globals (cellsFrom (s.heap.objs.size+1) scope.names closure) qual none .none (some env) builtinsNs) { s with heap:=pushCells (s.heap.push { cls:=.type "dict",data:=.dict #[] }) scope.names }) :
  wpAny M A (newFunctionEnv scope globals closure [] qual none .none (some env)) Q E s:=by
 simp only[newFunctionEnv,u9,if_true]
 refine wpAny_bind (wpAny_alloc ?_)
 refine wpAny_bind (wpAny_layCells _ (λname kind cells=>by cases hkc:kind==NameKind.cell<;>simp[hkc]) _ _ _ _ ?_)
 rw[show ({ s with heap:=s.heap.push { cls:=.type "dict",data:=.dict #[] } }:Shared).heap.objs.size=s.heap.objs.size+1 from W1 ..]
 refine wpAny_bind ?_
 rw[j6]
 exact wpAny_pure (wpAny_pure hQ)
noncomputable def UI(N:List Str)(fr:List Nat):List Str:=fr.map λi=>N.getD i Str.empty
noncomputable def tI(σ:St)(fr:List Nat):St:=fr.map λi=>(σ[i]?).getD none
noncomputable def BQ(X:Cx)(own:List Str)(fr:List Nat)(sc:Scope)(C:Addr)(s:Shared)(H:Hp)(ex:List Addr):Cx where
 prog:=X.prog
 w:=X.w
 K:=X.K
 mg:=X.mg
 base:=X.base
 A:=X.A
 N:=own++UI X.N fr
 s₀:=s
 H₀:=H
 env:=compEnvC sc (cellsFrom (C+1) sc.names (QZ X.env.cells sc.names [])) C X.env
 outer:=X.stack
 stack:=X.stack
 ex:=ex
 fn:=λx=>sc.names.lookup x==some .cell
 calm:=X.calm
 pn:=[]
 xe:=λ_ _=>False
noncomputable def YB(own:List Str)(σ:St)(fr:List Nat):St:=own.map (λ_=>none)++tI σ fr
structure CompSc(X:Cx)(own:List Str)(fr:List Nat)(sc:Scope):Prop where
 kind:sc.kind=.function
 cells:∀y∈sc.names,y.2=.cell->sc.names.lookup y.1=some .cell
 loc:∀y∈sc.names,y.2=.local->sc.names.lookup y.1=some .local
 free:∀y∈sc.names,y.2=.free->X.env.kindOf y.1=some .cell\/X.env.kindOf y.1=some .free
 fr:∀i∈fr,∃x,X.N[i]?=some x/\sc.names.lookup x=some .free
theorem XG{X:Cx}{own:List Str}{fr:List Nat}{sc:Scope}{pins:List (Addr×Obj)}{σ:St}{H:Hp}{s:Shared}{fp:List Addr}{C D:Addr}{h1:Heap}{tk:Nat}{oD:Obj}
  (S:CompSc X own fr sc) (I:Inv X pins σ H s) (hf:∀b∈fp,zY X pins H b) (hfo:∀b∈fp,∃o,s.heap.get? b=some o) (hC:s.heap.objs.size<=C) (hD:s.heap.objs.size<=D) (hDC:D≠C) (hn:h1.Ns C λx=>([]:List (Str×Value)).reverse.lookup x)
  (hk:∀b o,s.heap.get? b=some o->h1.get? b=some o) (hcl:∀x c,(x,c)∈cellsFrom (C+1) sc.names []->h1.IsCell c none) (hap:(cellsFrom (C+1) sc.names []).Pairwise λx y=>x.2≠y.2) (hoD:h1.get? D=some oD) (hdD:∀v,oD.data≠.cell v) :
  Inv (BQ X own fr sc C s H fp) [(D,oD)] (YB own σ fr) H { s with heap:=h1,toks:=tk }:=by
 have hfree:∀y∈sc.names,y.2=.free->∃c,X.env.cells.lookup y.1=some c:=λy hy e=>I.ok.has y.1 (S.free y hy e)
 have cl1:∀x c,(QZ X.env.cells sc.names []).lookup x=some c->X.env.cells.lookup x=some c:=λx c e=>by
  rcases gJ hfree e with z|z
  ·simp at z
  ·exact z
 have cl2:∀x c,(cellsFrom (C+1) sc.names (QZ X.env.cells sc.names [])).lookup x=some c->(x,c)∈cellsFrom (C+1) sc.names []\/X.env.cells.lookup x=some c:=λx c e=>by
  rw[RZ,UX]at e
  cases q:(cellsFrom (C+1) sc.names []).lookup x with
  | none=>rw[q]at e;exact .inr (cl1 x c e)
  | some c'=>rw[q]at e;cases e;exact .inl (PySem.mem_of_lookup q)
 have new:∀x c,(x,c)∈cellsFrom (C+1) sc.names []->C+1<=c:=λx c h=>(lW _ _ h).2
 have oldc:∀x c,X.env.cells.lookup x=some c->c < s.heap.objs.size:=λx c e=>by
  obtain⟨v,q⟩:=I.cell x c e
  exact q.lt
 have kin:∀x k,(relabel sc X.env).names.lookup x=some k->k=.cell\/k=.free->sc.names.lookup x=some .free\/sc.names.lookup x=some .cell:=λx k e hk=>by
  rw[jJ]at e
  cases q:sc.names.lookup x with
  | none=>rw[q]at e;cases e
  | some j =>
   rw[q,P5,Option.some.injEq]at e
   by_cases hj:j=.free
   ·rw[hj];exact .inl rfl
   ·have hne:(j==NameKind.free)=false:=by simpa using hj
    rw[hne,J6,J6,if_neg (by simp)]at e
    subst e
    rcases hk with z|z
    ·rw[z];exact .inr rfl
    ·exact absurd z hj
 have kout:∀x,sc.names.lookup x=some .free->((relabel sc X.env).names.lookup x=some .cell\/(relabel sc X.env).names.lookup x=some .free):=λx e=>by
  rw[jJ,e,P5]
  by_cases h:(NameKind.free==NameKind.free&&X.env.scope.kind==.function&&X.env.kindOf x==some .cell)=true
  ·rw[if_pos h];exact .inl rfl
  ·rw[if_neg h];exact .inr rfl
 have okc:∀b∈fp,b < s.heap.objs.size:=λb hb=>by obtain⟨o,e⟩:=hfo b hb;exact B0 e
 have fresh:∀{a:Addr},s.heap.objs.size<=a->H a=none:=λh=>I.hok.fresh h
 have ok:(BQ X own fr sc C s H fp).Ok:={
   mod:=I.ok.mod
   kind:=S.kind
   glob:=I.ok.glob
   blt:=I.ok.blt
   above:=hC
   inj:=λx y c h1 h2=>by
     have hC:s.heap.objs.size<=C:=hC
     rcases cl2 x c h1 with a|a<;>rcases cl2 y c h2 with b|b
     · exact name_of_addr hap a b
     · have:=new x c a;have:=oldc y c b;exact absurd (N0 (oldc y c b) (A1 hC (V5 (new x c a)))) (A3 _)
     · exact absurd (N0 (oldc x c a) (A1 hC (V5 (new y c b)))) (A3 _)
     · exact I.ok.inj x y c a b
   has:=λx hx=>by
     have hx:sc.names.lookup x=some .free\/sc.names.lookup x=some .cell:=by
       rcases hx with hx|hx
       · exact kin x _ hx (.inl rfl)
       · exact kin x _ hx (.inr rfl)
     show ∃c,(cellsFrom (C+1) sc.names (QZ X.env.cells sc.names [])).lookup x=some c
     rw[RZ,UX]
     rcases hx with hx|hx
     · obtain⟨c,e⟩:=kW (cells:=X.env.cells) (x:=x) (l:=sc.names) (acc:=[]) (.inr hx)
       rw[e]
       cases (cellsFrom (C+1) sc.names []).lookup x with
       | none=>exact ⟨c,rfl⟩
       | some c'=>exact ⟨c',rfl⟩
     · obtain⟨c,e⟩:=lK (n:=C+1) hx
       rw[e]
       exact ⟨c,rfl⟩
   cab:=λx c h e=>by
     have h:sc.names.lookup x=some .cell:=by simpa [BQ]using h
     have e:(cellsFrom (C+1) sc.names (QZ X.env.cells sc.names [])).lookup x=some c:=e
     obtain⟨c',q⟩:=lK (n:=C+1) h
     rw[RZ,UX,q]at e
     cases e
     exact A1 hC (V5 (new x _ (PySem.mem_of_lookup q)))
   hd:=I.ok.hd
   frames:=I.ok.frames
   stk:=.inl rfl
   exf:=λb hb=>⟨R0 (N0 (okc b hb) hC),λx c e=>by
     rcases cl2 x c e with z|z
     · exact J1 (N0 (okc b hb) (A1 hC (V5 (new x c z))))
     · exact (hf b hb).2.2.2.2.1 x c z⟩
   bs:=I.bs
   bsz:=A1 I.ok.bsz I.sz
   noex:=λb o e hb=>by
     rcases (hf b hb).2.2.2.1 with z|z
     · exact I.ok.noex b o e z
     · exact absurd (N0 (B0 e) (A1 I.ok.bsz z)) (A3 _)
   exfs:=λb hb hm=>by
     rcases B2.mp (I.stkSub b hm) with z|z
     · exact (hf b hb).2.1 z
     · exact (hf b hb).2.2.1 z
   funs:=I.stack
   frf:=I.stkFree }
 refine ⟨ok,rfl,I.bare,Un.kept hk,⟨_,hn,λi x v e1 e2 e3=>?_⟩,λx c e=>?_,fresh hC,λx c e=>?_,λp hp=>?_,I.hok.kept hk,?_⟩
 ·have e1:(own++UI X.N fr)[i]?=some x:=e1
  have e2:(own.map (λ_=>(none:Option V))++tI σ fr)[i]?=some (some v):=e2
  by_cases hi:i < own.length
  ·rw[X1 (by simpa using hi),X0]at e2
   cases q:own[i]? with
   | none=>rw[q]at e2;cases e2
   | some z=>rw[q]at e2;cases e2
  ·rw[O1 (by omega)]at e1
   rw[O1 (by simpa using hi),i0]at e2
   unfold UI at e1
   unfold tI at e2
   rw[X0]at e1 e2
   cases q:fr[i - own.length]? with
   | none=>rw[q]at e1;cases e1
   | some j =>
    rw[q,P5,Option.some.injEq]at e1 e2
    obtain⟨y,hy,hyf⟩:=S.fr j (Y1 q)
    rw[B1,hy,T3]at e1
    subst e1
    have e2':σ[j]?=some (some v):=by
     cases r:σ[j]? with
     | none=>rw[r]at e2;cases e2
     | some z=>rw[r,T3]at e2;rw[e2]
    have hkf:X.env.kindOf y=some .cell\/X.env.kindOf y=some .free:=S.free (y,.free) (PySem.mem_of_lookup hyf) rfl
    obtain⟨m,hm,hl⟩:=I.loc
    have vis:qI X.env.scope y:=by
     rcases hkf with z|z
     ·exact .inr (.inl z)
     ·exact .inr (.inr z)
    obtain⟨u,r,l⟩:=hl j y v hy e2' vis
    refine ⟨u,r,?_⟩
    rcases l with⟨k,_⟩|⟨k,c,hc,z⟩
    ·rcases hkf with k'|k'<;>rw[k]at k'<;>cases k'
    ·refine .inr ⟨kout y hyf,?_⟩
     obtain⟨c',hc'⟩:∃c',(QZ X.env.cells sc.names []).lookup y=some c':=kW (.inr hyf)
     have:c'=c:=S1 ((cl1 y c' hc').symm.trans hc)
     subst this
     obtain⟨o,ho,hd⟩:=z
     refine ⟨c',?_,o,hk _ _ ho,hd⟩
     show (cellsFrom (C+1) sc.names (QZ X.env.cells sc.names [])).lookup y=some c'
     rw[RZ,UX,hc']
     cases q:(cellsFrom (C+1) sc.names []).lookup y with
     | none=>rfl
     | some c2 =>
      have:=S.cells _ (lW _ _ (PySem.mem_of_lookup q)).1 rfl
      rw[hyf]at this
      cases this
 ·rcases cl2 x c e with z|z
  ·exact ⟨_,hcl x c z⟩
  ·obtain⟨v,o,ho,hd⟩:=I.cell x c z
   exact ⟨v,o,hk _ _ ho,hd⟩
 ·rcases cl2 x c e with z|z
  ·exact fresh (A1 hC (V5 (new x c z)))
  ·exact I.freeC x c z
 ·have e:p=(D,oD):=by
   have:p∈([]:List (Addr×Obj))++[(D,oD)]:=hp
   simpa using this
  subst e
  refine ⟨hoD,fresh hD,hDC,λhm=>?_,hdD⟩
  have hm:D∈XF X.stack:=hm
  obtain⟨_,o,ho,_⟩:=I.stack.mem hm
  exact absurd (N0 (B0 ho) hD) (A3 _)
 ·show (own.map (λ_=>(none:Option V))++tI σ fr).length=(own++UI X.N fr).length
  simp[tI,UI]
theorem Lj{X:Cx}{own:List Str}{fr:List Nat}{sc:Scope}{pins:List (Addr×Obj)}{σ σ':St}{H H':Hp}{s s':Shared}{fp:List Addr}{C D:Addr}{oD:Obj}{ys:List V}{us:List Value}{n:Nat}
  (I:Inv X pins σ H s) (hf:∀b∈fp,zY X pins H b) (hC:s.heap.objs.size<=C) (hD:s.heap.objs.size<=D) (hDC:D≠C)
  (J:Inv (BQ X own fr sc C s H fp) [(D,oD)] σ' H' s') (ho:oD={ cls:=.type "list",data:=.seq us.toArray n }) (r:Vals ys us) (hz:ys.length<=sizeLine) :
  Inv X pins σ (HQ H' D (.lst ys)) s'/\(∃m,s'.heap.Ns C m)/\zY X pins (HQ H' D (.lst ys)) C:=by
 have pD:=J.pin (D,oD) (by simp[BQ])
 have hHD:H' D=none:=pD.2.1
 have u:Un (XF X.stack) fp H H' s.heap s'.heap:=J.base
 have lt:∀b o,s.heap.get? b=some o->b≠D:=λb o e=>R0 (N0 (B0 e) hD)
 have u2:Un (XF X.stack) fp H (HQ H' D (.lst ys)) s.heap s'.heap :=
  ⟨u.keep,u.slot,λb o e n hx=>by rw[cQ (lt b o e)];exact u.free b o e n hx,u.there,λb xs e=>by rw[cQ (jQ (u.tups b xs e) hHD)];exact u.tups b xs e,
    λb o x e=>by rw[cQ (jQ (u.frzs b o x e) hHD)];exact u.frzs b o x e,λb ps e=>by
      obtain⟨more,q⟩:=u.tbls b ps e
      exact ⟨more,by rw[cQ (jQ q hHD)];exact q⟩⟩
 have hok:HOk X.prog X.w (HQ H' D (.lst ys)) s'.heap:=λb o e=>by
  by_cases hb:b=D
  ·subst hb
   rw[iQ]at e
   cases e
   exact ⟨hz,us,n,r,by rw[<- ho];exact pD.1⟩
  ·rw[cQ hb]at e
   exact (J.hok b o e).stay (λ_ _ _ q=>q) (λc q=>by rw[cQ (jQ q hHD)];exact q) λc xs q=>by rw[cQ (jQ q hHD)];exact q
 refine ⟨I.call' (ch:=fp) J.os u2 hok J.bare λb hb=>?_,?_,?_⟩
 ·obtain⟨f0,f1,f2,f3,f4,f5⟩:=hf b hb
  exact ⟨f3,f1,f4,f5⟩
 ·obtain⟨m,hm,_⟩:=J.loc
  exact ⟨m,hm⟩
 ·have hfree:H' C=none:=J.free
  refine ⟨by rw[cQ (L1 hDC)];exact hfree,?_⟩
  exact (I.fpOk hC (I.hok.fresh hC)).2
theorem kJ{prog:Program}{w:World}{A:Around}{R:Result->Shared->Prop}{s:Shared}{elt target iter:Expr}{ifs:List Expr}{scope:Scope}{pos:Pos}{it acc:Value}{env:Env}(I:Nat->Shared->Prop)
  (turn:∀n s,I n s->wpAny (model prog w) A (pyNext it) (λr s₁=>match r with
    | none=>R (.ok .next) s₁
    | some v=>wpAny (model prog w) A (letOwnedTupleGo target it v) (λ_ s₁'=>wpAny (model prog w) A (assign target env v) (λ_ s₂ =>
        wpAny (model prog w) A (forIn ifs true λc r=>if r=true then do let ok<-isTrue c env (eval c env);pure (ForInStep.yield ok) else pure (ForInStep.yield r)) (λok s₃ =>
          if ok=true then wpAny (model prog w) A (eval elt env) (λx s₄ =>
            wpAny (model prog w) A (call (.builtin "list.append") [acc,x]) (λ_ s₅=>∃m,m < n/\I m s₅) (λ_ _=>False) s₄) (λ_ _=>False) s₃
          else ∃m,m < n/\I m s₃) (λ_ _=>False) s₂) (λ_ _=>False) s₁') (λ_ _=>False) s₁) (λ_ _=>False) s)
  (n:Nat) (h:I n s) :
  codeAny (model prog w) A (.compLoop (.ListComp elt [⟨target,iter,ifs,0⟩] scope pos) 0 it acc env) R s:=by
 refine codeAny_loop rfl I (λn s hI=>?_) n h
 show wpAny _ A ((compTurn (.ListComp elt [⟨target,iter,ifs,0⟩] scope pos) 0 it acc env).onRaise (λx=>do noteFrame x env;theTreesLotGoes x)) _ _ s
 refine wpAny_noted ?_
 rw[compTurn_list]
 refine wpAny_bind (wpAny_standAt (wpAny_bind (wpAny_mono (turn n s hI) (λr s₁ h₁=>?_) λ_ _ h'=>h'.elim)))
 cases r with
 | none=>exact wpAny_pure h₁
 | some v =>
  refine wpAny_bind (wpAny_mono h₁ (λ_ s₁' h₁'=>?_) λ_ _ h'=>h'.elim)
  refine wpAny_bind (wpAny_mono h₁' (λ_ s₂ h₂=>wpAny_bind (wpAny_mono h₂ (λok s₃ h₃=>?_) λ_ _ h'=>h'.elim)) λ_ _ h'=>h'.elim)
  cases ok with
  | false=>exact wpAny_pure ⟨rfl,h₃⟩
  | true =>
   exact wpAny_bind (wpAny_bind (wpAny_mono h₃ (λx s₄ h₄=>wpAny_bind (wpAny_mono h₄ (λ_ s₅ h₅=>wpAny_pure (wpAny_pure ⟨rfl,h₅⟩)) λ_ _ h'=>h'.elim)) λ_ _ h'=>h'.elim))
noncomputable def Mj(X:Cx)(ifs:List Expr)(t:TT):Prop :=
 ∀(pins:List (Addr×Obj)) (s:Shared) (σ:St) (H:Hp) (Q:Bool->Hp->Prop),Inv X pins σ H s->t σ H Q ->
  wpAny (model X.prog X.w) X.A (forIn ifs true λc r=>if r=true then do let ok<-isTrue c X.env (eval c X.env);pure (ForInStep.yield ok) else pure (ForInStep.yield r)) (TP X pins σ Q) X.xe s
noncomputable def VI:TT:=λ_ H Q=>Q true H
theorem ZB{X:Cx}:Mj X [] VI:=λ_ _ _ H _ I h=>wpAny_tests_nil ⟨H,I,h⟩
theorem aC{X:Cx}{c:Expr}{t:TT}(h:PT X c t):Mj X [c] t:=λpins s σ H Q I hw=>wpAny_tests_one (h pins s σ H Q I hw)
noncomputable def Tu(wi:TI)(own:List Str)(fr:List Nat)(g:TG)(tc:TT)(te:TE):TE:=λσ H Q=>wi σ H λJ H1=>∃W:Nat->Nat->List V->St->Hp->Prop,(∃m,W 0 m [] (YB own σ fr) H1)/\∀i m ys τ H,W i m ys τ H ->
 (J.stop i H/\∀D,H D=none->Q (.ref D) (HQ H D (.lst ys))) \/
 (J.go i H/\ys.length < sizeLine/\∃N:List V->St->Hp->Prop,(∀ys' τ' H',N ys' τ' H'->∃m',m' < m/\W (i+1) m' ys' τ' H')/\∀x H',J.yld i H x H'->g x τ H' λτ2 H2 =>
   tc τ2 H2 λb H3=>if b=true then te τ2 H3 λy H4=>N (ys++[y]) τ2 H4 else N ys τ2 H3)
theorem Yq{X:Cx}{D:Addr}{us:List Value}{k:Nat}{pl:List (Addr×Obj)}{σ:St}{H:Hp}{s:Shared}{u:Value}{Q:Value->Shared->Prop}{E:Value->Shared->Prop}
  (I:Inv X ([(D,{ cls:=.type "list",data:=.seq us.toArray k })]++pl) σ H s) (h1:X.s₀.heap.objs.size<=D) (h2:∀x c,X.env.cells.lookup x=some c->c≠D) (h3:∀p∈X.pn++pl,p.1≠D) (hz:us.length < sizeLine)
  (h:∀k' s',Inv X ([(D,{ cls:=.type "list",data:=.seq (us++[u]).toArray k' })]++pl) σ H s'->Q .none s'):wpAny (model X.prog X.w) X.A (call (.builtin "list.append") [.ref D,u]) Q E s:=by
 obtain⟨e,hn,hL,hF,_⟩:=I.pin (D,{ cls:=.type "list",data:=.seq us.toArray k }) (P1 _ (G7 _ (K2.mpr rfl)))
 dsimp only at e hn hL hF
 have I0:Inv X pl σ H s:=I.pins_of λp hp=>I.pin p (P1 _ (P1 _ hp))
 refine call_meets F.slot_list_append ⟨_,e,rfl⟩ F.entry_list_append (F.args_list_append_2 _ _) (PySem.list_append D us.toArray k u (by rw[Q0];omega)) ⟨e,?_⟩
 have q:=PySem.IsL.update e λxs=>xs.push u
 rw[show us.toArray.push u=(us++[u]).toArray by simp]at q
 have I1:Inv X pl σ H { s with heap:=s.heap.update D (S2 λxs=>xs.push u),toks:=s.toks } :=
  I0.turned (it:=D) (λb o hb ho=>(V3 s.heap (S2 λxs=>xs.push u) (L1 hb)).trans ho) hn hL (.inr h1) h2 h3
 obtain⟨k',q⟩:∃k',(s.heap.update D (S2 λxs=>xs.push u)).get? D=some { cls:=.type "list",data:=.seq (us++[u]).toArray k' }:=⟨_,q⟩
 refine h k' _ (I1.pins_of (pins':=[(D,{ cls:=.type "list",data:=.seq (us++[u]).toArray k' })]++pl) λp hp=>?_)
 rcases O2.mp hp with z|z
 ·have z:p=_:=K2.mp z
  subst z
  exact ⟨q,hn,hL,hF,λv z=>by cases z⟩
 ·exact I1.pin p (P1 _ z)
theorem mW{X:Cx}{tg iter elt:Expr}{ifs:List Expr}{sc:Scope}{pos:Pos}{own:List Str}{fr:List Nat}{g:TG}{tc:TT}{te:TE}{pins:List (Addr×Obj)}{σ:St}{H2:Hp}{s2:Shared}{it:Addr}{fp:List Addr}{tn:Nat->Heap->Prop}{J:It}{Q:VK}{E:Value->Shared->Prop}
  {RR:Value->Addr->Result->Shared->Prop}
  (hc:X.calm=true) (S:CompSc X own fr sc) (I2:Inv X pins σ H2 s2) (T:Turn X.prog X.w X.K tg J fp it tn) (st2:tn 0 s2.heap) (f2:∀b∈fp,zY X pins H2 b)
  (hg:∀C ex,PG (BQ X own fr sc C s2 H2 ex) tg g) (hif:∀C ex,Mj (BQ X own fr sc C s2 H2 ex) ifs tc) (he:∀C ex,PE (BQ X own fr sc C s2 H2 ex) elt te)
  (W:Nat->Nat->List V->St->Hp->Prop) (m0:Nat) (w0:W 0 m0 [] (YB own σ fr) H2)
  (turn:∀i m ys τ H,W i m ys τ H->(J.stop i H/\∀D,H D=none->Q (.ref D) (HQ H D (.lst ys))) \/
    (J.go i H/\ys.length < sizeLine/\∃N:List V->St->Hp->Prop,(∀ys' τ' H',N ys' τ' H'->∃m',m' < m/\W (i+1) m' ys' τ' H')/\∀x H',J.yld i H x H'->g x τ H' λτ2 H2 =>
      tc τ2 H2 λb H3=>if b=true then te τ2 H3 λy H4=>N (ys++[y]) τ2 H4 else N ys τ2 H3))
  (hRR:∀D C H s',Inv X pins σ H s'->Q (.ref D) H->(∃m,s'.heap.Ns C m)->zY X pins H C->RR (.ref D) C (.ok .next) s') :
  wpAny (model X.prog X.w) X.A (newList []) (λacc s₃=>wpAny (model X.prog X.w) X.A (newFunctionEnv sc X.env.globals (QZ X.env.cells sc.names []) [] X.env.qual none .none (some X.env)) (λcenv s₄ =>
    codeAny (model X.prog X.w) X.A (.compStart (.ListComp elt [⟨tg,iter,ifs,0⟩] sc pos) 0 (.ref it) acc { cenv with scope:=relabel sc X.env }) (RR acc cenv.locals) s₄) E s₃) E s2:=by
 refine wpAny_newObj_type (UK ?_)
 dsimp only
 generalize hH2:s2.heap.push { cls:=.type "list",dict:=none,data:=.seq ([]:List Value).toArray }=G
 generalize hh1:pushCells (G.push { cls:=.type "dict",data:=.dict #[] }) sc.names=h₁
 have kp:∀b o,(G.push { cls:=.type "dict",data:=.dict #[] }).get? b=some o->h₁.get? b=some o:=λb o e=>hh1 ▸ pushCells_keeps _ _ b o e
 have hns₁:h₁.Ns G.objs.size λx=>([]:List (Str×Value)).reverse.lookup x:=(Heap.Ns.new G (.type "dict")).keeps kp
 have cok:CellsOk h₁ (G.objs.size+1) (cellsFrom (G.objs.size+1) sc.names []):=by
  have:=cellsFrom_ok sc.names (G.push { cls:=.type "dict",data:=.dict #[] }) (G.objs.size+1) [] ⟨λ_ _ hm=>(nomatch hm),List.Pairwise.nil⟩ (by rw[W1];exact G0 _)
  rw[W1,hh1]at this
  exact this
 have hC:G.objs.size=s2.heap.objs.size+1:=by rw[<- hH2,W1]
 have hCle:s2.heap.objs.size<=G.objs.size:=by rw[hC];exact Z7 _
 have hDC:s2.heap.objs.size≠G.objs.size:=by rw[hC];exact R0 (Nat.lt_succ_self _)
 have old:∀b o,s2.heap.get? b=some o->h₁.get? b=some o:=λb o e=>kp b o (g0 _ (hH2 ▸ g0 _ e))
 have hacc:h₁.get? s2.heap.objs.size=some { cls:=.type "list",data:=.seq ([]:List Value).toArray }:=kp _ _ (g0 _ (hH2 ▸ J0 _ rfl))
 have st0':tn 0 h₁:=T.keep _ _ _ st2 λb hb o e=>old b o e
 have fo:∀b∈fp,∃o,s2.heap.get? b=some o:=λb hb=>let ⟨o,e,_⟩:=T.obj _ _ st2 b hb;⟨o,e⟩
 have flt:∀b∈fp,b < s2.heap.objs.size:=λb hb=>by obtain⟨o,e⟩:=fo b hb;exact B0 e
 have clb:∀x c,(QZ X.env.cells sc.names []).lookup x=some c->X.env.cells.lookup x=some c:=λx c e=>by
  rcases gJ (λy hy e=>I2.ok.has y.1 (S.free y hy e)) e with z|z
  ·simp at z
  ·exact z
 have clb2:∀(C':Addr) x c,(cellsFrom (C'+1) sc.names (QZ X.env.cells sc.names [])).lookup x=some c->C'+1<=c\/X.env.cells.lookup x=some c:=λC' x c e=>by
  rw[RZ,UX]at e
  cases q:(cellsFrom (C'+1) sc.names []).lookup x with
  | none=>rw[q]at e;exact .inr (clb x c e)
  | some c'=>rw[q]at e;cases e;exact .inl (lW _ _ (PySem.mem_of_lookup q)).2
 have stt:∀C':Addr,s2.heap.objs.size<=C'->∀{H':Hp}{pl:List (Addr×Obj)},(∀b∈fp,H' b=none)->(∀p∈pl,s2.heap.objs.size<=p.1)->∀b∈fp,zY (BQ X own fr sc C' s2 H2 fp) pl H' b:=λC' hC' H' pl hn hp b hb=>by
  have I0:=f2 b hb
  refine ⟨hn b hb,R0 (N0 (flt b hb) hC'),λhm=>?_,.inl hb,λx c e=>by
      rcases clb2 C' x c e with z|z
      · exact J1 (N0 (flt b hb) (A1 hC' (V5 z)))
      · exact I0.2.2.2.2.1 x c z,λp hp'=>?_⟩
  ·rcases B2.mp (I2.stkSub b hm) with z|z
   ·exact I0.2.1 z
   ·exact I0.2.2.1 z
  ·have hp':p∈pl:=by
    have:p∈([]:List (Addr×Obj))++pl:=hp'
    simpa using this
   exact J1 (N0 (flt b hb) (hp p hp'))
 have loop:∀s₃:Shared,s₃={ s2 with heap:=h₁,toks:=s2.toks } ->
   codeAny (model X.prog X.w) X.A (.compLoop (.ListComp elt [⟨tg,iter,ifs,0⟩] sc pos) 0 (.ref it) (.ref s2.heap.objs.size) (compEnvC sc (cellsFrom (G.objs.size+1) sc.names (QZ X.env.cells sc.names [])) G.objs.size X.env))
    (RR (.ref s2.heap.objs.size) G.objs.size) s₃:=by
  rintro s₃ rfl
  have I3:=XG (own:=own) (fr:=fr) (tk:=s2.toks) S I2 f2 fo hCle (G0 _) hDC hns₁ old (λx c h=>(cok.empty x c h).1) cok.apart hacc (λv z=>by cases z)
  refine kJ (λn s'=>∃i H' ys us k τ,Inv (BQ X own fr sc G.objs.size s2 H2 fp) [(s2.heap.objs.size,{ cls:=.type "list",data:=.seq us.toArray k })] τ H' s'/\tn i s'.heap/\(∀b∈fp,H' b=none)/\Vals ys us/\ys.length<=sizeLine/\W i n ys τ H') ?_ m0
   ⟨0,H2,[],[],0,_,I3,st0',λb hb=>(f2 b hb).1,.nil,u4 _,w0⟩
  rintro n s4 ⟨i,H4,ys,us,k,τ,I4,st4,fr4,rv4,hz4,w4⟩
  have hp4:∀p∈[(s2.heap.objs.size,({ cls:=.type "list",data:=.seq us.toArray k }:Obj))],s2.heap.objs.size<=p.1:=λp hp=>by
   rw[K2.mp hp]
   exact G0 _
  rcases turn i n ys τ H4 w4 with⟨stop,qn⟩|⟨go,hlt,N,hN,step⟩
  ·refine gX (T.done (BQ X own fr sc G.objs.size s2 H2 fp) rfl rfl rfl hc i _ s4 _ H4 (λ_ _=>False) I4 (stt _ hCle fr4 hp4) st4 stop) λr s5 ⟨hr,I5⟩=>?_
   subst hr
   obtain⟨a1,a2,a3⟩:=Lj I2 f2 hCle (G0 _) hDC I5 rfl rv4 hz4
   exact hRR _ _ _ s5 a1 (qn _ (I5.pin _ (P1 _ (K2.mpr rfl))).2.1) a2 a3
  ·refine gX (T.item (BQ X own fr sc G.objs.size s2 H2 fp) rfl rfl rfl hc i _ s4 _ H4 (λ_ _=>False) I4 (stt _ hCle fr4 hp4) st4 go) λr s5 ⟨u,hr,h5⟩=>?_
   subst hr
   refine gX h5 λ_ s6 ⟨x,H6,I6,r6,y6,st6,fr6⟩=>?_
   have I6':=I6.pinned (stt _ hCle fr6 hp4) (T.obj _ _ st6)
   refine gX (hg G.objs.size fp _ s6 _ H6 x u _ I6' r6 (step x H6 y6)) λ_ s7 ⟨σ7,H7,I7,q7⟩=>?_
   refine gX (hif G.objs.size fp _ s7 σ7 H7 _ I7 q7) λb s8 ⟨H8,I8,q8⟩=>?_
   have again:∀{s9:Shared}{H9:Hp}{ys':List V}{us':List Value}{k':Nat},Inv (BQ X own fr sc G.objs.size s2 H2 fp) ([(s2.heap.objs.size,{ cls:=.type "list",data:=.seq us'.toArray k' })]++RK fp s6.heap) σ7 H9 s9->Vals ys' us'->ys'.length<=sizeLine->N ys' σ7 H9 ->
     ∃m,m < n/\∃i H' ys us k τ,Inv (BQ X own fr sc G.objs.size s2 H2 fp) [(s2.heap.objs.size,{ cls:=.type "list",data:=.seq us.toArray k })] τ H' s9/\tn i s9.heap/\(∀b∈fp,H' b=none)/\Vals ys us/\ys.length<=sizeLine/\W i m ys τ H':=λ{s9 H9 ys' us' k'} I9 rv9 hz9 n9=>by
    obtain⟨m',hm,w9⟩:=hN ys' σ7 H9 n9
    refine ⟨m',hm,i+1,H9,ys',us',k',σ7,I9.unpinned,T.keep _ _ _ st6 λb hb o e=>(I9.pin (b,o) (P1 _ (P1 _ (NZ hb e)))).1,λb hb=>?_,rv9,hz9,w9⟩
    obtain⟨o,e,d⟩:=T.obj _ _ st6 b hb
    exact (I9.pin (b,o) (P1 _ (P1 _ (NZ hb e)))).2.1
   cases b with
   | false =>
    rw[if_neg G1]at q8 ⊢
    exact again I8 rv4 hz4 q8
   | true =>
    rw[if_pos rfl]at q8 ⊢
    refine gX (he G.objs.size fp _ s8 σ7 H8 _ I8 q8) λy s9 ⟨yv,H9,I9,r9,n9⟩=>?_
    refine Yq (X:=BQ X own fr sc G.objs.size s2 H2 fp) I9 (G0 _) (λx c e z=>?_) (λp hp z=>?_) (by rw[<- rv4.length];exact hlt) λk' s10 I10=>?_
    ·rcases clb2 _ x c e with y|y
     ·rw[z]at y
      exact absurd (N0 (Nat.lt_succ_of_le hCle) y) (A3 _)
     ·obtain⟨v,q⟩:=I2.cell x c y
      exact absurd (N0 q.lt (by rw[z];exact G0 _)) (A3 _)
    ·have hp:p∈([]:List (Addr×Obj))++RK fp s6.heap:=hp
     rw[K8]at hp
     have:=flt _ (AV hp).1
     rw[z]at this
     exact absurd this (A3 _)
    ·exact again I10 (rv4.append (.cons r9 .nil)) (by rw[M0,E1];omega) n9
 exact codeAny_compStart_list (loop _ rfl) (T.self _ 0 _ _ _ st0' (loop _ rfl))
theorem Iv{X:Cx}{tg iter elt:Expr}{ifs:List Expr}{sc:Scope}{pos:Pos}{own:List Str}{fr:List Nat}{wi:TI}{g:TG}{tc:TT}{te:TE}(hc:X.calm=true)(S:CompSc X own fr sc)(hi:PI X tg iter wi)
  (hg:∀C s H ex,PG (BQ X own fr sc C s H ex) tg g) (hif:∀C s H ex,Mj (BQ X own fr sc C s H ex) ifs tc) (he:∀C s H ex,PE (BQ X own fr sc C s H ex) elt te)
  (hs:∀x,foldedSetIterable iter X.env x=pure x:=by intro _;rfl):PE X (.ListComp elt [⟨tg,iter,ifs,0⟩] sc pos) (Tu wi own fr g tc te):=by
 intro pins s σ H Q I h
 rw[eval_ListComp]
 refine wpAny_comprehension_free (use:=none) rfl hs (jW λy hy e=>I.ok.has y.1 (S.free y hy e)) S.kind S.loc (gX (hi pins s σ H _ I h) λv s1 h1=>gX h1 λitv s2 h2=>?_)
 obtain⟨it,fp,tn,J,H2,e,I2,T,st2,f2,W,⟨m0,w0⟩,turn⟩:=h2
 subst e
 refine mW (Q:=Q) (RR:=λacc C=>compPost (model X.prog X.w) X.A X.xe none (EP X pins σ Q) acc C) hc S I2 T st2 f2 (λC ex=>hg C s2 H2 ex) (λC ex=>hif C s2 H2 ex) (λC ex=>he C s2 H2 ex) W m0 w0 turn ?_
 intro D C H' s' I' q ⟨m,hm⟩ fC
 refine ⟨m,hm,λh' sb=>⟨.ref D,H',?_,rfl,q⟩⟩
 obtain⟨f0,f1,f2,f3,f4,f5⟩:=fC
 exact I'.turned (t':=s'.toks) (λb o hb e=>(sb.2 b hb).trans e) f0 f1 f3 f4 f5
theorem YG{X:Cx}{tg iter elt:Expr}{ifs:List Expr}{sc:Scope}{pos spos py:Pos}{i:Nat}{y:Str}{own:List Str}{fr:List Nat}{wi:TI}{g:TG}{tc:TT}{te:TE}(hN:X.N.Nodup)(hy:X.N[i]?=some y)(hl:X.env.scope.names.lookup y=some .local)(hc:X.calm=true)(S:CompSc X own fr sc)(hi:PI X tg iter wi)
  (hg:∀C s H ex,PG (BQ X own fr sc C s H ex) tg g) (hif:∀C s H ex,Mj (BQ X own fr sc C s H ex) ifs tc) (he:∀C s H ex,PE (BQ X own fr sc C s H ex) elt te)
  (hsw:swapsWith (.ListComp elt [⟨tg,iter,ifs,0⟩] sc pos) (some (.Name y py)) spos.line X.env=pure true:=by rfl)
  (hs:∀x,foldedSetIterable iter X.env x=pure x:=by intro _;rfl):PS X (.Assign [.Name y py] (.ListComp elt [⟨tg,iter,ifs,0⟩] sc pos) spos) (dJ (Tu wi own fr g tc te) (JX i)):=by
 intro pins s σ H D I h
 rw[exec_Assign_Name_used _ _ _ _ hsw]
 refine wpAny_bind (wpAny_standAt ?_)
 show wpAny _ _ (evalThenUse (.ListComp elt [⟨tg,iter,ifs,0⟩] sc pos) X.env _ >>= _) _ _ s
 refine wpAny_bind ?_
 unfold evalThenUse
 refine wpAny_bind ?_
 refine wpAny_comprehension_free rfl hs (jW λy hy e=>I.ok.has y.1 (S.free y hy e)) S.kind S.loc (gX (hi pins s σ H _ I h) λv s1 h1=>gX h1 λitv s2 h2=>?_)
 obtain⟨it,fp,tn,J,H2,e,I2,T,st2,f2,W,⟨m0,w0⟩,turn⟩:=h2
 subst e
 refine mW (Q:=λv H1=>D.nx (σ.set i (some v)) H1) hc S I2 T st2 f2 (λC ex=>hg C s2 H2 ex) (λC ex=>hif C s2 H2 ex) (λC ex=>he C s2 H2 ex) W m0 w0 turn ?_
 intro D' C H' s' I' q ⟨m,hm⟩ fC
 obtain⟨f0,f1,f2,f3,f4,f5⟩:=fC
 show wpAny (model X.prog X.w) X.A (assign (.Name y py) X.env (.ref D')) (λ_ s''=>∃m,s''.heap.Ns C m/\∀h',o5 C s''.heap h'->_) X.xe s'
 refine wpAny_assign_Name (yV I' hN hy (.inl hl) (v:=.ref D') rfl (λs'' I'' hsb=>?_) (.inr hl))
 obtain⟨a,hsb,ha⟩:=hsb
 have hCa:C≠a:=by
  rcases ha with z|z
  ·rw[z];exact f1
  ·exact λe=>f4 y a z e.symm
 obtain⟨m',hm'⟩:∃m',s''.heap.Ns C m':=⟨m,hm.sameBut hsb hCa⟩
 refine ⟨m',hm',λh' sb=>wpAny_pure (wpAny_pure ⟨_,H',?_,q⟩)⟩
 exact I''.turned (t':=s''.toks) (λb o hb e=>(sb.2 b hb).trans e) f0 f1 f3 f4 f5
inductive Kd where|l|t
noncomputable def ItAt(k:Kd)(h:Heap)(it a:Addr)(i:Nat):Prop:=match k with | .l=>h.IsListIter it a i | .t=>h.IsTupleIter it a i
noncomputable def SqAt(k:Kd)(h:Heap)(a:Addr)(xs:Array Value):Prop:=match k with | .l=>h.IsList a xs | .t=>h.IsTuple a xs
noncomputable def KQ(k:Kd)(a:Addr):Obj:=match k with | .l=>{ cls:=.type "list_iterator",data:=.fields #[.ref a,.int 0 0] } | .t=>{ cls:=.type "tuple_iterator",data:=.fields #[.ref a,.int 0 0] }
theorem ItAt.at{k:Kd}{h h':Heap}{it a:Addr}{i:Nat}(x:ItAt k h it a i)(f:∀o,h.get? it=some o->h'.get? it=some o):ItAt k h' it a i:=by
 cases k with
 | l=>exact Heap.IsListIter.at x f
 | t=>exact Heap.IsTupleIter.at x f
theorem SqAt.at{k:Kd}{h h':Heap}{a:Addr}{xs:Array Value}(x:SqAt k h a xs)(f:∀o,h.get? a=some o->h'.get? a=some o):SqAt k h' a xs:=by
 cases k with
 | l=>exact Heap.IsList.at x f
 | t=>obtain⟨o,e,r⟩:=x;exact ⟨o,f o e,r⟩
theorem ItAt.obj{k:Kd}{h:Heap}{it a:Addr}{i:Nat}(x:ItAt k h it a i):∃o,h.get? it=some o/\∀v,o.data≠.cell v:=by
 cases k with
 | l=>obtain⟨o,e,c,d⟩:=x;exact ⟨o,e,λv z=>by rw[d]at z;cases z⟩
 | t=>obtain⟨o,e,c,d⟩:=x;exact ⟨o,e,λv z=>by rw[d]at z;cases z⟩
theorem ItAt.new(k:Kd){h:Heap}{it a:Addr}(e:h.get? it=some (KQ k a)):ItAt k h it a 0:=by
 cases k with
 | l=>exact ⟨_,e,rfl,rfl⟩
 | t=>exact ⟨_,e,rfl,rfl⟩
section
variable {prog:Program}{w:World}{A:Around}{E:Value->Shared->Prop}{s:Shared}
theorem yZ{k:Kd}{a:Addr}{xs:Array Value}{Q:Value->Shared->Prop}(hl:SqAt k s.heap a xs)(h:Q (.ref s.heap.objs.size) { s with heap:=s.heap.push (KQ k a) }):wpAny (model prog w) A (pyIter (.ref a)) Q E s:=by
 cases k with
 | l=>exact wpAny_pyIter_list hl h
 | t=>exact wpAny_pyIter_tuple hl h
theorem oK{it t:Addr}{i:Nat}{items}{x:Value}{Q:Value->Shared->Prop}(hit:s.heap.IsTupleIter it t i)(ht:s.heap.IsTuple t items)(hx:items[i]?=some x)
  (hQ:∀h',h'.IsTupleIter it t (i+1)->o5 it s.heap h'->Q x { s with heap:=h' }):wpAny (model prog w) A (T0 (.ref it)) Q E s:=by
 obtain⟨o,ho,hc,hd⟩:=id hit
 obtain⟨ol,hol,_,nl,hdl⟩:=ht
 unfold T0
 refine wpAny_bind (wpAny_callSpecial?_slot (name:=Str.ofString "__next__") hit.typeIs F.slot_tuple_iterator_next
   (wpAny_call_entry F.slot_tuple_iterator_next hit.typeIs F.entry_tuple_iterator_next ?_ (F.args_tuple_iterator_next_1 _)))
 show wpAny _ _ (field (.ref it) 0 >>= _) _ _ s
 refine wpAny_bind (wpAny_field ho hd (x:=.ref t) rfl ?_)
 show wpAny _ _ (if (U1 t==x6)=true then _ else _) _ _ s
 rw[if_neg (show ¬((U1 t==x6)=true) from G1)]
 show wpAny _ _ (field (.ref it) 1 >>= _) _ _ s
 refine wpAny_bind (wpAny_field ho hd (x:=.int i 0) rfl ?_)
 show wpAny _ _ (seqItems? (.ref t) >>= _) _ _ s
 refine wpAny_bind (wpAny_seqItems hol hdl ?_)
 simp only[W5,hx]
 refine wpAny_bind (wpAny_setField ho hd (by simp) (wpAny_pure ⟨x,rfl,wpAny_pure (hQ _ ?_ (G4 ..))⟩))
 exact ⟨_,V2 _ ho (h7 (B5 hd _)),(Obj.cls_mapFields ..).trans hc,by
   rw[B5 hd];simp[rawInt]⟩
theorem WK{it l:Addr}{i:Nat}{items}{Q:Value->Shared->Prop}(hh:A.handled=none)
  (hit:s.heap.IsTupleIter it l i) (hl:s.heap.IsTuple l items) (hx:items[i]?=none)
  (hE:∀h' e,E7 it s.heap h'->(∃o,h'.get? e=some o/\o.cls=.type "StopIteration")->E (.ref e) { s with heap:=h' }) :
  wpAny (model prog w) A (T0 (.ref it)) Q E s:=by
 obtain⟨o,ho,hc,hd⟩:=id hit
 obtain⟨ol,hol,_,nl,hdl⟩:=hl
 unfold T0
 refine wpAny_bind (wpAny_callSpecial?_slot (name:=Str.ofString "__next__") hit.typeIs F.slot_tuple_iterator_next
   (wpAny_call_entry F.slot_tuple_iterator_next hit.typeIs F.entry_tuple_iterator_next ?_ (F.args_tuple_iterator_next_1 _)))
 show wpAny _ _ (field (.ref it) 0 >>= _) _ _ s
 refine wpAny_bind (wpAny_field ho hd (x:=.ref l) rfl ?_)
 show wpAny _ _ (if (U1 l==x6)=true then _ else _) _ _ s
 rw[if_neg (show ¬((U1 l==x6)=true) from G1)]
 show wpAny _ _ (field (.ref it) 1 >>= _) _ _ s
 refine wpAny_bind (wpAny_field ho hd (x:=.int i 0) rfl ?_)
 show wpAny _ _ (seqItems? (.ref l) >>= _) _ _ s
 refine wpAny_bind (wpAny_seqItems hol hdl ?_)
 simp only[W5,hx]
 refine wpAny_bind (wpAny_rule (wpAny_bind (wpAny_setField ho hd (by simp) ?_)))
 show wpAny _ _ (newExc (.type "StopIteration") [] >>= _) _ _ _
 refine wpAny_bind ?_
 simp only[newExc,newTuple]
 refine wpAny_bind (wpAny_newObj_type ?_ (by size_fits))
 refine wpAny_bind (m:=firstArgMember _ _) (wpAny_of_eq (a:=x6) (by first|rfl|(simp only[firstArgMember];rfl)) ?_)
 refine wpAny_newObj_type ?_ (by size_fits)
 simp only[raiseNew]
 refine wpAny_bind (wpAny_handled ?_)
 first|rw[show A.in1.handled=none from hh]|rw[hh]
 refine wpAny_bind (wpAny_pure (wpAny_throw ?_))
 exact hE _ _ (((G4 ..).extBut.push _).push _) ⟨_,J0 _ rfl,rfl⟩
theorem IQ{k:Kd}{it a:Addr}{i:Nat}{xs:Array Value}{x:Value}{Q:Value->Shared->Prop}(hit:ItAt k s.heap it a i)(hl:SqAt k s.heap a xs)(hx:xs[i]?=some x)
  (hQ:∀h',ItAt k h' it a (i+1)->o5 it s.heap h'->Q x { s with heap:=h' }):wpAny (model prog w) A (T0 (.ref it)) Q E s:=by
 cases k with
 | l=>exact wpAny_nextOf_list_item hit hl hx hQ
 | t=>exact oK hit hl hx hQ
theorem kX{k:Kd}{it a:Addr}{i:Nat}{xs:Array Value}{Q:Value->Shared->Prop}(hh:A.handled=none)(hit:ItAt k s.heap it a i)(hl:SqAt k s.heap a xs)(hx:xs[i]?=none)
  (hE:∀h' e,E7 it s.heap h'->(∃o,h'.get? e=some o/\o.cls=.type "StopIteration")->E (.ref e) { s with heap:=h' }):wpAny (model prog w) A (T0 (.ref it)) Q E s:=by
 cases k with
 | l=>exact wpAny_nextOf_list_end hh hit hl hx hE
 | t=>exact WK hh hit hl hx hE
end
noncomputable abbrev zQ(h:Heap)(T:Addr)(a1 a2:Value):Prop:=h.get? T=some { cls:=.type "tuple",data:=.seq #[a1,a2] }
structure ZAp2(z TI TO i1 i2 l1 l2:Addr):Prop where
 TIz:TI≠z
 TOz:TO≠z
 i1z:i1≠z
 i2z:i2≠z
 TOTI:TO≠TI
 i1TI:i1≠TI
 i2TI:i2≠TI
 i1TO:i1≠TO
 i2TO:i2≠TO
 i2i1:i2≠i1
 l1z:l1≠z
 l1TO:l1≠TO
 l1i1:l1≠i1
 l1i2:l1≠i2
 l2z:l2≠z
 l2TO:l2≠TO
 l2i1:l2≠i1
 l2i2:l2≠i2
theorem XI(n l1 l2:Nat)(h1:l1 < n)(h2:l2 < n):ZAp2 (n+4) (n+2) (n+3) n (n+1) l1 l2:=by constructor<;>(show ¬(@Eq Nat _ _))<;>omega
section
variable {prog:Program}{w:World}{A:Around}{E:Value->Shared->Prop}{s:Shared}
theorem aF{T:Addr}{a1 a2 x:Value}{k:Nat}{Q:Unit->Shared->Prop}(hT:zQ s.heap T a1 a2)
  (h:∀h',h'.get? T=some { cls:=.type "tuple",data:=.seq ((#[a1,a2]:Array Value).setIfInBounds k x) }->o5 T s.heap h'->Q () { s with heap:=h' }) :
  wpAny (model prog w) A (updateSeq T (·.setIfInBounds k x)) Q E s:=by
 refine wpAny_updateSeq hT rfl (h _ ?_ (G4 ..))
 rw[V2 _ hT rfl]
 simp[S2]
theorem bF{z TI TO i1 i2 l1 l2:Addr}{k:Nat}{k1:Kd}{k2:Kd}{xs1 xs2:Array Value}{a1 a2:Value}{x1 x2:Value}{Q:Value->Shared->Prop}(D:ZAp2 z TI TO i1 i2 l1 l2)
  (hz:IsZip s.heap z TI TO .none) (hTI:zQ s.heap TI (.ref i1) (.ref i2)) (hTO:zQ s.heap TO a1 a2)
  (h1:ItAt k1 s.heap i1 l1 k) (h2:ItAt k2 s.heap i2 l2 k) (hl1:SqAt k1 s.heap l1 xs1) (hl2:SqAt k2 s.heap l2 xs2) (hx1:xs1[k]?=some x1) (hx2:xs2[k]?=some x2)
  (hQ:∀h',IsZip h' z TI TO (rawInt s.heap.objs.size)->zQ h' TO x1 x2->ItAt k1 h' i1 l1 (k+1)->ItAt k2 h' i2 l2 (k+1)->zQ h' s.heap.objs.size x1 x2->h'.objs.size=s.heap.objs.size+1 ->
    (∀c o,c≠z->c≠TO->c≠i1->c≠i2->s.heap.get? c=some o->h'.get? c=some o)->Q (.ref s.heap.objs.size) { s with heap:=h' }) :
  wpAny (model prog w) A (Builtin.«zip.__next__» ⟨[.ref z],[]⟩) (λfin s'=>∃v,fin=.done (.ret v)/\Q v s') E s:=by
 show wpAny _ _ (field (.ref z) 2 >>= _) _ _ _
 refine wpAny_bind (wpAny_field hz rfl (x:=.bool false) rfl ?_)
 show wpAny _ _ (field (.ref z) 3 >>= _) _ _ _
 refine wpAny_bind (wpAny_field hz rfl (x:=.ref TI) rfl ?_)
 refine wpAny_bind (wpAny_seqItems hTI rfl ?_)
 show wpAny _ _ (Y0 (.ref z) >>= _) _ _ _
 refine wpAny_bind ?_
 unfold Y0
 refine wpAny_bind (wpAny_field hz rfl (x:=.none) rfl (wpAny_pure ?_))
 simp only[if_true]
 refine wpAny_bind (wpAny_rule ?_)
 refine wpAny_bind (wpAny_field hz rfl (x:=.ref TO) rfl ?_)
 refine wpAny_bind (wpAny_setField_rec hz (by simp) λh₁ hz₁ hs₁=>?_)
 replace hz₁:IsZip h₁ z TI TO .ellipsis:=hz₁
 refine wpAny_bind ?_
 simp only[j7,L7,O5,j6]
 have up₁:∀c o,c≠z->s.heap.get? c=some o->h₁.get? c=some o:=λc o c1 e=>hs₁.extBut _ _ c1 e
 refine wpAny_bind (wpAny_bind (wpAny_onRaise ?_))
 show wpAny _ _ (T0 (.ref i1) >>= _) _ _ _
 refine wpAny_bind (IQ (h1.at λo e=>hs₁.extBut _ o D.i1z e) (hl1.at λo e=>hs₁.extBut _ o D.l1z e) hx1 λha1 hi1 hsa1=>wpAny_pure ?_)
 have hTOa1:zQ ha1 TO a1 a2:=hsa1.extBut _ _ D.i1TO.symm (hs₁.extBut _ _ D.TOz hTO)
 refine wpAny_bind (wpAny_seqItems hTOa1 rfl ?_)
 refine wpAny_bind (aF hTOa1 λhb1 hTOb1 hsb1=>?_)
 replace hTOb1:zQ hb1 TO x1 a2:=hTOb1
 refine wpAny_bind (wpAny_letGo (wpAny_pure ?_))
 refine wpAny_bind (wpAny_bind (wpAny_onRaise ?_))
 show wpAny _ _ (T0 (.ref i2) >>= _) _ _ _
 refine wpAny_bind (IQ (((h2.at λo e=>hs₁.extBut _ o D.i2z e).at λo e=>hsa1.extBut _ o D.i2i1 e).at λo e=>hsb1.extBut _ o D.i2TO e) (((hl2.at λo e=>hs₁.extBut _ o D.l2z e).at λo e=>hsa1.extBut _ o D.l2i1 e).at λo e=>hsb1.extBut _ o D.l2TO e) hx2 λha2 hi2 hsa2=>wpAny_pure ?_)
 have hTOa2:zQ ha2 TO x1 a2:=hsa2.extBut _ _ D.i2TO.symm hTOb1
 refine wpAny_bind (wpAny_seqItems hTOa2 rfl ?_)
 refine wpAny_bind (aF hTOa2 λhb2 hTOb2 hsb2=>?_)
 replace hTOb2:zQ hb2 TO x1 x2:=hTOb2
 refine wpAny_bind (wpAny_letGo (wpAny_pure (wpAny_pure ?_)))
 refine wpAny_bind (wpAny_seqItems hTOb2 rfl ?_)
 refine wpAny_bind (wpAny_newTuple ?_)
 have hsz:hb2.objs.size=s.heap.objs.size:=by rw[hsb2.1,hsa2.1,hsb1.1,hsa1.1,hs₁.1]
 have hzG:IsZip hb2 z TI TO .ellipsis:=(hsb2.extBut _ _ D.TOz.symm (hsa2.extBut _ _ D.i2z.symm (hsb1.extBut _ _ D.TOz.symm (hsa1.extBut _ _ D.i1z.symm hz₁))))
 have hkG:∀c o,c≠z->c≠TO->c≠i1->c≠i2->s.heap.get? c=some o->hb2.get? c=some o:=λc o c1 c2 d1 d2 e=>(hsb2.extBut _ _ c2 (hsa2.extBut _ _ d2 (hsb1.extBut _ _ c2 (hsa1.extBut _ _ d1 (hs₁.extBut _ _ c1 e)))))
 have hiG1:ItAt k1 hb2 i1 l1 (k+1):=(((hi1.at λo e=>hsb1.extBut _ o D.i1TO e).at λo e=>hsa2.extBut _ o D.i2i1.symm e).at λo e=>hsb2.extBut _ o D.i1TO e)
 have hiG2:ItAt k2 hb2 i2 l2 (k+1):=(hi2.at λo e=>hsb2.extBut _ o D.i2TO e)
 have hzlt:z < hb2.objs.size:=B0 hzG
 show wpAny _ _ (Y3 (.ref z) (.ref hb2.objs.size) >>= _) _ _ _
 refine wpAny_bind ?_
 unfold Y3
 have hz₆:IsZip (hb2.push { cls:=.type "tuple",data:=.seq #[x1,x2] }) z TI TO .ellipsis:=g0 _ hzG
 refine wpAny_bind (wpAny_setField_rec hz₆ (by simp) λh₇ hz₇ hs₇=>?_)
 replace hz₇:IsZip h₇ z TI TO (rawInt hb2.objs.size):=hz₇
 refine wpAny_setField_rec hz₇ (by simp) λh₈ hz₈ hs₈=>?_
 replace hz₈:IsZip h₈ z TI TO (rawInt hb2.objs.size):=hz₈
 have up:∀c o,c≠z->hb2.get? c=some o->h₈.get? c=some o:=λc o c1 e=>hs₈.extBut _ _ c1 (hs₇.extBut _ _ c1 (g0 _ e))
 have hT₈:zQ h₈ hb2.objs.size x1 x2:=hs₈.extBut _ _ (J1 hzlt) (hs₇.extBut _ _ (J1 hzlt) (J0 _ rfl))
 have hz8:h₈.objs.size=hb2.objs.size+1:=by rw[hs₈.1,hs₇.1,W1]
 rw[hsz]at hz₈ hT₈ hz8
 refine wpAny_pure ⟨_,rfl,?_⟩
 show Q (.ref hb2.objs.size) _
 rw[hsz]
 exact hQ h₈ hz₈ (up _ _ D.TOz hTOb2) (hiG1.at λo e=>up _ o D.i1z e) (hiG2.at λo e=>up _ o D.i2z e) hT₈ hz8 λc o c1 c2 d1 d2 e=>up c o c1 (hkG c o c1 c2 d1 d2 e)
theorem Zq{z TI TO i1 i2 l1 l2:Addr}{k:Nat}{k1:Kd}{k2:Kd}{xs1 xs2:Array Value}{a1 a2:Value}{Q:Fin->Shared->Prop}(hh:A.handled=none)(D:ZAp2 z TI TO i1 i2 l1 l2)
  (hz:IsZip s.heap z TI TO .none) (hTI:zQ s.heap TI (.ref i1) (.ref i2)) (hTO:zQ s.heap TO a1 a2)
  (h1:ItAt k1 s.heap i1 l1 k) (h2:ItAt k2 s.heap i2 l2 k) (hl1:SqAt k1 s.heap l1 xs1) (hl2:SqAt k2 s.heap l2 xs2) (hend:xs1[k]?=none\/xs2[k]?=none)
  (hE:∀h' e,(∀c o,c≠z->c≠TO->c≠i1->c≠i2->s.heap.get? c=some o->h'.get? c=some o)->(∃o,h'.get? e=some o/\o.cls=.type "StopIteration")->E (.ref e) { s with heap:=h' }) :
  wpAny (model prog w) A (Builtin.«zip.__next__» ⟨[.ref z],[]⟩) Q E s:=by
 show wpAny _ _ (field (.ref z) 2 >>= _) _ _ _
 refine wpAny_bind (wpAny_field hz rfl (x:=.bool false) rfl ?_)
 show wpAny _ _ (field (.ref z) 3 >>= _) _ _ _
 refine wpAny_bind (wpAny_field hz rfl (x:=.ref TI) rfl ?_)
 refine wpAny_bind (wpAny_seqItems hTI rfl ?_)
 show wpAny _ _ (Y0 (.ref z) >>= _) _ _ _
 refine wpAny_bind ?_
 unfold Y0
 refine wpAny_bind (wpAny_field hz rfl (x:=.none) rfl (wpAny_pure ?_))
 simp only[if_true]
 refine wpAny_bind (wpAny_rule ?_)
 refine wpAny_bind (wpAny_field hz rfl (x:=.ref TO) rfl ?_)
 refine wpAny_bind (wpAny_setField_rec hz (by simp) λh₁ hz₁ hs₁=>?_)
 replace hz₁:IsZip h₁ z TI TO .ellipsis:=hz₁
 refine wpAny_bind ?_
 simp only[j7,L7,O5,j6]
 refine wpAny_bind (wpAny_bind (wpAny_onRaise ?_))
 show wpAny _ _ (T0 (.ref i1) >>= _) _ _ _
 cases hx1:xs1[k]? with
 | none =>
  refine wpAny_bind (kX hh (h1.at λo e=>hs₁.extBut _ o D.i1z e) (hl1.at λo e=>hs₁.extBut _ o D.l1z e) hx1 λhq e hsq he=>?_)
  obtain⟨oe,hoe,hce⟩:=he
  have hzq:IsZip hq z TI TO .ellipsis:=hsq _ _ D.i1z.symm hz₁
  have hez:e≠z:=λx=>by subst x;rw[hzq]at hoe;cases hoe;simp at hce
  refine wpAny_setField_rec hzq (by simp) λh₉ _ hs₉=>hE h₉ e (λc o c1 c2 d1 d2 x=>hs₉.extBut _ _ c1 (hsq _ _ d1 (hs₁.extBut _ _ c1 x))) ⟨oe,hs₉.extBut _ _ hez hoe,hce⟩
 | some x1 =>
  refine wpAny_bind (IQ (h1.at λo e=>hs₁.extBut _ o D.i1z e) (hl1.at λo e=>hs₁.extBut _ o D.l1z e) hx1 λha1 hi1 hsa1=>wpAny_pure ?_)
  have hTOa1:zQ ha1 TO a1 a2:=hsa1.extBut _ _ D.i1TO.symm (hs₁.extBut _ _ D.TOz hTO)
  refine wpAny_bind (wpAny_seqItems hTOa1 rfl ?_)
  refine wpAny_bind (aF hTOa1 λhb1 hTOb1 hsb1=>?_)
  replace hTOb1:zQ hb1 TO x1 a2:=hTOb1
  refine wpAny_bind (wpAny_letGo (wpAny_pure ?_))
  refine wpAny_bind (wpAny_bind (wpAny_onRaise ?_))
  show wpAny _ _ (T0 (.ref i2) >>= _) _ _ _
  have hx2:xs2[k]?=none:=by
   rcases hend with h|h
   ·rw[hx1]at h;cases h
   ·exact h
  refine wpAny_bind (kX hh (((h2.at λo e=>hs₁.extBut _ o D.i2z e).at λo e=>hsa1.extBut _ o D.i2i1 e).at λo e=>hsb1.extBut _ o D.i2TO e) (((hl2.at λo e=>hs₁.extBut _ o D.l2z e).at λo e=>hsa1.extBut _ o D.l2i1 e).at λo e=>hsb1.extBut _ o D.l2TO e) hx2 λhq e hsq he=>?_)
  obtain⟨oe,hoe,hce⟩:=he
  have hzq:IsZip hq z TI TO .ellipsis:=hsq _ _ D.i2z.symm (hsb1.extBut _ _ D.TOz.symm (hsa1.extBut _ _ D.i1z.symm hz₁))
  have hez:e≠z:=λx=>by subst x;rw[hzq]at hoe;cases hoe;simp at hce
  refine wpAny_setField_rec hzq (by simp) λh₉ _ hs₉=>hE h₉ e (λc o c1 c2 d1 d2 x=>hs₉.extBut _ _ c1 (hsq _ _ d2 (hsb1.extBut _ _ c2 (hsa1.extBut _ _ d1 (hs₁.extBut _ _ c1 x))))) ⟨oe,hs₉.extBut _ _ hez hoe,hce⟩
theorem lJ{z TI TO i1 i2 l1 l2:Addr}{k:Nat}{k1:Kd}{k2:Kd}{xs1 xs2:Array Value}{a1 a2:Value}{x1 x2:Value}{Q:Option Value->Shared->Prop}(D:ZAp2 z TI TO i1 i2 l1 l2)
  (hz:IsZip s.heap z TI TO .none) (hTI:zQ s.heap TI (.ref i1) (.ref i2)) (hTO:zQ s.heap TO a1 a2)
  (h1:ItAt k1 s.heap i1 l1 k) (h2:ItAt k2 s.heap i2 l2 k) (hl1:SqAt k1 s.heap l1 xs1) (hl2:SqAt k2 s.heap l2 xs2) (hx1:xs1[k]?=some x1) (hx2:xs2[k]?=some x2)
  (hQ:∀h',IsZip h' z TI TO (rawInt s.heap.objs.size)->zQ h' TO x1 x2->ItAt k1 h' i1 l1 (k+1)->ItAt k2 h' i2 l2 (k+1)->zQ h' s.heap.objs.size x1 x2->h'.objs.size=s.heap.objs.size+1 ->
    (∀c o,c≠z->c≠TO->c≠i1->c≠i2->s.heap.get? c=some o->h'.get? c=some o)->Q (some (.ref s.heap.objs.size)) { s with heap:=h' }) :
  wpAny (model prog w) A (pyNext (.ref z)) Q E s:=by
 have hT:s.TypeIs (.ref z) "zip":=⟨_,hz,rfl⟩
 unfold pyNext
 exact wpAny_bind (wpAny_attempt (wpAny_callSpecial?_slot (name:=Str.ofString "__next__") hT F.slot_zip_next
   (wpAny_call_entry F.slot_zip_next hT F.entry_zip_next
     (bF D hz hTI hTO h1 h2 hl1 hl2 hx1 hx2 λh' a1 a2 b1 b2 a5 a6 a7=>wpAny_pure (hQ h' a1 a2 b1 b2 a5 a6 a7)) (F.args_zip_next_1 _))))
theorem MJ{z TI TO i1 i2 l1 l2:Addr}{k:Nat}{k1:Kd}{k2:Kd}{xs1 xs2:Array Value}{a1 a2:Value}{Q:Option Value->Shared->Prop}(hh:A.handled=none)(D:ZAp2 z TI TO i1 i2 l1 l2)
  (hz:IsZip s.heap z TI TO .none) (hTI:zQ s.heap TI (.ref i1) (.ref i2)) (hTO:zQ s.heap TO a1 a2)
  (h1:ItAt k1 s.heap i1 l1 k) (h2:ItAt k2 s.heap i2 l2 k) (hl1:SqAt k1 s.heap l1 xs1) (hl2:SqAt k2 s.heap l2 xs2) (hend:xs1[k]?=none\/xs2[k]?=none)
  (hQ:∀h',(∀c o,c≠z->c≠TO->c≠i1->c≠i2->s.heap.get? c=some o->h'.get? c=some o)->Q none { s with heap:=h' }):wpAny (model prog w) A (pyNext (.ref z)) Q E s:=by
 have hT:s.TypeIs (.ref z) "zip":=⟨_,hz,rfl⟩
 unfold pyNext
 refine wpAny_bind (wpAny_attempt (wpAny_callSpecial?_slot (name:=Str.ofString "__next__") hT F.slot_zip_next
   (wpAny_call_entry F.slot_zip_next hT F.entry_zip_next (Zq hh D hz hTI hTO h1 h2 hl1 hl2 hend λh' e hk he=>?_) (F.args_zip_next_1 _))))
 obtain⟨o,ho,hc⟩:=he
 refine wpAny_bind (wpAny_isInstance (T:="StopIteration") (b:=true) ⟨o,ho,hc⟩ isSubtype_stop ?_)
 exact wpAny_pure (hQ _ hk)
end
noncomputable abbrev az(h:Heap)(k1:Kd)(k2:Kd)(l1 l2:Addr):Heap:=((h.push (KQ k1 l1)).push (KQ k2 l2))
noncomputable abbrev bz(h:Heap)(k1:Kd)(k2:Kd)(l1 l2:Addr):Heap:=(az h k1 k2 l1 l2).push { cls:=.type "tuple",data:=.seq #[.ref h.objs.size,.ref (h.push (KQ k1 l1)).objs.size] }
noncomputable abbrev cz(h:Heap)(k1:Kd)(k2:Kd)(l1 l2:Addr):Heap:=(bz h k1 k2 l1 l2).push { cls:=.type "tuple",data:=.seq #[.none,.none] }
noncomputable abbrev aJ(h:Heap)(k1:Kd)(k2:Kd)(l1 l2:Addr):Heap:=(cz h k1 k2 l1 l2).push { cls:=.type "zip",data:=.fields #[.none,.bool false,.bool false,.ref (az h k1 k2 l1 l2).objs.size,.ref (bz h k1 k2 l1 l2).objs.size] }
theorem rH(k1:Kd)(k2:Kd)(l1 l2:Addr)(xs1 xs2:Array Value) :
  Meets (Builtin.«zip.__new__» ⟨[.type "zip",.ref l1,.ref l2],[]⟩) (λ_ R s=>SqAt k1 s.heap l1 xs1/\SqAt k2 s.heap l2 xs2 /\
    R (.ok (.ret (.ref (cz s.heap k1 k2 l1 l2).objs.size))) { s with heap:=aJ s.heap k1 k2 l1 l2 }) :=
 .of_wp λprog w A R s h=>by
  obtain⟨hp,g,d,tk,os⟩:=s;obtain⟨hl1,hl2,h⟩:=h
  have hsub:=sub_zip
  have hL1:SqAt k1 (Shared.heap ⟨hp,g,d,tk,os⟩) l1 xs1:=hl1
  have hL2:SqAt k2 (Shared.heap ⟨(hp.push (KQ k1 l1)),g,d,tk,os⟩) l2 xs2:=(SqAt.at hl2 λo e=>g0 _ e)
  wp_walk using yZ hL1,yZ hL2
  exact ⟨_,rfl,h⟩
noncomputable abbrev JQ(h:Heap)(T:Addr)(a1 a2 a3:Value):Prop:=h.get? T=some { cls:=.type "tuple",data:=.seq #[a1,a2,a3] }
structure ZAp3(z TI TO i1 i2 i3 l1 l2 l3:Addr):Prop where
 TIz:TI≠z
 TOz:TO≠z
 i1z:i1≠z
 i2z:i2≠z
 i3z:i3≠z
 TOTI:TO≠TI
 i1TI:i1≠TI
 i2TI:i2≠TI
 i3TI:i3≠TI
 i1TO:i1≠TO
 i2TO:i2≠TO
 i3TO:i3≠TO
 i2i1:i2≠i1
 i3i1:i3≠i1
 i3i2:i3≠i2
 l1z:l1≠z
 l1TO:l1≠TO
 l1i1:l1≠i1
 l1i2:l1≠i2
 l1i3:l1≠i3
 l2z:l2≠z
 l2TO:l2≠TO
 l2i1:l2≠i1
 l2i2:l2≠i2
 l2i3:l2≠i3
 l3z:l3≠z
 l3TO:l3≠TO
 l3i1:l3≠i1
 l3i2:l3≠i2
 l3i3:l3≠i3
theorem GN(n l1 l2 l3:Nat)(h1:l1 < n)(h2:l2 < n)(h3:l3 < n):ZAp3 (n+5) (n+3) (n+4) n (n+1) (n+2) l1 l2 l3:=by constructor<;>(show ¬(@Eq Nat _ _))<;>omega
section
variable {prog:Program}{w:World}{A:Around}{E:Value->Shared->Prop}{s:Shared}
theorem nW{T:Addr}{a1 a2 a3 x:Value}{k:Nat}{Q:Unit->Shared->Prop}(hT:JQ s.heap T a1 a2 a3)
  (h:∀h',h'.get? T=some { cls:=.type "tuple",data:=.seq ((#[a1,a2,a3]:Array Value).setIfInBounds k x) }->o5 T s.heap h'->Q () { s with heap:=h' }) :
  wpAny (model prog w) A (updateSeq T (·.setIfInBounds k x)) Q E s:=by
 refine wpAny_updateSeq hT rfl (h _ ?_ (G4 ..))
 rw[V2 _ hT rfl]
 simp[S2]
theorem cF{z TI TO i1 i2 i3 l1 l2 l3:Addr}{k:Nat}{k1:Kd}{k2:Kd}{k3:Kd}{xs1 xs2 xs3:Array Value}{a1 a2 a3:Value}{x1 x2 x3:Value}{Q:Value->Shared->Prop}(D:ZAp3 z TI TO i1 i2 i3 l1 l2 l3)
  (hz:IsZip s.heap z TI TO .none) (hTI:JQ s.heap TI (.ref i1) (.ref i2) (.ref i3)) (hTO:JQ s.heap TO a1 a2 a3)
  (h1:ItAt k1 s.heap i1 l1 k) (h2:ItAt k2 s.heap i2 l2 k) (h3:ItAt k3 s.heap i3 l3 k) (hl1:SqAt k1 s.heap l1 xs1) (hl2:SqAt k2 s.heap l2 xs2) (hl3:SqAt k3 s.heap l3 xs3) (hx1:xs1[k]?=some x1) (hx2:xs2[k]?=some x2) (hx3:xs3[k]?=some x3)
  (hQ:∀h',IsZip h' z TI TO (rawInt s.heap.objs.size)->JQ h' TO x1 x2 x3->ItAt k1 h' i1 l1 (k+1)->ItAt k2 h' i2 l2 (k+1)->ItAt k3 h' i3 l3 (k+1)->JQ h' s.heap.objs.size x1 x2 x3->h'.objs.size=s.heap.objs.size+1 ->
    (∀c o,c≠z->c≠TO->c≠i1->c≠i2->c≠i3->s.heap.get? c=some o->h'.get? c=some o)->Q (.ref s.heap.objs.size) { s with heap:=h' }) :
  wpAny (model prog w) A (Builtin.«zip.__next__» ⟨[.ref z],[]⟩) (λfin s'=>∃v,fin=.done (.ret v)/\Q v s') E s:=by
 show wpAny _ _ (field (.ref z) 2 >>= _) _ _ _
 refine wpAny_bind (wpAny_field hz rfl (x:=.bool false) rfl ?_)
 show wpAny _ _ (field (.ref z) 3 >>= _) _ _ _
 refine wpAny_bind (wpAny_field hz rfl (x:=.ref TI) rfl ?_)
 refine wpAny_bind (wpAny_seqItems hTI rfl ?_)
 show wpAny _ _ (Y0 (.ref z) >>= _) _ _ _
 refine wpAny_bind ?_
 unfold Y0
 refine wpAny_bind (wpAny_field hz rfl (x:=.none) rfl (wpAny_pure ?_))
 simp only[if_true]
 refine wpAny_bind (wpAny_rule ?_)
 refine wpAny_bind (wpAny_field hz rfl (x:=.ref TO) rfl ?_)
 refine wpAny_bind (wpAny_setField_rec hz (by simp) λh₁ hz₁ hs₁=>?_)
 replace hz₁:IsZip h₁ z TI TO .ellipsis:=hz₁
 refine wpAny_bind ?_
 simp only[j7,L7,O5,j6]
 have up₁:∀c o,c≠z->s.heap.get? c=some o->h₁.get? c=some o:=λc o c1 e=>hs₁.extBut _ _ c1 e
 refine wpAny_bind (wpAny_bind (wpAny_onRaise ?_))
 show wpAny _ _ (T0 (.ref i1) >>= _) _ _ _
 refine wpAny_bind (IQ (h1.at λo e=>hs₁.extBut _ o D.i1z e) (hl1.at λo e=>hs₁.extBut _ o D.l1z e) hx1 λha1 hi1 hsa1=>wpAny_pure ?_)
 have hTOa1:JQ ha1 TO a1 a2 a3:=hsa1.extBut _ _ D.i1TO.symm (hs₁.extBut _ _ D.TOz hTO)
 refine wpAny_bind (wpAny_seqItems hTOa1 rfl ?_)
 refine wpAny_bind (nW hTOa1 λhb1 hTOb1 hsb1=>?_)
 replace hTOb1:JQ hb1 TO x1 a2 a3:=hTOb1
 refine wpAny_bind (wpAny_letGo (wpAny_pure ?_))
 refine wpAny_bind (wpAny_bind (wpAny_onRaise ?_))
 show wpAny _ _ (T0 (.ref i2) >>= _) _ _ _
 refine wpAny_bind (IQ (((h2.at λo e=>hs₁.extBut _ o D.i2z e).at λo e=>hsa1.extBut _ o D.i2i1 e).at λo e=>hsb1.extBut _ o D.i2TO e) (((hl2.at λo e=>hs₁.extBut _ o D.l2z e).at λo e=>hsa1.extBut _ o D.l2i1 e).at λo e=>hsb1.extBut _ o D.l2TO e) hx2 λha2 hi2 hsa2=>wpAny_pure ?_)
 have hTOa2:JQ ha2 TO x1 a2 a3:=hsa2.extBut _ _ D.i2TO.symm hTOb1
 refine wpAny_bind (wpAny_seqItems hTOa2 rfl ?_)
 refine wpAny_bind (nW hTOa2 λhb2 hTOb2 hsb2=>?_)
 replace hTOb2:JQ hb2 TO x1 x2 a3:=hTOb2
 refine wpAny_bind (wpAny_letGo (wpAny_pure ?_))
 refine wpAny_bind (wpAny_bind (wpAny_onRaise ?_))
 show wpAny _ _ (T0 (.ref i3) >>= _) _ _ _
 refine wpAny_bind (IQ (((((h3.at λo e=>hs₁.extBut _ o D.i3z e).at λo e=>hsa1.extBut _ o D.i3i1 e).at λo e=>hsb1.extBut _ o D.i3TO e).at λo e=>hsa2.extBut _ o D.i3i2 e).at λo e=>hsb2.extBut _ o D.i3TO e) (((((hl3.at λo e=>hs₁.extBut _ o D.l3z e).at λo e=>hsa1.extBut _ o D.l3i1 e).at λo e=>hsb1.extBut _ o D.l3TO e).at λo e=>hsa2.extBut _ o D.l3i2 e).at λo e=>hsb2.extBut _ o D.l3TO e) hx3 λha3 hi3 hsa3=>wpAny_pure ?_)
 have hTOa3:JQ ha3 TO x1 x2 a3:=hsa3.extBut _ _ D.i3TO.symm hTOb2
 refine wpAny_bind (wpAny_seqItems hTOa3 rfl ?_)
 refine wpAny_bind (nW hTOa3 λhb3 hTOb3 hsb3=>?_)
 replace hTOb3:JQ hb3 TO x1 x2 x3:=hTOb3
 refine wpAny_bind (wpAny_letGo (wpAny_pure (wpAny_pure ?_)))
 refine wpAny_bind (wpAny_seqItems hTOb3 rfl ?_)
 refine wpAny_bind (wpAny_newTuple ?_)
 have hsz:hb3.objs.size=s.heap.objs.size:=by rw[hsb3.1,hsa3.1,hsb2.1,hsa2.1,hsb1.1,hsa1.1,hs₁.1]
 have hzG:IsZip hb3 z TI TO .ellipsis:=(hsb3.extBut _ _ D.TOz.symm (hsa3.extBut _ _ D.i3z.symm (hsb2.extBut _ _ D.TOz.symm (hsa2.extBut _ _ D.i2z.symm (hsb1.extBut _ _ D.TOz.symm (hsa1.extBut _ _ D.i1z.symm hz₁))))))
 have hkG:∀c o,c≠z->c≠TO->c≠i1->c≠i2->c≠i3->s.heap.get? c=some o->hb3.get? c=some o:=λc o c1 c2 d1 d2 d3 e=>(hsb3.extBut _ _ c2 (hsa3.extBut _ _ d3 (hsb2.extBut _ _ c2 (hsa2.extBut _ _ d2 (hsb1.extBut _ _ c2 (hsa1.extBut _ _ d1 (hs₁.extBut _ _ c1 e)))))))
 have hiG1:ItAt k1 hb3 i1 l1 (k+1):=(((((hi1.at λo e=>hsb1.extBut _ o D.i1TO e).at λo e=>hsa2.extBut _ o D.i2i1.symm e).at λo e=>hsb2.extBut _ o D.i1TO e).at λo e=>hsa3.extBut _ o D.i3i1.symm e).at λo e=>hsb3.extBut _ o D.i1TO e)
 have hiG2:ItAt k2 hb3 i2 l2 (k+1):=(((hi2.at λo e=>hsb2.extBut _ o D.i2TO e).at λo e=>hsa3.extBut _ o D.i3i2.symm e).at λo e=>hsb3.extBut _ o D.i2TO e)
 have hiG3:ItAt k3 hb3 i3 l3 (k+1):=(hi3.at λo e=>hsb3.extBut _ o D.i3TO e)
 have hzlt:z < hb3.objs.size:=B0 hzG
 show wpAny _ _ (Y3 (.ref z) (.ref hb3.objs.size) >>= _) _ _ _
 refine wpAny_bind ?_
 unfold Y3
 have hz₆:IsZip (hb3.push { cls:=.type "tuple",data:=.seq #[x1,x2,x3] }) z TI TO .ellipsis:=g0 _ hzG
 refine wpAny_bind (wpAny_setField_rec hz₆ (by simp) λh₇ hz₇ hs₇=>?_)
 replace hz₇:IsZip h₇ z TI TO (rawInt hb3.objs.size):=hz₇
 refine wpAny_setField_rec hz₇ (by simp) λh₈ hz₈ hs₈=>?_
 replace hz₈:IsZip h₈ z TI TO (rawInt hb3.objs.size):=hz₈
 have up:∀c o,c≠z->hb3.get? c=some o->h₈.get? c=some o:=λc o c1 e=>hs₈.extBut _ _ c1 (hs₇.extBut _ _ c1 (g0 _ e))
 have hT₈:JQ h₈ hb3.objs.size x1 x2 x3:=hs₈.extBut _ _ (J1 hzlt) (hs₇.extBut _ _ (J1 hzlt) (J0 _ rfl))
 have hz8:h₈.objs.size=hb3.objs.size+1:=by rw[hs₈.1,hs₇.1,W1]
 rw[hsz]at hz₈ hT₈ hz8
 refine wpAny_pure ⟨_,rfl,?_⟩
 show Q (.ref hb3.objs.size) _
 rw[hsz]
 exact hQ h₈ hz₈ (up _ _ D.TOz hTOb3) (hiG1.at λo e=>up _ o D.i1z e) (hiG2.at λo e=>up _ o D.i2z e) (hiG3.at λo e=>up _ o D.i3z e) hT₈ hz8 λc o c1 c2 d1 d2 d3 e=>up c o c1 (hkG c o c1 c2 d1 d2 d3 e)
theorem dz{z TI TO i1 i2 i3 l1 l2 l3:Addr}{k:Nat}{k1:Kd}{k2:Kd}{k3:Kd}{xs1 xs2 xs3:Array Value}{a1 a2 a3:Value}{Q:Fin->Shared->Prop}(hh:A.handled=none)(D:ZAp3 z TI TO i1 i2 i3 l1 l2 l3)
  (hz:IsZip s.heap z TI TO .none) (hTI:JQ s.heap TI (.ref i1) (.ref i2) (.ref i3)) (hTO:JQ s.heap TO a1 a2 a3)
  (h1:ItAt k1 s.heap i1 l1 k) (h2:ItAt k2 s.heap i2 l2 k) (h3:ItAt k3 s.heap i3 l3 k) (hl1:SqAt k1 s.heap l1 xs1) (hl2:SqAt k2 s.heap l2 xs2) (hl3:SqAt k3 s.heap l3 xs3) (hend:xs1[k]?=none\/xs2[k]?=none\/xs3[k]?=none)
  (hE:∀h' e,(∀c o,c≠z->c≠TO->c≠i1->c≠i2->c≠i3->s.heap.get? c=some o->h'.get? c=some o)->(∃o,h'.get? e=some o/\o.cls=.type "StopIteration")->E (.ref e) { s with heap:=h' }) :
  wpAny (model prog w) A (Builtin.«zip.__next__» ⟨[.ref z],[]⟩) Q E s:=by
 show wpAny _ _ (field (.ref z) 2 >>= _) _ _ _
 refine wpAny_bind (wpAny_field hz rfl (x:=.bool false) rfl ?_)
 show wpAny _ _ (field (.ref z) 3 >>= _) _ _ _
 refine wpAny_bind (wpAny_field hz rfl (x:=.ref TI) rfl ?_)
 refine wpAny_bind (wpAny_seqItems hTI rfl ?_)
 show wpAny _ _ (Y0 (.ref z) >>= _) _ _ _
 refine wpAny_bind ?_
 unfold Y0
 refine wpAny_bind (wpAny_field hz rfl (x:=.none) rfl (wpAny_pure ?_))
 simp only[if_true]
 refine wpAny_bind (wpAny_rule ?_)
 refine wpAny_bind (wpAny_field hz rfl (x:=.ref TO) rfl ?_)
 refine wpAny_bind (wpAny_setField_rec hz (by simp) λh₁ hz₁ hs₁=>?_)
 replace hz₁:IsZip h₁ z TI TO .ellipsis:=hz₁
 refine wpAny_bind ?_
 simp only[j7,L7,O5,j6]
 refine wpAny_bind (wpAny_bind (wpAny_onRaise ?_))
 show wpAny _ _ (T0 (.ref i1) >>= _) _ _ _
 cases hx1:xs1[k]? with
 | none =>
  refine wpAny_bind (kX hh (h1.at λo e=>hs₁.extBut _ o D.i1z e) (hl1.at λo e=>hs₁.extBut _ o D.l1z e) hx1 λhq e hsq he=>?_)
  obtain⟨oe,hoe,hce⟩:=he
  have hzq:IsZip hq z TI TO .ellipsis:=hsq _ _ D.i1z.symm hz₁
  have hez:e≠z:=λx=>by subst x;rw[hzq]at hoe;cases hoe;simp at hce
  refine wpAny_setField_rec hzq (by simp) λh₉ _ hs₉=>hE h₉ e (λc o c1 c2 d1 d2 d3 x=>hs₉.extBut _ _ c1 (hsq _ _ d1 (hs₁.extBut _ _ c1 x))) ⟨oe,hs₉.extBut _ _ hez hoe,hce⟩
 | some x1 =>
  refine wpAny_bind (IQ (h1.at λo e=>hs₁.extBut _ o D.i1z e) (hl1.at λo e=>hs₁.extBut _ o D.l1z e) hx1 λha1 hi1 hsa1=>wpAny_pure ?_)
  have hTOa1:JQ ha1 TO a1 a2 a3:=hsa1.extBut _ _ D.i1TO.symm (hs₁.extBut _ _ D.TOz hTO)
  refine wpAny_bind (wpAny_seqItems hTOa1 rfl ?_)
  refine wpAny_bind (nW hTOa1 λhb1 hTOb1 hsb1=>?_)
  replace hTOb1:JQ hb1 TO x1 a2 a3:=hTOb1
  refine wpAny_bind (wpAny_letGo (wpAny_pure ?_))
  refine wpAny_bind (wpAny_bind (wpAny_onRaise ?_))
  show wpAny _ _ (T0 (.ref i2) >>= _) _ _ _
  cases hx2:xs2[k]? with
  | none =>
   refine wpAny_bind (kX hh (((h2.at λo e=>hs₁.extBut _ o D.i2z e).at λo e=>hsa1.extBut _ o D.i2i1 e).at λo e=>hsb1.extBut _ o D.i2TO e) (((hl2.at λo e=>hs₁.extBut _ o D.l2z e).at λo e=>hsa1.extBut _ o D.l2i1 e).at λo e=>hsb1.extBut _ o D.l2TO e) hx2 λhq e hsq he=>?_)
   obtain⟨oe,hoe,hce⟩:=he
   have hzq:IsZip hq z TI TO .ellipsis:=hsq _ _ D.i2z.symm (hsb1.extBut _ _ D.TOz.symm (hsa1.extBut _ _ D.i1z.symm hz₁))
   have hez:e≠z:=λx=>by subst x;rw[hzq]at hoe;cases hoe;simp at hce
   refine wpAny_setField_rec hzq (by simp) λh₉ _ hs₉=>hE h₉ e (λc o c1 c2 d1 d2 d3 x=>hs₉.extBut _ _ c1 (hsq _ _ d2 (hsb1.extBut _ _ c2 (hsa1.extBut _ _ d1 (hs₁.extBut _ _ c1 x))))) ⟨oe,hs₉.extBut _ _ hez hoe,hce⟩
  | some x2 =>
   refine wpAny_bind (IQ (((h2.at λo e=>hs₁.extBut _ o D.i2z e).at λo e=>hsa1.extBut _ o D.i2i1 e).at λo e=>hsb1.extBut _ o D.i2TO e) (((hl2.at λo e=>hs₁.extBut _ o D.l2z e).at λo e=>hsa1.extBut _ o D.l2i1 e).at λo e=>hsb1.extBut _ o D.l2TO e) hx2 λha2 hi2 hsa2=>wpAny_pure ?_)
   have hTOa2:JQ ha2 TO x1 a2 a3:=hsa2.extBut _ _ D.i2TO.symm hTOb1
   refine wpAny_bind (wpAny_seqItems hTOa2 rfl ?_)
   refine wpAny_bind (nW hTOa2 λhb2 hTOb2 hsb2=>?_)
   replace hTOb2:JQ hb2 TO x1 x2 a3:=hTOb2
   refine wpAny_bind (wpAny_letGo (wpAny_pure ?_))
   refine wpAny_bind (wpAny_bind (wpAny_onRaise ?_))
   show wpAny _ _ (T0 (.ref i3) >>= _) _ _ _
   have hx3:xs3[k]?=none:=by
    rcases hend with h|h|h
    ·rw[hx1]at h;cases h
    ·rw[hx2]at h;cases h
    ·exact h
   refine wpAny_bind (kX hh (((((h3.at λo e=>hs₁.extBut _ o D.i3z e).at λo e=>hsa1.extBut _ o D.i3i1 e).at λo e=>hsb1.extBut _ o D.i3TO e).at λo e=>hsa2.extBut _ o D.i3i2 e).at λo e=>hsb2.extBut _ o D.i3TO e) (((((hl3.at λo e=>hs₁.extBut _ o D.l3z e).at λo e=>hsa1.extBut _ o D.l3i1 e).at λo e=>hsb1.extBut _ o D.l3TO e).at λo e=>hsa2.extBut _ o D.l3i2 e).at λo e=>hsb2.extBut _ o D.l3TO e) hx3 λhq e hsq he=>?_)
   obtain⟨oe,hoe,hce⟩:=he
   have hzq:IsZip hq z TI TO .ellipsis:=hsq _ _ D.i3z.symm (hsb2.extBut _ _ D.TOz.symm (hsa2.extBut _ _ D.i2z.symm (hsb1.extBut _ _ D.TOz.symm (hsa1.extBut _ _ D.i1z.symm hz₁))))
   have hez:e≠z:=λx=>by subst x;rw[hzq]at hoe;cases hoe;simp at hce
   refine wpAny_setField_rec hzq (by simp) λh₉ _ hs₉=>hE h₉ e (λc o c1 c2 d1 d2 d3 x=>hs₉.extBut _ _ c1 (hsq _ _ d3 (hsb2.extBut _ _ c2 (hsa2.extBut _ _ d2 (hsb1.extBut _ _ c2 (hsa1.extBut _ _ d1 (hs₁.extBut _ _ c1 x))))))) ⟨oe,hs₉.extBut _ _ hez hoe,hce⟩
theorem oW{z TI TO i1 i2 i3 l1 l2 l3:Addr}{k:Nat}{k1:Kd}{k2:Kd}{k3:Kd}{xs1 xs2 xs3:Array Value}{a1 a2 a3:Value}{x1 x2 x3:Value}{Q:Option Value->Shared->Prop}(D:ZAp3 z TI TO i1 i2 i3 l1 l2 l3)
  (hz:IsZip s.heap z TI TO .none) (hTI:JQ s.heap TI (.ref i1) (.ref i2) (.ref i3)) (hTO:JQ s.heap TO a1 a2 a3)
  (h1:ItAt k1 s.heap i1 l1 k) (h2:ItAt k2 s.heap i2 l2 k) (h3:ItAt k3 s.heap i3 l3 k) (hl1:SqAt k1 s.heap l1 xs1) (hl2:SqAt k2 s.heap l2 xs2) (hl3:SqAt k3 s.heap l3 xs3) (hx1:xs1[k]?=some x1) (hx2:xs2[k]?=some x2) (hx3:xs3[k]?=some x3)
  (hQ:∀h',IsZip h' z TI TO (rawInt s.heap.objs.size)->JQ h' TO x1 x2 x3->ItAt k1 h' i1 l1 (k+1)->ItAt k2 h' i2 l2 (k+1)->ItAt k3 h' i3 l3 (k+1)->JQ h' s.heap.objs.size x1 x2 x3->h'.objs.size=s.heap.objs.size+1 ->
    (∀c o,c≠z->c≠TO->c≠i1->c≠i2->c≠i3->s.heap.get? c=some o->h'.get? c=some o)->Q (some (.ref s.heap.objs.size)) { s with heap:=h' }) :
  wpAny (model prog w) A (pyNext (.ref z)) Q E s:=by
 have hT:s.TypeIs (.ref z) "zip":=⟨_,hz,rfl⟩
 unfold pyNext
 exact wpAny_bind (wpAny_attempt (wpAny_callSpecial?_slot (name:=Str.ofString "__next__") hT F.slot_zip_next
   (wpAny_call_entry F.slot_zip_next hT F.entry_zip_next
     (cF D hz hTI hTO h1 h2 h3 hl1 hl2 hl3 hx1 hx2 hx3 λh' a1 a2 b1 b2 b3 a5 a6 a7=>wpAny_pure (hQ h' a1 a2 b1 b2 b3 a5 a6 a7)) (F.args_zip_next_1 _))))
theorem jV{z TI TO i1 i2 i3 l1 l2 l3:Addr}{k:Nat}{k1:Kd}{k2:Kd}{k3:Kd}{xs1 xs2 xs3:Array Value}{a1 a2 a3:Value}{Q:Option Value->Shared->Prop}(hh:A.handled=none)(D:ZAp3 z TI TO i1 i2 i3 l1 l2 l3)
  (hz:IsZip s.heap z TI TO .none) (hTI:JQ s.heap TI (.ref i1) (.ref i2) (.ref i3)) (hTO:JQ s.heap TO a1 a2 a3)
  (h1:ItAt k1 s.heap i1 l1 k) (h2:ItAt k2 s.heap i2 l2 k) (h3:ItAt k3 s.heap i3 l3 k) (hl1:SqAt k1 s.heap l1 xs1) (hl2:SqAt k2 s.heap l2 xs2) (hl3:SqAt k3 s.heap l3 xs3) (hend:xs1[k]?=none\/xs2[k]?=none\/xs3[k]?=none)
  (hQ:∀h',(∀c o,c≠z->c≠TO->c≠i1->c≠i2->c≠i3->s.heap.get? c=some o->h'.get? c=some o)->Q none { s with heap:=h' }):wpAny (model prog w) A (pyNext (.ref z)) Q E s:=by
 have hT:s.TypeIs (.ref z) "zip":=⟨_,hz,rfl⟩
 unfold pyNext
 refine wpAny_bind (wpAny_attempt (wpAny_callSpecial?_slot (name:=Str.ofString "__next__") hT F.slot_zip_next
   (wpAny_call_entry F.slot_zip_next hT F.entry_zip_next (dz hh D hz hTI hTO h1 h2 h3 hl1 hl2 hl3 hend λh' e hk he=>?_) (F.args_zip_next_1 _))))
 obtain⟨o,ho,hc⟩:=he
 refine wpAny_bind (wpAny_isInstance (T:="StopIteration") (b:=true) ⟨o,ho,hc⟩ isSubtype_stop ?_)
 exact wpAny_pure (hQ _ hk)
end
noncomputable abbrev Jv(h:Heap)(k1:Kd)(k2:Kd)(k3:Kd)(l1 l2 l3:Addr):Heap:=(((h.push (KQ k1 l1)).push (KQ k2 l2)).push (KQ k3 l3))
noncomputable abbrev Kv(h:Heap)(k1:Kd)(k2:Kd)(k3:Kd)(l1 l2 l3:Addr):Heap:=(Jv h k1 k2 k3 l1 l2 l3).push { cls:=.type "tuple",data:=.seq #[.ref h.objs.size,.ref (h.push (KQ k1 l1)).objs.size,.ref ((h.push (KQ k1 l1)).push (KQ k2 l2)).objs.size] }
noncomputable abbrev Lv(h:Heap)(k1:Kd)(k2:Kd)(k3:Kd)(l1 l2 l3:Addr):Heap:=(Kv h k1 k2 k3 l1 l2 l3).push { cls:=.type "tuple",data:=.seq #[.none,.none,.none] }
noncomputable abbrev sU(h:Heap)(k1:Kd)(k2:Kd)(k3:Kd)(l1 l2 l3:Addr):Heap:=(Lv h k1 k2 k3 l1 l2 l3).push { cls:=.type "zip",data:=.fields #[.none,.bool false,.bool false,.ref (Jv h k1 k2 k3 l1 l2 l3).objs.size,.ref (Kv h k1 k2 k3 l1 l2 l3).objs.size] }
theorem Nj(k1:Kd)(k2:Kd)(k3:Kd)(l1 l2 l3:Addr)(xs1 xs2 xs3:Array Value) :
  Meets (Builtin.«zip.__new__» ⟨[.type "zip",.ref l1,.ref l2,.ref l3],[]⟩) (λ_ R s=>SqAt k1 s.heap l1 xs1/\SqAt k2 s.heap l2 xs2/\SqAt k3 s.heap l3 xs3 /\
    R (.ok (.ret (.ref (Lv s.heap k1 k2 k3 l1 l2 l3).objs.size))) { s with heap:=sU s.heap k1 k2 k3 l1 l2 l3 }) :=
 .of_wp λprog w A R s h=>by
  obtain⟨hp,g,d,tk,os⟩:=s;obtain⟨hl1,hl2,hl3,h⟩:=h
  have hsub:=sub_zip
  have hL1:SqAt k1 (Shared.heap ⟨hp,g,d,tk,os⟩) l1 xs1:=hl1
  have hL2:SqAt k2 (Shared.heap ⟨(hp.push (KQ k1 l1)),g,d,tk,os⟩) l2 xs2:=(SqAt.at hl2 λo e=>g0 _ e)
  have hL3:SqAt k3 (Shared.heap ⟨((hp.push (KQ k1 l1)).push (KQ k2 l2)),g,d,tk,os⟩) l3 xs3:=(SqAt.at (SqAt.at hl3 λo e=>g0 _ e) λo e=>g0 _ e)
  wp_walk using yZ hL1,yZ hL2,yZ hL3
  exact ⟨_,rfl,h⟩
inductive Ki where|non|bl|int|str|lst|tup|dct
 deriving DecidableEq
noncomputable def Ki.nm:Ki->String
 | .non=>"NoneType" | .bl=>"bool" | .int=>"int" | .str=>"str" | .lst=>"list" | .tup=>"tuple" | .dct=>"dict"
noncomputable def KiOf(K:q0)(H:Hp):V->Ki->Prop
 | .non,k=>k=.non
 | .bl _,k=>k=.bl
 | .int _,k=>k=.int
 | .str _,k=>k=.str
 | .ref a,k=>(k=.lst/\∃xs,SqL K H a xs)\/(k=.tup/\∃xs,SqT K H a xs)\/(k=.dct/\((∃kvs,H a=some (.dK kvs))\/∃kvs,H a=some (.dT kvs)))
 | _,_=>False
noncomputable def Ki.sub:Ki->Ki->Bool
 | .bl,.int=>true
 | a,b=>decide (a=b)
theorem KiOf.typeIs{X:Cx}{pins:List (Addr×Obj)}{σ:St}{H:Hp}{s:Shared}{x:V}{u:Value}{k:Ki}(I:Inv X pins σ H s)(h:KiOf X.K H x k)(r:RelV x u):s.TypeIs u k.nm:=by
 cases x with
 | non=>cases h;cases r;rfl
 | bl b=>cases h;cases r;rfl
 | int i=>cases h;obtain⟨t,rfl⟩:=r;rfl
 | str i=>cases h;obtain⟨t,rfl⟩:=r;rfl
 | ref a =>
  cases r
  rcases h with⟨rfl,xs,hq⟩|⟨rfl,xs,hq⟩|⟨rfl,⟨kvs,hq⟩|⟨kvs,hq⟩⟩
  ·obtain⟨its,_,⟨o,n,e,c,_⟩,_⟩:=I.list hq
   exact ⟨o,e,c⟩
  ·obtain⟨its,_,⟨o,e,c,_⟩,_⟩:=I.tuple hq
   exact ⟨o,e,c⟩
  ·obtain⟨_,_,_,_,o,es,ep,e,c,_⟩:=I.hok a _ hq
   exact ⟨o,e,c.1⟩
  ·obtain⟨_,_,_,_,o,es,ep,e,c,_⟩:=I.hok a _ hq
   exact ⟨o,e,c.1⟩
 | byt _=>cases h
 | flt _=>cases h
 | ty _=>cases h
theorem AZ(T:Ki):typeOf (.type T.nm)=pure (.type "type"):=by
 cases T
 ·exact F.isi_meta_NoneType
 ·exact F.isi_meta_bool
 ·exact F.isi_meta_int
 ·exact F.isi_meta_str
 ·exact F.isi_meta_list
 ·exact F.isi_meta_tuple
 ·exact F.isi_meta_dict
theorem Oj(k T:Ki):isSubtype (.type k.nm) (.type T.nm)=pure (k.sub T):=by
 cases k<;>cases T<;>(show isSubtype (.type _) (.type _)=pure _;rw[isSubtype_type];kernel_rfl)
theorem YI(k T:Ki)(h:k.sub T=false):(G6 k.nm==G6 T.nm)=false:=by
 cases k<;>cases T<;>first|(exfalso;revert h;decide)|decide +kernel
noncomputable def iz(K:q0):List V->Hp->VK->Prop:=λxs H Q=>∃(x:V) (k:Ki) (T:Ki),xs=[x,.ty T.nm]/\KiOf K H x k/\Q (.bl (k.sub T)) H
theorem Pj{X:Cx}:hX X (.builtin "isinstance") (iz X.K):=by
 intro pins s σ H xs us Q I r h
 obtain⟨x,k,T,rfl,hk,q⟩:=h
 obtain⟨u,w',rfl,ru,rw'⟩:=KJ r
 obtain rfl:w'=.type T.nm:=rw'
 have ht:=hk.typeIs I ru
 cases hs:k.sub T with
 | true =>
  rw[hs]at q
  exact call_isinstance (isinstance_true (Tx:=k.nm) (AZ T) (by rw[Oj,hs])) ⟨ht,.bl true,H,I,rfl,q⟩
 | false =>
  rw[hs]at q
  have hsub:isSubtype (.type k.nm) (.type T.nm)=pure false:=by rw[Oj,hs]
  have hne:=YI k T hs
  have fin:EP X pins σ Q (.bool false) { s with toks:=s.toks+1 }:=⟨.bl false,H,I.tok _,rfl,q⟩
  cases x with
  | non=>cases hk;cases ru;exact call_isinstance (isinstance_false_none hne (AZ T) hsub) fin
  | bl b=>cases hk;cases ru;exact call_isinstance (isinstance_false_bool hne (AZ T) hsub) fin
  | int i=>cases hk;obtain⟨t,rfl⟩:=ru;exact call_isinstance (isinstance_false_int hne (AZ T) hsub) fin
  | str i=>cases hk;obtain⟨t,rfl⟩:=ru;exact call_isinstance (isinstance_false_str hne (AZ T) hsub) fin
  | ref a =>
   cases ru
   rcases hk with⟨rfl,_⟩|⟨rfl,_⟩|⟨rfl,_⟩
   ·exact call_isinstance (isinstance_false_list hne (AZ T) hsub) ⟨ht,fin⟩
   ·exact call_isinstance (isinstance_false_tuple hne (AZ T) hsub) ⟨ht,fin⟩
   ·exact call_isinstance (isinstance_false_dict hne (AZ T) hsub) ⟨ht,fin⟩
  | byt _=>cases hk
  | flt _=>cases hk
  | ty _=>cases hk
noncomputable def bC(K:q0):List V->Hp->VK->Prop:=λxs H Q=>∃(a:Addr) (bs:List Bool),xs=[.ref a]/\SqL K H a (bs.map V.bl)/\Q (.bl (bs.all id)) H
theorem sH{bs:List Bool}{us:List Value}(r:Vals (bs.map V.bl) us)(i:Nat)(v:Value)(h:us[i]?=some v):∃b,bs[i]?=some b/\v=.bool b:=by
 cases e:bs[i]? with
 | none =>
  have h1:(bs.map V.bl)[i]?=none:=by rw[X0,e];rfl
  rw[r.none_of h1]at h
  cases h
 | some b =>
  obtain⟨u,hu,ru⟩:=r.get (i:=i) (x:=.bl b) (by rw[X0,e];rfl)
  rw[hu]at h
  cases h
  exact ⟨b,rfl,ru⟩
theorem tU(bs:List Bool):((V0 bs.length).all λi=>(bs[i]?).getD true)=bs.all id:=by
 rw[N5,o6,o6]
 constructor
 ·intro h b hb
  obtain⟨i,hi,e⟩:=W8.mp hb
  have:=h i (B3.mpr hi)
  rw[L0 hi,T3,e]at this
  exact this
 ·intro h i hi
  have hi:=B3.mp hi
  rw[L0 hi,T3]
  exact h _ (Q4 hi)
theorem Qj{X:Cx}(hc:X.calm=true):hX X (.builtin "all") (bC X.K):=by
 intro pins s σ H xs us Q I r h
 obtain⟨a,bs,rfl,hq,q⟩:=h
 obtain⟨u,rfl,ru⟩:=VZ r
 cases ru
 obtain⟨its,rv,p,hz⟩:=I.list hq
 have hl:=p.isList
 have hlt:a < s.heap.objs.size:=by obtain⟨_,e,_⟩:=hl;exact B0 e
 refine call_all_walk (wpAny_pyIter_list hl ?_)
 refine ⟨s.heap.objs.size,[s.heap.objs.size,a],[s.heap.objs.size],its.toArray.size,_,_,λi=>(bs[i]?).getD true,rfl,Walks.list (A:=X.A.in1) (I.ok.hd hc) _ a (R0 hlt) its.toArray,
   ⟨⟨_,J0 _ rfl,rfl,rfl⟩,hl.push _⟩,λi v s' Q' E' hP hQ=>?_,λh' tk hk=>?_⟩
 ·obtain⟨b,e,rfl⟩:=sH rv i v (by simpa using hP)
  simp only[e,T3]at hQ
  exact wpAny_truthy_bool hQ
 ·have e:((V0 its.toArray.size).all λi=>(bs[i]?).getD true)=bs.all id:=by
   have hl2:=rv.length
   rw[i0]at hl2
   rw[Q0,<- hl2];exact tU bs
  rw[e]
  refine ⟨.bl (bs.all id),H,I.kept (h':=h') (t':=tk) λb o eo=>hk b o (λhm=>?_) (g0 _ eo),rfl,q⟩
  rw[K2.mp hm]at eo
  exact A3 _ (B0 eo)
noncomputable def Sq(k:Kd)(K:q0)(H:Hp)(a:Addr)(xs:List V):Prop:=match k with | .l=>SqL K H a xs | .t=>SqT K H a xs
theorem Inv.sq{X:Cx}{pins:List (Addr×Obj)}{σ:St}{H:Hp}{s:Shared}{k:Kd}{a:Addr}{xs:List V}(I:Inv X pins σ H s)(h:Sq k X.K H a xs):∃its:List Value,Vals xs its/\SqAt k s.heap a its.toArray/\xs.length<=sizeLine:=by
 cases k with
 | l=>obtain⟨its,r,p,z⟩:=I.list h;exact ⟨its,r,p.isList,z⟩
 | t=>obtain⟨its,r,p,z⟩:=I.tuple h;exact ⟨its,r,p,z⟩
theorem Inv.sq_inj{X:Cx}{pins:List (Addr×Obj)}{σ:St}{H:Hp}{s:Shared}{k:Kd}{a:Addr}{xs ys:List V}(I:Inv X pins σ H s)(h:Sq k X.K H a xs)(h':Sq k X.K H a ys):xs=ys:=by
 cases k with
 | l=>exact I.list_inj h h'
 | t=>exact I.tuple_inj h h'
noncomputable def cC(K:q0)(k1:Kd)(k2:Kd)(l1 l2:Addr):It :=
 ⟨λi H=>∃ys1 x1 ys2 x2,Sq k1 K H l1 ys1/\Sq k2 K H l2 ys2/\ys1[i]?=some x1/\ys2[i]?=some x2,
  λi H x H'=>∃T x1 x2,H T=none/\x=.ref T/\H'=HQ H T (.tup [x1,x2])/\(∀ys,Sq k1 K H l1 ys->ys[i]?=some x1)/\(∀ys,Sq k2 K H l2 ys->ys[i]?=some x2),
  λi H=>∃ys1 ys2,Sq k1 K H l1 ys1/\Sq k2 K H l2 ys2/\(ys1.length<=i\/ys2.length<=i)⟩
theorem jz{P:Program}{w:World}{K:q0}{es:List Expr}{kk:Nat}{pos:Pos}(k1:Kd)(k2:Kd)(z TI TO i1 i2 l1 l2:Addr)(D:ZAp2 z TI TO i1 i2 l1 l2):Turn P w K (.Tuple es kk pos) (cC K k1 k2 l1 l2) [z,TI,TO,i1,i2] z
  (λi h=>IsZip h z TI TO .none/\zQ h TI (.ref i1) (.ref i2)/\(∃a1 a2,zQ h TO a1 a2)/\ItAt k1 h i1 l1 i/\ItAt k2 h i2 l2 i) where
 mem:=by simp
 obj:=λi h st b hb=>by
  obtain⟨hz,hTI,⟨a1,a2,hTO⟩,t1,t2⟩:=st
  have hb:b=z\/b=TI\/b=TO\/b=i1\/b=i2:=by simpa using hb
  rcases hb with rfl|rfl|rfl|rfl|rfl
  ·exact ⟨_,hz,λv e=>by cases e⟩
  ·exact ⟨_,hTI,λv e=>by cases e⟩
  ·exact ⟨_,hTO,λv e=>by cases e⟩
  ·exact t1.obj
  ·exact t2.obj
 keep:=λi h h' st k=>by
  obtain⟨hz,hTI,⟨a1,a2,hTO⟩,t1,t2⟩:=st
  exact ⟨k _ (by simp) _ hz,k _ (by simp) _ hTI,⟨a1,a2,k _ (by simp) _ hTO⟩,t1.at λo e=>k _ (by simp) _ e,t2.at λo e=>k _ (by simp) _ e⟩
 item:=by
  intro X hP hw hK hc i pins s σ H E I hf st hg
  subst hP hw hK
  obtain⟨hz,hTI,⟨a1,a2,hTO⟩,t1,t2⟩:=st
  obtain⟨ys1,x1,ys2,x2,q1,q2,e1,e2⟩:=hg
  obtain⟨its1,rv1,p1,z1⟩:=I.sq q1
  obtain⟨u1,hu1,ru1⟩:=rv1.get e1
  obtain⟨its2,rv2,p2,z2⟩:=I.sq q2
  obtain⟨u2,hu2,ru2⟩:=rv2.get e2
  refine lJ D hz hTI hTO t1 t2 p1 p2 (show its1.toArray[i]?=some u1 by simpa using hu1) (show its2.toArray[i]?=some u2 by simpa using hu2) λh' b1 b2 c1 c2 b5 b6 b7=>?_
  have hTn:s.heap.objs.size≠z:=J1 (B0 hz)
  refine ⟨_,rfl,wpAny_letOwnedTupleGo_zip (s:={ s with heap:=h' }) b1 λh2 hz2 hs2=>?_⟩
  have kp:∀b o,b∉[z,TI,TO,i1,i2]->s.heap.get? b=some o->h2.get? b=some o:=λb o hb e=>by
   have hb:b≠z/\b≠TI/\b≠TO/\b≠i1/\b≠i2:=by simpa using hb
   obtain⟨g1,g2,g3,f1,f2⟩:=hb
   exact hs2.extBut _ _ g1 (b7 b o g1 g3 f1 f2 e)
  have hTI2:zQ h2 TI (.ref i1) (.ref i2):=hs2.extBut _ _ D.TIz (b7 TI _ D.TIz (L1 D.TOTI) (L1 D.i1TI) (L1 D.i2TI) hTI)
  have hT2:zQ h2 s.heap.objs.size u1 u2:=hs2.extBut _ _ hTn b5
  have hfr:H s.heap.objs.size=none:=I.hok.fresh (G0 _)
  have I2:Inv X pins σ (HQ H s.heap.objs.size (.tup [x1,x2])) { s with heap:=h2 }:=by
   have nfp:∀b u,H b=some u->b∉[z,TI,TO,i1,i2]:=λb u e hb=>by have:=(hf b hb).1;rw[e]at this;cases this
   refine I.step (g':=s.gens) (d':=s.drawn) (ch:=[z,TI,TO,i1,i2]) (λb hb=>?_) (λb o _ _ hc' e _=>kp b o hc' e) (λb o _ _ hc' e _=>⟨o.slots,kp b o hc' e⟩) (λb o _ e n=>?_)
    (λb o hc' e=>⟨o,kp b o hc' e⟩) (λb xs e=>?_) (λb o xs e=>?_) (λb ps e=>⟨#[],?_⟩) (λm hm=>?_) (λb o e=>?_) I.bare
   ·obtain⟨f0,f1,f2,f3,f4,f5⟩:=hf b hb
    exact ⟨f3,f1,f4,f5⟩
   ·rw[cQ (R0 (B0 e))];exact n
   ·rw[cQ (jQ e hfr)];exact e
   ·rw[cQ (jQ e hfr)];exact e
   ·rw[cQ (jQ e hfr),e];simp
   ·obtain⟨o,es',ep,ho,r⟩:=hm
    exact ⟨o,es',ep,kp _ o (λhb=>(hf _ hb).2.1 rfl) ho,r⟩
   ·by_cases hb:b=s.heap.objs.size
    ·subst hb
     rw[iQ]at e
     cases e
     exact ⟨by show 2<=sizeLine;decide,[u1,u2],.cons ru1 (.cons ru2 .nil),_,hT2,rfl,_,rfl,rfl⟩
    ·rw[cQ hb]at e
     refine (I.hok b o e).stay (λc v hc' q=>kp c v ?_ q) (λc q=>by rw[cQ (jQ q hfr)];exact q) λc xs q=>by rw[cQ (jQ q hfr)];exact q
     rcases hc' with rfl|hc'
     ·exact nfp _ _ e
     ·exact nfp _ _ hc'
  refine ⟨.ref s.heap.objs.size,_,I2,rfl,⟨_,x1,x2,hfr,rfl,rfl,(λys hy=>by rw[I.sq_inj hy q1];exact e1),(λys hy=>by rw[I.sq_inj hy q2];exact e2)⟩,⟨hz2,hTI2,⟨u1,u2,hs2.extBut _ _ D.TOz b2⟩,c1.at λo e=>hs2.extBut _ _ D.i1z e,c2.at λo e=>hs2.extBut _ _ D.i2z e⟩,λb hb=>?_⟩
  rw[cQ ?_]
  ·exact (hf b hb).1
  ·intro e
   subst e
   have hb:s.heap.objs.size=z\/s.heap.objs.size=TI\/s.heap.objs.size=TO\/s.heap.objs.size=i1\/s.heap.objs.size=i2:=by simpa using hb
   rcases hb with e|e|e|e|e
   ·exact hTn e
   ·exact J1 (B0 hTI) e
   ·exact J1 (B0 hTO) e
   ·obtain⟨o,eo,_⟩:=t1.obj
    exact J1 (B0 eo) e
   ·obtain⟨o,eo,_⟩:=t2.obj
    exact J1 (B0 eo) e
 done:=by
  intro X hP hw hK hc i pins s σ H E I hf st hg
  subst hP hw hK
  obtain⟨hz,hTI,⟨a1,a2,hTO⟩,t1,t2⟩:=st
  obtain⟨ys1,ys2,q1,q2,hend⟩:=hg
  obtain⟨its1,rv1,p1,z1⟩:=I.sq q1
  have len1:=rv1.length
  obtain⟨its2,rv2,p2,z2⟩:=I.sq q2
  have len2:=rv2.length
  refine MJ (I.ok.hd hc) D hz hTI hTO t1 t2 p1 p2 ?_ λh' kp=>⟨rfl,?_⟩
  ·rcases hend with h|h
   ·exact .inl (by simp;omega)
   ·exact .inr (by simp;omega)
  ·have nfp:∀b u,H b=some u->b∉[z,TI,TO,i1,i2]:=λb u e hb=>by have:=(hf b hb).1;rw[e]at this;cases this
   have kp':∀b o,b∉[z,TI,TO,i1,i2]->s.heap.get? b=some o->h'.get? b=some o:=λb o hb e=>by
    have hb:b≠z/\b≠TI/\b≠TO/\b≠i1/\b≠i2:=by simpa using hb
    obtain⟨g1,g2,g3,f1,f2⟩:=hb
    exact kp b o g1 g3 f1 f2 e
   refine I.step (g':=s.gens) (d':=s.drawn) (ch:=[z,TI,TO,i1,i2]) (λb hb=>?_) (λb o _ _ hc' e _=>kp' b o hc' e) (λb o _ _ hc' e _=>⟨o.slots,kp' b o hc' e⟩) (λb o _ e n=>n)
    (λb o hc' e=>⟨o,kp' b o hc' e⟩) (λb xs e=>e) (λb o xs e=>e) (λb ps e=>⟨#[],by rw[e];simp⟩) (λm hm=>?_) (λb o e=>?_) I.bare
   ·obtain⟨f0,f1,f2,f3,f4,f5⟩:=hf b hb
    exact ⟨f3,f1,f4,f5⟩
   ·obtain⟨o,es',ep,ho,r⟩:=hm
    exact ⟨o,es',ep,kp' _ o (λhb=>(hf _ hb).2.1 rfl) ho,r⟩
   ·refine (I.hok b o e).stay (λc v hc' q=>kp' c v ?_ q) (λ_ q=>q) λ_ _ q=>q
    rcases hc' with rfl|hc'
    ·exact nfp _ _ e
    ·exact nfp _ _ hc'
 self:=λ_ _ _ _ _ st h=>wpAny_pyIter_zip st.1 h
noncomputable def eC(K:q0)(k1:Kd)(k2:Kd)(k3:Kd)(l1 l2 l3:Addr):It :=
 ⟨λi H=>∃ys1 x1 ys2 x2 ys3 x3,Sq k1 K H l1 ys1/\Sq k2 K H l2 ys2/\Sq k3 K H l3 ys3/\ys1[i]?=some x1/\ys2[i]?=some x2/\ys3[i]?=some x3,
  λi H x H'=>∃T x1 x2 x3,H T=none/\x=.ref T/\H'=HQ H T (.tup [x1,x2,x3])/\(∀ys,Sq k1 K H l1 ys->ys[i]?=some x1)/\(∀ys,Sq k2 K H l2 ys->ys[i]?=some x2)/\(∀ys,Sq k3 K H l3 ys->ys[i]?=some x3),
  λi H=>∃ys1 ys2 ys3,Sq k1 K H l1 ys1/\Sq k2 K H l2 ys2/\Sq k3 K H l3 ys3/\(ys1.length<=i\/ys2.length<=i\/ys3.length<=i)⟩
theorem kz{P:Program}{w:World}{K:q0}{es:List Expr}{kk:Nat}{pos:Pos}(k1:Kd)(k2:Kd)(k3:Kd)(z TI TO i1 i2 i3 l1 l2 l3:Addr)(D:ZAp3 z TI TO i1 i2 i3 l1 l2 l3):Turn P w K (.Tuple es kk pos) (eC K k1 k2 k3 l1 l2 l3) [z,TI,TO,i1,i2,i3] z
  (λi h=>IsZip h z TI TO .none/\JQ h TI (.ref i1) (.ref i2) (.ref i3)/\(∃a1 a2 a3,JQ h TO a1 a2 a3)/\ItAt k1 h i1 l1 i/\ItAt k2 h i2 l2 i/\ItAt k3 h i3 l3 i) where
 mem:=by simp
 obj:=λi h st b hb=>by
  obtain⟨hz,hTI,⟨a1,a2,a3,hTO⟩,t1,t2,t3⟩:=st
  have hb:b=z\/b=TI\/b=TO\/b=i1\/b=i2\/b=i3:=by simpa using hb
  rcases hb with rfl|rfl|rfl|rfl|rfl|rfl
  ·exact ⟨_,hz,λv e=>by cases e⟩
  ·exact ⟨_,hTI,λv e=>by cases e⟩
  ·exact ⟨_,hTO,λv e=>by cases e⟩
  ·exact t1.obj
  ·exact t2.obj
  ·exact t3.obj
 keep:=λi h h' st k=>by
  obtain⟨hz,hTI,⟨a1,a2,a3,hTO⟩,t1,t2,t3⟩:=st
  exact ⟨k _ (by simp) _ hz,k _ (by simp) _ hTI,⟨a1,a2,a3,k _ (by simp) _ hTO⟩,t1.at λo e=>k _ (by simp) _ e,t2.at λo e=>k _ (by simp) _ e,t3.at λo e=>k _ (by simp) _ e⟩
 item:=by
  intro X hP hw hK hc i pins s σ H E I hf st hg
  subst hP hw hK
  obtain⟨hz,hTI,⟨a1,a2,a3,hTO⟩,t1,t2,t3⟩:=st
  obtain⟨ys1,x1,ys2,x2,ys3,x3,q1,q2,q3,e1,e2,e3⟩:=hg
  obtain⟨its1,rv1,p1,z1⟩:=I.sq q1
  obtain⟨u1,hu1,ru1⟩:=rv1.get e1
  obtain⟨its2,rv2,p2,z2⟩:=I.sq q2
  obtain⟨u2,hu2,ru2⟩:=rv2.get e2
  obtain⟨its3,rv3,p3,z3⟩:=I.sq q3
  obtain⟨u3,hu3,ru3⟩:=rv3.get e3
  refine oW D hz hTI hTO t1 t2 t3 p1 p2 p3 (show its1.toArray[i]?=some u1 by simpa using hu1) (show its2.toArray[i]?=some u2 by simpa using hu2) (show its3.toArray[i]?=some u3 by simpa using hu3) λh' b1 b2 c1 c2 c3 b5 b6 b7=>?_
  have hTn:s.heap.objs.size≠z:=J1 (B0 hz)
  refine ⟨_,rfl,wpAny_letOwnedTupleGo_zip (s:={ s with heap:=h' }) b1 λh2 hz2 hs2=>?_⟩
  have kp:∀b o,b∉[z,TI,TO,i1,i2,i3]->s.heap.get? b=some o->h2.get? b=some o:=λb o hb e=>by
   have hb:b≠z/\b≠TI/\b≠TO/\b≠i1/\b≠i2/\b≠i3:=by simpa using hb
   obtain⟨g1,g2,g3,f1,f2,f3⟩:=hb
   exact hs2.extBut _ _ g1 (b7 b o g1 g3 f1 f2 f3 e)
  have hTI2:JQ h2 TI (.ref i1) (.ref i2) (.ref i3):=hs2.extBut _ _ D.TIz (b7 TI _ D.TIz (L1 D.TOTI) (L1 D.i1TI) (L1 D.i2TI) (L1 D.i3TI) hTI)
  have hT2:JQ h2 s.heap.objs.size u1 u2 u3:=hs2.extBut _ _ hTn b5
  have hfr:H s.heap.objs.size=none:=I.hok.fresh (G0 _)
  have I2:Inv X pins σ (HQ H s.heap.objs.size (.tup [x1,x2,x3])) { s with heap:=h2 }:=by
   have nfp:∀b u,H b=some u->b∉[z,TI,TO,i1,i2,i3]:=λb u e hb=>by have:=(hf b hb).1;rw[e]at this;cases this
   refine I.step (g':=s.gens) (d':=s.drawn) (ch:=[z,TI,TO,i1,i2,i3]) (λb hb=>?_) (λb o _ _ hc' e _=>kp b o hc' e) (λb o _ _ hc' e _=>⟨o.slots,kp b o hc' e⟩) (λb o _ e n=>?_)
    (λb o hc' e=>⟨o,kp b o hc' e⟩) (λb xs e=>?_) (λb o xs e=>?_) (λb ps e=>⟨#[],?_⟩) (λm hm=>?_) (λb o e=>?_) I.bare
   ·obtain⟨f0,f1,f2,f3,f4,f5⟩:=hf b hb
    exact ⟨f3,f1,f4,f5⟩
   ·rw[cQ (R0 (B0 e))];exact n
   ·rw[cQ (jQ e hfr)];exact e
   ·rw[cQ (jQ e hfr)];exact e
   ·rw[cQ (jQ e hfr),e];simp
   ·obtain⟨o,es',ep,ho,r⟩:=hm
    exact ⟨o,es',ep,kp _ o (λhb=>(hf _ hb).2.1 rfl) ho,r⟩
   ·by_cases hb:b=s.heap.objs.size
    ·subst hb
     rw[iQ]at e
     cases e
     exact ⟨by show 3<=sizeLine;decide,[u1,u2,u3],.cons ru1 (.cons ru2 (.cons ru3 .nil)),_,hT2,rfl,_,rfl,rfl⟩
    ·rw[cQ hb]at e
     refine (I.hok b o e).stay (λc v hc' q=>kp c v ?_ q) (λc q=>by rw[cQ (jQ q hfr)];exact q) λc xs q=>by rw[cQ (jQ q hfr)];exact q
     rcases hc' with rfl|hc'
     ·exact nfp _ _ e
     ·exact nfp _ _ hc'
  refine ⟨.ref s.heap.objs.size,_,I2,rfl,⟨_,x1,x2,x3,hfr,rfl,rfl,(λys hy=>by rw[I.sq_inj hy q1];exact e1),(λys hy=>by rw[I.sq_inj hy q2];exact e2),(λys hy=>by rw[I.sq_inj hy q3];exact e3)⟩,⟨hz2,hTI2,⟨u1,u2,u3,hs2.extBut _ _ D.TOz b2⟩,c1.at λo e=>hs2.extBut _ _ D.i1z e,c2.at λo e=>hs2.extBut _ _ D.i2z e,c3.at λo e=>hs2.extBut _ _ D.i3z e⟩,λb hb=>?_⟩
  rw[cQ ?_]
  ·exact (hf b hb).1
  ·intro e
   subst e
   have hb:s.heap.objs.size=z\/s.heap.objs.size=TI\/s.heap.objs.size=TO\/s.heap.objs.size=i1\/s.heap.objs.size=i2\/s.heap.objs.size=i3:=by simpa using hb
   rcases hb with e|e|e|e|e|e
   ·exact hTn e
   ·exact J1 (B0 hTI) e
   ·exact J1 (B0 hTO) e
   ·obtain⟨o,eo,_⟩:=t1.obj
    exact J1 (B0 eo) e
   ·obtain⟨o,eo,_⟩:=t2.obj
    exact J1 (B0 eo) e
   ·obtain⟨o,eo,_⟩:=t3.obj
    exact J1 (B0 eo) e
 done:=by
  intro X hP hw hK hc i pins s σ H E I hf st hg
  subst hP hw hK
  obtain⟨hz,hTI,⟨a1,a2,a3,hTO⟩,t1,t2,t3⟩:=st
  obtain⟨ys1,ys2,ys3,q1,q2,q3,hend⟩:=hg
  obtain⟨its1,rv1,p1,z1⟩:=I.sq q1
  have len1:=rv1.length
  obtain⟨its2,rv2,p2,z2⟩:=I.sq q2
  have len2:=rv2.length
  obtain⟨its3,rv3,p3,z3⟩:=I.sq q3
  have len3:=rv3.length
  refine jV (I.ok.hd hc) D hz hTI hTO t1 t2 t3 p1 p2 p3 ?_ λh' kp=>⟨rfl,?_⟩
  ·rcases hend with h|h|h
   ·exact .inl (by simp;omega)
   ·exact .inr (.inl (by simp;omega))
   ·exact .inr (.inr (by simp;omega))
  ·have nfp:∀b u,H b=some u->b∉[z,TI,TO,i1,i2,i3]:=λb u e hb=>by have:=(hf b hb).1;rw[e]at this;cases this
   have kp':∀b o,b∉[z,TI,TO,i1,i2,i3]->s.heap.get? b=some o->h'.get? b=some o:=λb o hb e=>by
    have hb:b≠z/\b≠TI/\b≠TO/\b≠i1/\b≠i2/\b≠i3:=by simpa using hb
    obtain⟨g1,g2,g3,f1,f2,f3⟩:=hb
    exact kp b o g1 g3 f1 f2 f3 e
   refine I.step (g':=s.gens) (d':=s.drawn) (ch:=[z,TI,TO,i1,i2,i3]) (λb hb=>?_) (λb o _ _ hc' e _=>kp' b o hc' e) (λb o _ _ hc' e _=>⟨o.slots,kp' b o hc' e⟩) (λb o _ e n=>n)
    (λb o hc' e=>⟨o,kp' b o hc' e⟩) (λb xs e=>e) (λb o xs e=>e) (λb ps e=>⟨#[],by rw[e];simp⟩) (λm hm=>?_) (λb o e=>?_) I.bare
   ·obtain⟨f0,f1,f2,f3,f4,f5⟩:=hf b hb
    exact ⟨f3,f1,f4,f5⟩
   ·obtain⟨o,es',ep,ho,r⟩:=hm
    exact ⟨o,es',ep,kp' _ o (λhb=>(hf _ hb).2.1 rfl) ho,r⟩
   ·refine (I.hok b o e).stay (λc v hc' q=>kp' c v ?_ q) (λ_ q=>q) λ_ _ q=>q
    rcases hc' with rfl|hc'
    ·exact nfp _ _ e
    ·exact nfp _ _ hc'
 self:=λ_ _ _ _ _ st h=>wpAny_pyIter_zip st.1 h
noncomputable def nD(K:q0)(ta:TA):TI:=λσ H R=>ta σ H λvs H1=>∃(k1:Kd) (l1:Addr) (ys1:List V) (k2:Kd) (l2:Addr) (ys2:List V),vs=[.ref l1,.ref l2]/\Sq k1 K H1 l1 ys1/\Sq k2 K H1 l2 ys2/\R (cC K k1 k2 l1 l2) H1
theorem Mv{X:Cx}{es:List Expr}{kk:Nat}{tpos:Pos}{a b:Expr}{ta:TA}{p pos:Pos}(hg:Gl X "zip")(hm:X.mg "zip"=none)(ha:PA X [a,b] ta)(hs:starEach [a,b] X.env=(false,eval a X.env) :: starEach [b] X.env:=by rfl)(hpl:(backTo pos (starEach [b] X.env)).any (·.1)=false:=by rfl) :
  PI X (.Tuple es kk tpos) (.Call (.Name "zip" p) [a,b] [] pos) (nD X.K ta):=by
 intro pins s σ H R I h
 refine Call_ (rZ I hg hm boot_zip (J2 (gX (ha pos pins s σ H _ I h) λus s1 ⟨vs,H1,I1,r1,q1⟩=>?_) hs hpl))
 obtain⟨k1,l1,ys1,k2,l2,ys2,e,q1,q2,q⟩:=q1
 subst e
 obtain rfl:us=[.ref l1,.ref l2]:=by
  cases r1 with|cons r rr=>cases r;cases rr with|cons r rr=>cases r;cases rr;rfl
 obtain⟨its1,rv1,p1,z1⟩:=I1.sq q1
 obtain⟨its2,rv2,p2,z2⟩:=I1.sq q2
 have lt:∀{k:Kd}{l:Addr}{xs:Array Value},SqAt k s1.heap l xs->l < s1.heap.objs.size:=λ{k l xs} p=>by
  cases k with
  | l=>obtain⟨o,e,_⟩:=p;exact B0 e
  | t=>obtain⟨o,e,_⟩:=p;exact B0 e
 refine callType_new F.called_zip (by decide) (F.typeCall_zip_2 _ _) (F.newCall_zip_2 _ _) (λobj=>F.args_object_init_3 obj _ _) F.entry_zip_new (rH k1 k2 l1 l2 its1.toArray its2.toArray) ⟨p1,p2,?_⟩
 have zI:(az s1.heap k1 k2 l1 l2).objs.size=s1.heap.objs.size+2:=by simp[W1]
 have zT:(bz s1.heap k1 k2 l1 l2).objs.size=s1.heap.objs.size+3:=by simp[W1]
 have zO:(cz s1.heap k1 k2 l1 l2).objs.size=s1.heap.objs.size+4:=by simp[W1]
 have gZ:(aJ s1.heap k1 k2 l1 l2).get? (cz s1.heap k1 k2 l1 l2).objs.size=some _:=J0 _ rfl
 have gO:(aJ s1.heap k1 k2 l1 l2).get? (bz s1.heap k1 k2 l1 l2).objs.size=some _:=g0 _ (J0 _ rfl)
 have gT:(aJ s1.heap k1 k2 l1 l2).get? (az s1.heap k1 k2 l1 l2).objs.size=some _:=g0 _ (g0 _ (J0 _ rfl))
 have g1:(aJ s1.heap k1 k2 l1 l2).get? s1.heap.objs.size=some (KQ k1 l1):=g0 _ (g0 _ (g0 _ (g0 _ (J0 _ (by cases k1<;>rfl)))))
 have g2:(aJ s1.heap k1 k2 l1 l2).get? (s1.heap.push (KQ k1 l1)).objs.size=some (KQ k2 l2):=g0 _ (g0 _ (g0 _ (J0 _ (by cases k2<;>rfl))))
 have zz2:(s1.heap.push (KQ k1 l1)).objs.size=s1.heap.objs.size+1:=by simp[W1]
 rw[zO,zT,zI]at gZ
 rw[zI,zz2]at gT
 rw[zT]at gO
 rw[zz2]at g2
 show _/\_
 rw[zO]
 have kp:∀b o,s1.heap.get? b=some o->(aJ s1.heap k1 k2 l1 l2).get? b=some o:=λb o e=>g0 _ (g0 _ (g0 _ (g0 _ (g0 _ (e)))))
 refine ⟨⟨_,gZ,rfl⟩,wpAny_pyIter_zip (s:={ s1 with heap:=aJ s1.heap k1 k2 l1 l2 }) gZ ?_⟩
 refine ⟨_,[s1.heap.objs.size+4,s1.heap.objs.size+2,s1.heap.objs.size+3,s1.heap.objs.size,s1.heap.objs.size+1],_,_,H1,rfl,I1.kept (t':=s1.toks) kp,jz k1 k2 _ _ _ _ _ l1 l2 (XI _ l1 l2 (lt p1) (lt p2)),⟨gZ,gT,⟨_,_,gO⟩,ItAt.new k1 g1,ItAt.new k2 g2⟩,λb hb=>?_,q⟩
 have hb:s1.heap.objs.size<=b:=by
  have hb:b=s1.heap.objs.size+4\/b=s1.heap.objs.size+2\/b=s1.heap.objs.size+3\/b=s1.heap.objs.size\/b=s1.heap.objs.size+1:=by simpa using hb
  rcases hb with rfl|rfl|rfl|rfl|rfl
  all_goals first|exact E3 _ _|exact G0 _
 exact I1.fpOk hb (I1.hok.fresh hb)
noncomputable def qD(K:q0)(ta:TA):TI:=λσ H R=>ta σ H λvs H1=>∃(k1:Kd) (l1:Addr) (ys1:List V) (k2:Kd) (l2:Addr) (ys2:List V) (k3:Kd) (l3:Addr) (ys3:List V),vs=[.ref l1,.ref l2,.ref l3]/\Sq k1 K H1 l1 ys1/\Sq k2 K H1 l2 ys2/\Sq k3 K H1 l3 ys3/\R (eC K k1 k2 k3 l1 l2 l3) H1
theorem pW(a b c:Value):checkTypeCall "zip" ⟨[a,b,c],[]⟩=pure ():=by kernel_rfl
theorem lV(a b c:Value):checkBuiltinCall "zip.__new__" ⟨[.type "zip",a,b,c],[]⟩=pure ():=by kernel_rfl
theorem TJ(a b c d:Value):argsOk "object.__init__" ⟨[a,b,c,d],[]⟩:=by
 unfold argsOk;rw[signature?_of (id:="object.__init__") (n:=['_','_','t','i','n','i','_','_']) (o:=['t','c','e','j','b','o']) (by kernel_rfl) F.owner_object];kernel_rfl
theorem Nv{X:Cx}{es:List Expr}{kk:Nat}{tpos:Pos}{a b c:Expr}{ta:TA}{p pos:Pos}(hg:Gl X "zip")(hm:X.mg "zip"=none)(ha:PA X [a,b,c] ta)(hs:starEach [a,b,c] X.env=(false,eval a X.env) :: starEach [b,c] X.env:=by rfl)(hpl:(backTo pos (starEach [b,c] X.env)).any (·.1)=false:=by rfl) :
  PI X (.Tuple es kk tpos) (.Call (.Name "zip" p) [a,b,c] [] pos) (qD X.K ta):=by
 intro pins s σ H R I h
 refine Call_ (rZ I hg hm boot_zip (J2 (gX (ha pos pins s σ H _ I h) λus s1 ⟨vs,H1,I1,r1,q1⟩=>?_) hs hpl))
 obtain⟨k1,l1,ys1,k2,l2,ys2,k3,l3,ys3,e,q1,q2,q3,q⟩:=q1
 subst e
 obtain rfl:us=[.ref l1,.ref l2,.ref l3]:=by
  cases r1 with|cons r rr=>cases r;cases rr with|cons r rr=>cases r;cases rr with|cons r rr=>cases r;cases rr;rfl
 obtain⟨its1,rv1,p1,z1⟩:=I1.sq q1
 obtain⟨its2,rv2,p2,z2⟩:=I1.sq q2
 obtain⟨its3,rv3,p3,z3⟩:=I1.sq q3
 have lt:∀{k:Kd}{l:Addr}{xs:Array Value},SqAt k s1.heap l xs->l < s1.heap.objs.size:=λ{k l xs} p=>by
  cases k with
  | l=>obtain⟨o,e,_⟩:=p;exact B0 e
  | t=>obtain⟨o,e,_⟩:=p;exact B0 e
 refine callType_new F.called_zip (by decide) (pW _ _ _) (lV _ _ _) (λobj=>TJ obj _ _ _) F.entry_zip_new (Nj k1 k2 k3 l1 l2 l3 its1.toArray its2.toArray its3.toArray) ⟨p1,p2,p3,?_⟩
 have zI:(Jv s1.heap k1 k2 k3 l1 l2 l3).objs.size=s1.heap.objs.size+3:=by simp[W1]
 have zT:(Kv s1.heap k1 k2 k3 l1 l2 l3).objs.size=s1.heap.objs.size+4:=by simp[W1]
 have zO:(Lv s1.heap k1 k2 k3 l1 l2 l3).objs.size=s1.heap.objs.size+5:=by simp[W1]
 have gZ:(sU s1.heap k1 k2 k3 l1 l2 l3).get? (Lv s1.heap k1 k2 k3 l1 l2 l3).objs.size=some _:=J0 _ rfl
 have gO:(sU s1.heap k1 k2 k3 l1 l2 l3).get? (Kv s1.heap k1 k2 k3 l1 l2 l3).objs.size=some _:=g0 _ (J0 _ rfl)
 have gT:(sU s1.heap k1 k2 k3 l1 l2 l3).get? (Jv s1.heap k1 k2 k3 l1 l2 l3).objs.size=some _:=g0 _ (g0 _ (J0 _ rfl))
 have g1:(sU s1.heap k1 k2 k3 l1 l2 l3).get? s1.heap.objs.size=some (KQ k1 l1):=g0 _ (g0 _ (g0 _ (g0 _ (g0 _ (J0 _ (by cases k1<;>rfl))))))
 have g2:(sU s1.heap k1 k2 k3 l1 l2 l3).get? (s1.heap.push (KQ k1 l1)).objs.size=some (KQ k2 l2):=g0 _ (g0 _ (g0 _ (g0 _ (J0 _ (by cases k2<;>rfl)))))
 have zz2:(s1.heap.push (KQ k1 l1)).objs.size=s1.heap.objs.size+1:=by simp[W1]
 have g3:(sU s1.heap k1 k2 k3 l1 l2 l3).get? ((s1.heap.push (KQ k1 l1)).push (KQ k2 l2)).objs.size=some (KQ k3 l3):=g0 _ (g0 _ (g0 _ (J0 _ (by cases k3<;>rfl))))
 have zz3:((s1.heap.push (KQ k1 l1)).push (KQ k2 l2)).objs.size=s1.heap.objs.size+2:=by simp[W1]
 rw[zO,zT,zI]at gZ
 rw[zI,zz2,zz3]at gT
 rw[zT]at gO
 rw[zz2]at g2
 rw[zz3]at g3
 show _/\_
 rw[zO]
 have kp:∀b o,s1.heap.get? b=some o->(sU s1.heap k1 k2 k3 l1 l2 l3).get? b=some o:=λb o e=>g0 _ (g0 _ (g0 _ (g0 _ (g0 _ (g0 _ (e))))))
 refine ⟨⟨_,gZ,rfl⟩,wpAny_pyIter_zip (s:={ s1 with heap:=sU s1.heap k1 k2 k3 l1 l2 l3 }) gZ ?_⟩
 refine ⟨_,[s1.heap.objs.size+5,s1.heap.objs.size+3,s1.heap.objs.size+4,s1.heap.objs.size,s1.heap.objs.size+1,s1.heap.objs.size+2],_,_,H1,rfl,I1.kept (t':=s1.toks) kp,kz k1 k2 k3 _ _ _ _ _ _ l1 l2 l3 (GN _ l1 l2 l3 (lt p1) (lt p2) (lt p3)),⟨gZ,gT,⟨_,_,_,gO⟩,ItAt.new k1 g1,ItAt.new k2 g2,ItAt.new k3 g3⟩,λb hb=>?_,q⟩
 have hb:s1.heap.objs.size<=b:=by
  have hb:b=s1.heap.objs.size+5\/b=s1.heap.objs.size+3\/b=s1.heap.objs.size+4\/b=s1.heap.objs.size\/b=s1.heap.objs.size+1\/b=s1.heap.objs.size+2:=by simpa using hb
  rcases hb with rfl|rfl|rfl|rfl|rfl|rfl
  all_goals first|exact E3 _ _|exact G0 _
 exact I1.fpOk hb (I1.hok.fresh hb)
noncomputable def rD:V->List V->Hp->VK->Prop:=λx vs H Q=>∃(l:Addr) (xs:List V) (i:Int) (y:V),x=.ref l/\vs=[.int i,y]/\H l=some (.lst xs)/\xs.length < sizeLine/\0<=i/\i<=xs.length/\Q .non (HQ H l (.lst (xs.take i.toNat++y :: xs.drop i.toNat)))
theorem lz{X:Cx}:EN X "list.insert" rD:=by
 intro pins s σ H x vs v us Q I rx rv h
 obtain⟨l,xs,i,y,rfl,rfl,hH,hz,h0,h1,q⟩:=h
 cases rx
 obtain⟨u,w',rfl,ru,rw'⟩:=KJ rv
 obtain⟨t,rfl⟩:=ru
 obtain⟨z,its,n,r,hl,e⟩:=I.lstM hH
 have hs:xs.length<=16777216:=z
 have hf:¬(!Builtin.List.listFitsIndex i)=true:=by
  have:W7 i=true:=by
   unfold W7
   simp only[decide_eq_true_eq,P4]
   constructor<;>omega
  rw[this];decide
 refine call_meets F.slot_list_insert ⟨_,e,rfl⟩ F.entry_list_insert (F.args_list_insert_3 _ _ _) (AutoSeq1.list_insert_list_int_val_1 l its.toArray n i t w' hf (by rw[Q0];omega)) ⟨e,?_⟩
 refine ⟨.non,_,I.lset (its':=its.take i.toNat++w' :: its.drop i.toNat) hH e ?_ ((r.take _).append (.cons rw' (r.drop _))) ?_,rfl,q⟩
 ·have hi:¬i < 0:=by omega
  have hm:min i.toNat its.length=i.toNat:=by omega
  simp only[hi,if_false,Q0,hm]
  apply Array.ext'
  simp[X2]
  rw[E4 (by simp)]
 ·rw[M0,K1,S3,m6]
  omega
mutual
inductive Is (K:q0) (H:Hp):V->PyData->Prop
 | non:Is K H .non .none
 | bl (b):Is K H (.bl b) (.bool b)
 | int (i):Is K H (.int i) (.int i)
 | str (x):Is K H (.str x) (.str x)
 | lst {a xs ds}:SqL K H a xs->IsAll K H xs ds->Is K H (.ref a) (.list ds)
 | tup {a xs ds}:SqT K H a xs->IsAll K H xs ds->Is K H (.ref a) (.tuple ds)
inductive IsAll (K:q0) (H:Hp):List V->List PyData->Prop
 | nil:IsAll K H [] []
 | cons {x xs d ds}:Is K H x d->IsAll K H xs ds->IsAll K H (x :: xs) (d :: ds)
end
section
variable {X:Cx}{pins:List (Addr×Obj)}{σ:St}{H:Hp}{s:Shared}
mutual
theorem Is.reads(I:Inv X pins σ H s):∀{x:V}{d:PyData}{u:Value},Is X.K H x d->RelV x u->∃as,Reads s.heap u d as
 | _,_,_,.non,r=>by cases r;exact ⟨_,.none⟩
 | _,_,_,.bl b,r=>by cases r;exact ⟨_,.bool b⟩
 | _,_,_,.int i,r=>by obtain⟨t,rfl⟩:=r;exact ⟨_,.int i t⟩
 | _,_,_,.str x,r=>by obtain⟨t,rfl⟩:=r;exact ⟨_,.str x t⟩
 | _,_,_,.lst hq ha,r=>by
  cases r
  obtain⟨its,rv,⟨o,n,e,c,d,q⟩,z⟩:=I.list hq
  obtain⟨as,hr⟩:=IsAll.reads I ha rv
  exact ⟨_,.list e c q (by simpa using hr)⟩
 | _,_,_,.tup hq ha,r=>by
  cases r
  obtain⟨its,rv,⟨o,e,c,n,q⟩,z⟩:=I.tuple hq
  obtain⟨as,hr⟩:=IsAll.reads I ha rv
  exact ⟨_,.tuple e c q (by simpa using hr)⟩
theorem IsAll.reads(I:Inv X pins σ H s):∀{xs:List V}{ds:List PyData}{us:List Value},IsAll X.K H xs ds->Vals xs us->∃as,ReadsAll s.heap us ds as
 | _,_,_,.nil,.nil=>⟨_,.nil⟩
 | _,_,_,.cons h t,.cons r rr=>by
  obtain⟨as,a⟩:=Is.reads I h r
  obtain⟨bs,b⟩:=IsAll.reads I t rr
  exact ⟨_,.cons a b⟩
end
end
open PySem.SeqAt in
noncomputable def mV(K:q0)(neg:Bool):R2:=λx y H Q=>∃d e:PyData,Is K H x d/\Is K H y e/\shaped d=true/\shaped e=true/\noMix d e=true/\Q (.bl (if neg then !same d e else same d e)) H
theorem gC{X:Cx}(hu:X.A.units+64 < cLine):OpR X (compareOp .Eq) (mV X.K false):=by
 intro pins s σ H x y v u Q I r1 r2 h
 obtain⟨d,e,i1,i2,s1,s2,nm,q⟩:=h
 obtain⟨as,a⟩:=i1.reads I r1
 obtain⟨bs,b⟩:=i2.reads I r2
 exact eq_dataH_same a b s1 s2 hu nm ⟨.bl _,H,I,rfl,q⟩
theorem iC{X:Cx}(hu:X.A.units+64 < cLine):OpR X (compareOp .NotEq) (mV X.K true):=by
 intro pins s σ H x y v u Q I r1 r2 h
 obtain⟨d,e,i1,i2,s1,s2,nm,q⟩:=h
 obtain⟨as,a⟩:=i1.reads I r1
 obtain⟨bs,b⟩:=i2.reads I r2
 exact ne_dataH_same a b s1 s2 hu nm ⟨.bl _,H,I,rfl,q⟩
structure Cal(P:Program)(w:World)(K:q0)(mg:Str->Option Value)(base:Heap)(k:Nat)(x:Str)(ps:List Str)(sp:Sp):Prop where
 ex:∃(f:Addr) (fd:FuncData),FnOk P w K mg base fZ k f fd ps sp/\mg x=some (.ref f)/\A5 K (.ref f)=true/\Binds K fd ps []
theorem sD{X:Cx}{k:Nat}{x:Str}{ps:List Str}{sp:Sp}{p pos:Pos}{e:Expr}{es:List Expr}{t:TA}(C:Cal X.prog X.w X.K X.mg X.base k x ps sp)(hr:Room k X.A)(ha:PA X (e :: es) t)(hg:Gl X x:=by rfl)
  (hdb:(x==("__debug__":Str))=false:=by decide) (he:starEach (e :: es) X.env=(false,eval e X.env) :: starEach es X.env:=by rfl) (hpl:(backTo pos (starEach es X.env)).any (·.1)=false:=by rfl) :
  PE X (.Call (.Name x p) (e :: es) [] pos) (vY sp [] E0 t):=by
 obtain⟨f,fd,F,hm,hk,hb⟩:=C.ex
 exact qv F hr hg hm hk hb .nil SI ha hdb he hpl
noncomputable def uU(ds:Scope)(N:List Str)(fr:List Nat)(sc:Scope):Bool :=
 decide (sc.kind=.function)&&(sc.names.all λy=>!decide (y.2=.cell)||decide (sc.names.lookup y.1=some .cell))&&(sc.names.all λy=>!decide (y.2=.local)||decide (sc.names.lookup y.1=some .local)) &&
 (sc.names.all λy=>!decide (y.2=.free)||(decide (ds.names.lookup y.1=some .cell)||decide (ds.names.lookup y.1=some .free))) &&
 (fr.all λi=>match N[i]? with|some x=>decide (sc.names.lookup x=some .free)|none=>false)
theorem LV{X:Cx}{own:List Str}{fr:List Nat}{sc:Scope}(h:uU X.env.scope X.N fr sc=true):CompSc X own fr sc:=by
 unfold uU at h
 simp only[P4,decide_eq_true_eq,o6,Bool.or_eq_true,Bool.not_eq_true',decide_eq_false_iff_not]at h
 obtain⟨⟨⟨⟨h1,h2⟩,h3⟩,h4⟩,h5⟩:=h
 refine ⟨h1,λy hy e=>?_,λy hy e=>?_,λy hy e=>?_,λi hi=>?_⟩
 ·rcases h2 y hy with z|z
  ·exact absurd e z
  ·exact z
 ·rcases h3 y hy with z|z
  ·exact absurd e z
  ·exact z
 ·rcases h4 y hy with z|z
  ·exact absurd e z
  ·exact z
 ·have:=h5 i hi
  cases q:X.N[i]? with
  | none=>rw[q]at this;cases this
  | some x=>rw[q]at this;exact ⟨x,rfl,of_decide_eq_true this⟩
noncomputable def ZI(J:It)(own:List Str)(fr:List Nat)(g:TG)(tc:TT)(te:TE)(σ:St)(H:Hp)(Q:VK):Prop :=
 ∃W:Nat->Nat->List V->St->Hp->Prop,(∃m,W 0 m [] (YB own σ fr) H)/\∀i m ys τ H,W i m ys τ H ->
   (J.stop i H/\∀D,H D=none->Q (.ref D) (HQ H D (.lst ys))) \/
   (J.go i H/\ys.length < sizeLine/\∃N:List V->St->Hp->Prop,(∀ys' τ' H',N ys' τ' H'->∃m',m' < m/\W (i+1) m' ys' τ' H')/\∀x H',J.yld i H x H'->g x τ H' λτ2 H2 =>
     tc τ2 H2 λb H3=>if b=true then te τ2 H3 λy H4=>N (ys++[y]) τ2 H4 else N ys τ2 H3)
noncomputable def qW(wi:TI)(own:List Str)(fr:List Nat)(g:TG)(tc:TT)(te:TE):TE:=λσ H Q=>wi σ H λJ H1=>ZI J own fr g tc te σ H1 Q
theorem Rj{X:Cx}{tg iter elt:Expr}{ifs:List Expr}{sc:Scope}{pos:Pos}{own:List Str}{fr:List Nat}{wi:TI}{g:TG}{tc:TT}{te:TE}(hc:X.calm=true)(S:CompSc X own fr sc)(hi:PI X tg iter wi)
  (hg:∀C s H ex,PG (BQ X own fr sc C s H ex) tg g) (hif:∀C s H ex,Mj (BQ X own fr sc C s H ex) ifs tc) (he:∀C s H ex,PE (BQ X own fr sc C s H ex) elt te)
  (hs:∀x,foldedSetIterable iter X.env x=pure x:=by intro _;rfl):PE X (.ListComp elt [⟨tg,iter,ifs,0⟩] sc pos) (qW wi own fr g tc te):=Iv hc S hi hg hif he hs
theorem tH{X:Cx}{tg iter elt:Expr}{ifs:List Expr}{sc:Scope}{pos spos py:Pos}{i:Nat}{y:Str}{own:List Str}{fr:List Nat}{wi:TI}{g:TG}{tc:TT}{te:TE}(hN:X.N.Nodup)(hy:X.N[i]?=some y)(hl:X.env.scope.names.lookup y=some .local)(hc:X.calm=true)(S:CompSc X own fr sc)(hi:PI X tg iter wi)
  (hg:∀C s H ex,PG (BQ X own fr sc C s H ex) tg g) (hif:∀C s H ex,Mj (BQ X own fr sc C s H ex) ifs tc) (he:∀C s H ex,PE (BQ X own fr sc C s H ex) elt te)
  (hsw:swapsWith (.ListComp elt [⟨tg,iter,ifs,0⟩] sc pos) (some (.Name y py)) spos.line X.env=pure true:=by rfl)
  (hs:∀x,foldedSetIterable iter X.env x=pure x:=by intro _;rfl):PS X (.Assign [.Name y py] (.ListComp elt [⟨tg,iter,ifs,0⟩] sc pos) spos) (dJ (qW wi own fr g tc te) (JX i)):=YG hN hy hl hc S hi hg hif he hsw hs
section
variable {X:Cx}{K:q0}
theorem Sj(h:X.K=K):IxR X (Av K):=by subst h;exact Cv
theorem Pv(h:X.K=K):IxR X (Bv K):=by subst h;exact NB
noncomputable def aL(K:q0):List V->Hp->VK->Prop:=λxs H Q=>∃(p:Addr) (ys:List V),xs=[.ref p]/\(SqL K H p ys\/SqT K H p ys)/\Q (.int ys.length) H
theorem OQ(h:X.K=K):hX X (.builtin "len") (aL K):=by subst h;exact nU
noncomputable def tD(K:q0):List V->Hp->VK->Prop:=λxs H Q=>∃(p:Addr) (ys:List V),xs=[.ref p]/\(SqL K H p ys\/SqT K H p ys)/\∀l,H l=none->Q (.ref l) (HQ H l (.lst ys))
theorem dF(h:X.K=K):hX X (.type "list") (tD K):=by subst h;exact oU
noncomputable def uH(K:q0):List V->Hp->VK->Prop:=λxs H Q=>∃(p:Addr) (ys:List V),xs=[.ref p]/\((SqL K H p ys/\∀l,H l=none->Q (.ref l) (HQ H l (.tup ys)))\/(SqT K H p ys/\Q (.ref p) H))
theorem ZQ(h:X.K=K):hX X (.type "tuple") (uH K):=by subst h;exact iV
theorem mz(h:X.K=K):hX X (.builtin "isinstance") (iz K):=by subst h;exact Pj
theorem oZ(h:X.K=K)(hc:X.calm=true):hX X (.builtin "all") (bC K):=by subst h;exact Qj hc
theorem Rv(h:X.K=K)(hu:X.A.units+64 < cLine):OpR X (compareOp .Eq) (mV K false):=by subst h;exact gC hu
theorem Sv(h:X.K=K)(hu:X.A.units+64 < cLine):OpR X (compareOp .NotEq) (mV K true):=by subst h;exact iC hu
theorem Tj{es:List Expr}{kk:Nat}{tpos:Pos}{a b:Expr}{ta:TA}{p pos:Pos}(h:X.K=K)(hg:Gl X "zip")(hm:X.mg "zip"=none)(ha:PA X [a,b] ta)(hs:starEach [a,b] X.env=(false,eval a X.env) :: starEach [b] X.env:=by rfl)(hpl:(backTo pos (starEach [b] X.env)).any (·.1)=false:=by rfl) :
  PI X (.Tuple es kk tpos) (.Call (.Name "zip" p) [a,b] [] pos) (nD K ta):=by subst h;exact Mv hg hm ha hs hpl
theorem Uj{es:List Expr}{kk:Nat}{tpos:Pos}{a b c:Expr}{ta:TA}{p pos:Pos}(h:X.K=K)(hg:Gl X "zip")(hm:X.mg "zip"=none)(ha:PA X [a,b,c] ta)(hs:starEach [a,b,c] X.env=(false,eval a X.env) :: starEach [b,c] X.env:=by rfl)(hpl:(backTo pos (starEach [b,c] X.env)).any (·.1)=false:=by rfl) :
  PI X (.Tuple es kk tpos) (.Call (.Name "zip" p) [a,b,c] [] pos) (qD K ta):=by subst h;exact Nv hg hm ha hs hpl
theorem uD{es:List Expr}{k:Nat}{t:cj}{n:Nat}{pos:Pos}(h:X.K=K)(hc:X.calm=true)(hh:cv X es t)(hn:(assignEach es X.env).length=n:=by rfl)(hst:(assignEach es X.env).findIdx? (·.1)=none:=by rfl):PG X (.Tuple es k pos) (Kq K n t):=by subst h;exact CB hc hh hn hst
end
theorem Vj{prog:Program}{w:World}{A:Around}{E:Value->Shared->Prop}{s:Shared}{t b:Addr}{ws:List Value}{Q:Value->Shared->Prop}(ht:IsTup s.heap t ([]:List Value).toArray)(hb:IsTup s.heap b ws.toArray)(h:Q (.ref b) s):wpAny (model prog w) A (binaryOp .Add (.ref t) (.ref b)) Q E s:=by
 obtain⟨⟨cls,dd,data,sl⟩,ho,hc,n,hd⟩:=id ht
 obtain⟨⟨cls2,dd2,data2,sl2⟩,ho2,hc2,n2,hd2⟩:=id hb
 simp only at hc hd hc2 hd2
 subst hc hd hc2 hd2
 exact concat_meets ⟨_,ho,rfl⟩ ⟨_,ho2,rfl⟩ noFill_tuple_add seq_tuple_add PySem.F.slot_tuple_add PySem.F.entry_tuple_add (PySem.F.args_tuple_add_2 _ _) (tuple_addW0 t b _ ws.toArray n n2 dd dd2 sl sl2 rfl) ⟨ho,ho2,h⟩
theorem slot_rev_next:Slot "reversed" "__next__" "reversed.__next__" :=
 .of (owner:="reversed") (n:="__next__") (by rw[typeLookup_type,builtinLookup_eq_fast];kernel_rfl) (by decide +kernel) (by decide +kernel) (by decide +kernel)
  (by first|exact .inl (by decide +kernel)|exact .inr (by decide +kernel)) (by rw[isSubtype_type];kernel_rfl)
theorem NJ:Slot "reversed" "__iter__" "reversed.__iter__" :=
 .of (owner:="reversed") (n:="__iter__") (by rw[typeLookup_type,builtinLookup_eq_fast];kernel_rfl) (by decide +kernel) (by decide +kernel) (by decide +kernel)
  (by first|exact .inl (by decide +kernel)|exact .inr (by decide +kernel)) (by rw[isSubtype_type];kernel_rfl)
theorem nV:Slot "reversed" "__init__" "object.__init__" :=
 .of (owner:="object") (n:="__init__") (by rw[typeLookup_type,builtinLookup_eq_fast];kernel_rfl) (by decide +kernel) (by decide +kernel) (by decide +kernel)
  (by first|exact .inl (by decide +kernel)|exact .inr (by decide +kernel)) (by rw[isSubtype_type];kernel_rfl)
theorem mJ:entryFor table "reversed.__next__"=some Builtin.«reversed.__next__»:=entryFor_of_tree (by kernel_rfl)
theorem rW:entryFor table "reversed.__iter__"=some Builtin.«dict_keyiterator.__iter__» :=
 entryFor_alias (id':="dict_keyiterator.__iter__") (by kernel_rfl) (by first|rfl|decide +kernel|(unfold String.splitOn;simp +decide [String.splitOnAux])) (by decide +kernel) (by kernel_rfl)
theorem MV:Manifest.owners.lookup (String.ofList ['d','e','s','r','e','v','e','r'].reverse)=some Manifest.sig_reversed:=by kernel_rfl
theorem OJ(a:Value):argsOk "reversed.__next__" ⟨[a],[]⟩:=by
 unfold argsOk;rw[signature?_of (id:="reversed.__next__") (n:=['_','_','t','x','e','n','_','_']) (o:=['d','e','s','r','e','v','e','r']) (by kernel_rfl) MV];kernel_rfl
theorem oV(a:Value):argsOk "reversed.__iter__" ⟨[a],[]⟩:=by
 unfold argsOk;rw[signature?_of (id:="reversed.__iter__") (n:=['_','_','r','e','t','i','_','_']) (o:=['d','e','s','r','e','v','e','r']) (by kernel_rfl) MV];kernel_rfl
theorem JJ(a b:Value):argsOk "object.__init__" ⟨[a,b],[]⟩:=by
 unfold argsOk;rw[signature?_of (id:="object.__init__") (n:=['_','_','t','i','n','i','_','_']) (o:=['t','c','e','j','b','o']) (by kernel_rfl) F.owner_object];kernel_rfl
theorem fF:TypeCalled "reversed" "reversed.__new__" "object.__init__" :=
 ⟨by decide +kernel,by decide +kernel,⟨_,_,F.mro_reversed⟩,F.made_reversed,by decide +kernel,F.sub_reversed_self,nV⟩
theorem nz:typeLookup (.type "tuple") "__reversed__"=pure none:=by rw[typeLookup_type,builtinLookup_eq_fast];kernel_rfl
theorem vU(a:Value):Builtin.SmallTypes.newClass "reversed" ⟨[.type "reversed",a],[]⟩=pure (.type "reversed",[a]):=PySem.newClass_reversed a
noncomputable def Wj(l:Addr)(i:Int):Obj:={ cls:=.type "reversed",data:=.fields #[.ref l,rawInt i] }
theorem Tv(l:Addr)(items:Array Value):Meets (Builtin.«reversed.__new__» ⟨[.type "reversed",.ref l],[]⟩) (λ_ R s=>s.heap.IsTuple l items/\(items.size:Int) < 2 ^ 62/\∀tk,R (.ok (.ret (.ref s.heap.objs.size))) { s with heap:=s.heap.push (Wj l ((items.size:Int) - 1)),toks:=tk }) :=
 .of_wp λprog w A R s h=>by
  obtain⟨ht,hsz,h⟩:=h
  unfold Builtin.«reversed.__new__»
  refine wpAny_bind (wpAny_of_eq (vU _) ?_)
  try dsimp only
  refine wpAny_bind (wpAny_of_eq (a:=()) (by first|rfl|kernel_rfl) ?_)
  refine wpAny_bind (wpAny_of_eq (a:=()) (by first|rfl|kernel_rfl) ?_)
  try dsimp only
  refine wpAny_bind (wpAny_specialOf ht.typeIs nz ?_)
  try dsimp only
  refine wpAny_bind ?_
  show wpAny _ _ (isInstance (U1 l) (G6 "dict") >>= _) _ _ _
  refine wpAny_bind (wpAny_isInstance ht.typeIs PySem.F.sub_tuple_dict ?_)
  show wpAny _ _ (specialOf (U1 l) "__getitem__" >>= _) _ _ _
  refine wpAny_bind (wpAny_specialOf ht.typeIs PySem.F.slot_tuple_getitem.lookup ?_)
  refine wpAny_pure ?_
  show wpAny _ _ (call (.builtin "len") [.ref l] >>= _) _ _ _
  refine wpAny_bind (PyProof.Rows.len_tuple ht (by omega) ?_)
  refine wpAny_bind (wpAny_pure ?_)
  show wpAny _ _ (newObj (.type "reversed") (.fields #[U1 l,rawInt ((items.size:Int) - 1)]) >>= _) _ _ _
  exact wpAny_bind (wpAny_newObj_type (wpAny_pure ⟨_,rfl,h _⟩))
section
variable {prog:Program}{w:World}{A:Around}{E:Value->Shared->Prop}{s:Shared}
noncomputable def IsRevT(h:Heap)(it l:Addr)(i:Int):Prop:=∃o,h.get? it=some o/\o.cls=.type "reversed"/\o.data=.fields #[.ref l,rawInt i]
theorem IsRevT.typeIs{it l:Addr}{i:Int}(x:IsRevT s.heap it l i):s.TypeIs (.ref it) "reversed":=let ⟨o,ho,hc,_⟩:=x;⟨o,ho,hc⟩
theorem IsRevT.at{h h':Heap}{it l:Addr}{i:Int}(x:IsRevT h it l i)(e:∀o,h.get? it=some o->h'.get? it=some o):IsRevT h' it l i:=let ⟨o,ho,r⟩:=x;⟨o,e _ ho,r⟩
theorem Xj{it l:Addr}{i:Nat}{items:Array Value}{x:Value}{Q:Option Value->Shared->Prop}(hit:IsRevT s.heap it l (i:Int))(hl:s.heap.IsTuple l items)(hx:items[i]?=some x)(hi:(i:Int) < 2 ^ 62)
  (hQ:∀h' tk,IsRevT h' it l ((i:Int) - 1)->o5 it s.heap h'->Q (some x) { s with heap:=h',toks:=tk }):wpAny (model prog w) A (pyNext (.ref it)) Q E s:=by
 obtain⟨o,ho,hc,hd⟩:=id hit
 unfold pyNext
 refine wpAny_bind (wpAny_attempt (wpAny_callSpecial?_slot (name:=Str.ofString "__next__") hit.typeIs slot_rev_next
   (wpAny_call_entry slot_rev_next hit.typeIs mJ ?_ (OJ _))))
 unfold Builtin.«reversed.__next__»
 refine wpAny_bind (wpAny_of_eq (a:=(U1 it,[])) rfl ?_)
 try dsimp only
 refine wpAny_bind (wpAny_field ho hd (x:=.ref l) rfl ?_)
 refine wpAny_bind (wpAny_field ho hd (x:=rawInt (i:Int)) rfl ?_)
 show wpAny _ _ (if (i:Int) < 0 then _ else _) _ _ s
 rw[if_neg (by omega)]
 show wpAny _ _ (specialOf (U1 l) "__getitem__" >>= _) _ _ s
 refine wpAny_bind (wpAny_specialOf hl.typeIs PySem.F.slot_tuple_getitem.lookup ?_)
 show wpAny _ _ (mkInt (i:Int) >>= _) _ _ s
 refine wpAny_bind (wpAny_mkInt ?_)
 have hlt:i < items.size:=by
  have:=Array.getElem?_eq_some_iff.mp hx
  exact this.1
 refine wpAny_bind (wpAny_attempt (PyProof.Rows.getItem_tuple (s:={ s with toks:=s.toks+1 }) hl (by omega) (by omega) (j:=i) (by unfold seqIndex?;simp;omega) hx ?_))
 show wpAny _ _ (field (.ref it) 1 >>= _) _ _ _
 refine wpAny_bind (wpAny_field (s:={ s with toks:=s.toks+1 }) ho hd (x:=rawInt (i:Int)) rfl ?_)
 show wpAny _ _ (setField (.ref it) 1 (rawInt ((i:Int) - 1)) >>= _) _ _ _
 refine wpAny_bind (wpAny_setField (s:={ s with toks:=s.toks+1 }) ho hd (by simp) (wpAny_pure ⟨x,rfl,wpAny_pure (hQ _ _ ?_ (G4 ..))⟩))
 exact ⟨_,V2 _ ho (h7 (B5 hd _)),(Obj.cls_mapFields ..).trans hc,by
   rw[B5 hd];simp⟩
theorem Uv{it l:Addr}{Q:Option Value->Shared->Prop}(hh:A.handled=none)(hit:IsRevT s.heap it l (-1))
  (hQ:∀h',E7 it s.heap h'->Q none { s with heap:=h' }):wpAny (model prog w) A (pyNext (.ref it)) Q E s:=by
 obtain⟨o,ho,hc,hd⟩:=id hit
 unfold pyNext
 refine wpAny_bind (wpAny_attempt (wpAny_callSpecial?_slot (name:=Str.ofString "__next__") hit.typeIs slot_rev_next
   (wpAny_call_entry slot_rev_next hit.typeIs mJ ?_ (OJ _))))
 unfold Builtin.«reversed.__next__»
 refine wpAny_bind (wpAny_of_eq (a:=(U1 it,[])) rfl ?_)
 try dsimp only
 refine wpAny_bind (wpAny_field ho hd (x:=.ref l) rfl ?_)
 refine wpAny_bind (wpAny_field ho hd (x:=rawInt (-1)) rfl ?_)
 show wpAny _ _ (if (-1:Int) < 0 then _ else _) _ _ s
 rw[if_pos (by decide)]
 refine wpAny_bind (wpAny_rule ?_)
 refine wpAny_bind ?_
 show wpAny _ _ (setField (.ref it) 1 (rawInt (-1)) >>= λ_=>setField (.ref it) 0 .none) _ _ _
 refine wpAny_bind (wpAny_setField ho hd (by simp) ?_)
 refine wpAny_setField (V2 _ ho (h7 (B5 hd _))) (B5 hd _) (by simp) ?_
 refine wpAny_bind ?_
 show wpAny _ _ (newExc (.type "StopIteration") [] >>= _) _ _ _
 refine wpAny_bind ?_
 simp only[newExc,newTuple]
 refine wpAny_bind (wpAny_newObj_type ?_ (by size_fits))
 refine wpAny_bind (m:=firstArgMember _ _) (wpAny_of_eq (a:=x6) (by first|rfl|(simp only[firstArgMember];rfl)) ?_)
 refine wpAny_newObj_type ?_ (by size_fits)
 simp only[raiseNew]
 refine wpAny_bind (wpAny_handled ?_)
 first|rw[show A.in1.handled=none from hh]|rw[hh]
 refine wpAny_bind (wpAny_pure (wpAny_throw ?_))
 refine wpAny_bind (wpAny_isInstance (T:="StopIteration") (b:=true) ⟨_,J0 _ rfl,rfl⟩ isSubtype_stop ?_)
 refine wpAny_pure (hQ _ ?_)
 refine L9 (L9 ?_ _) _
 exact λb o hb e=>(G4 ..).extBut b o hb ((G4 ..).extBut b o hb e)
theorem vH{it l:Addr}{i:Int}{Q:Value->Shared->Prop}(hit:IsRevT s.heap it l i)(h:Q (.ref it) s):wpAny (model prog w) A (pyIter (.ref it)) Q E s:=by
 refine wpAny_pyIter_slot hit.typeIs NJ (wpAny_call_entry NJ hit.typeIs rW ?_ (oV _))
 show wpAny _ _ (ret (.ref it)) _ _ s
 exact wpAny_pure ⟨_,rfl,"reversed",_,hit.typeIs,slot_rev_next.lookup,h⟩
end
noncomputable def VO(K:q0)(a:Addr)(n:Nat):It :=
 ⟨λi H=>∃xs x,SqT K H a xs/\xs.length=n/\i < n/\xs[n - 1 - i]?=some x,λi H x H'=>H'=H/\∀xs,SqT K H a xs->xs[n - 1 - i]?=some x,λi H=>i=n⟩
theorem Yj{P:Program}{w:World}{K:q0}{tg:Expr}(a it:Addr)(n:Nat)(hn:n < 2 ^ 62):Turn P w K tg (VO K a n) [it] it (λi h=>IsRevT h it a ((n:Int) - 1 - i)) where
 mem:=by simp
 obj:=λi h st b hb=>by
  have e:b=it:=by simpa using hb
  subst e
  obtain⟨o,e,c,d⟩:=st
  exact ⟨o,e,λv z=>by rw[d]at z;cases z⟩
 keep:=λi h h' st k=>st.at λo e=>k it (by simp) o e
 item:=by
  intro X hP hw hK hc i pins s σ H E I hf st hg
  subst hP hw hK
  obtain⟨xs,x,hq,hl,hi,hx⟩:=hg
  obtain⟨its,rv,p,hz⟩:=I.tuple hq
  obtain⟨u,hu,ru⟩:=rv.get hx
  obtain⟨f0,f1,f2,f3,f4,f5⟩:=hf it (by simp)
  have e1:(n:Int) - 1 - i=((n - 1 - i:Nat):Int):=by omega
  rw[e1]at st
  refine Xj st (show s.heap.IsTuple a its.toArray from p) (x:=u) (by simpa using hu) (by omega) λh' tk st' sb=>?_
  have I1:Inv X pins σ H { s with heap:=h',toks:=tk }:=I.turned (λb o hb e=>(sb.2 b hb).trans e) f0 f1 f3 f4 f5
  obtain⟨o,e,c,d⟩:=id st'
  refine ⟨u,rfl,ZF (s:={ s with heap:=h',toks:=tk }) e c d (by decide) ⟨x,H,I1,ru,⟨rfl,λys hy=>by rw[I.tuple_inj hy hq];exact hx⟩,?_,λb hb=>(hf b hb).1⟩⟩
  have e2:(n:Int) - 1 - ((i+1:Nat):Int)=((n - 1 - i:Nat):Int) - 1:=by omega
  show IsRevT h' it a ((n:Int) - 1 - ((i+1:Nat):Int))
  rw[e2];exact st'
 done:=by
  intro X hP hw hK hc i pins s σ H E I hf st hg
  subst hP hw hK
  obtain⟨f0,f1,f2,f3,f4,f5⟩:=hf it (by simp)
  have e1:(n:Int) - 1 - i=-1:=by have:i=n:=hg;omega
  rw[e1]at st
  exact Uv (I.ok.hd hc) st λh' eb=>⟨rfl,I.turned (t':=s.toks) (λb o hb e=>eb b o hb e) f0 f1 f3 f4 f5⟩
 self:=λ_ _ _ _ _ st h=>vH st h
noncomputable def jC(K:q0)(ta:TA):TI:=λσ H R=>ta σ H λvs H1=>∃(a:Addr) (xs:List V),vs=[.ref a]/\SqT K H1 a xs/\R (VO K a xs.length) H1
theorem Zj:bootBuiltins "reversed"=some (.type "reversed"):=by decide +kernel
theorem kC{X:Cx}{K:q0}{tg a:Expr}{ta:TA}{p pos:Pos}(h:X.K=K)(hg:Gl X "reversed")(hm:X.mg "reversed"=none)(ha:PA X [a] ta)(hs:starEach [a] X.env=[(false,eval a X.env)]:=by rfl):PI X tg (.Call (.Name "reversed" p) [a] [] pos) (jC K ta):=by
 subst h
 intro pins s σ H R I h
 refine Call_ (rZ I hg hm Zj (J2 (gX (ha pos pins s σ H _ I h) λus s1 ⟨vs,H1,I1,r1,q1⟩=>?_) hs rfl))
 obtain⟨l,xs,e,hq,q⟩:=q1
 subst e
 obtain⟨u,rfl,ru⟩:=VZ r1
 cases ru
 obtain⟨its,rv,pt,hz⟩:=I1.tuple hq
 have hlen:=rv.length
 have hzz:xs.length<=16777216:=hz
 refine callType_new fF (by decide) (F.typeCall_reversed_1 _) (F.newCall_reversed_1 _) (λobj=>JJ obj _) F.entry_reversed_new (Tv l its.toArray) ⟨pt,by rw[Q0];omega,λtk=>?_⟩
 show _/\_
 have gt:(s1.heap.push (Wj l ((its.toArray.size:Int) - 1))).get? s1.heap.objs.size=some (Wj l ((its.toArray.size:Int) - 1)):=J0 _ rfl
 have ge:IsRevT (s1.heap.push (Wj l ((its.toArray.size:Int) - 1))) s1.heap.objs.size l ((xs.length:Int) - 1 - (0:Nat)):=⟨_,gt,rfl,by
   have:(xs.length:Int) - 1 - (0:Nat)=(its.toArray.size:Int) - 1:=by rw[Q0];omega
   rw[this];rfl⟩
 refine ⟨⟨_,gt,rfl⟩,vH (s:={ s1 with heap:=s1.heap.push (Wj l ((its.toArray.size:Int) - 1)),toks:=tk }) ge ?_⟩
 refine ⟨s1.heap.objs.size,[s1.heap.objs.size],_,_,H1,rfl,I1.kept λb o e=>g0 _ e,Yj l _ xs.length (by omega),ge,λb hb=>?_,q⟩
 have e:b=s1.heap.objs.size:=by simpa using hb
 subst e
 exact I1.fpOk (G0 _) (I1.hok.fresh (G0 _))
open PySem PySem.Spec
noncomputable abbrev HN(a C:Addr):HO:=.ext λh=>∃o vs,h.get? a=some o/\o.cls=.ref C/\o.data=.fields vs
end L2
namespace L3
open PySem PySem.Spec L2
noncomputable abbrev D:=PyData
noncomputable abbrev Fg:=q0
noncomputable def Sub(F H:Hp):Prop:=∀a o,F a=some o->H a=some o
theorem Sub.refl(H:Hp):Sub H H:=λ_ _ h=>h
theorem Sub.trans{A B C:Hp}(h:Sub A B)(k:Sub B C):Sub A C:=λa o e=>k a o (h a o e)
theorem Sub.new{F:Hp}{a:Addr}{o:HO}(h:F a=none):Sub F (HQ F a o):=λb u e=>by rw[cQ (jQ e h)];exact e
theorem Sub.rd{F H:Hp}{a:Addr}{u:HO}(s:Sub F H):Rd F a u->Rd H a u
 | .inl h=>.inl (s _ _ h)
 | .inr ⟨o,h⟩=>.inr ⟨o,s _ _ h⟩
theorem Sub.sql{K:Fg}{F H:Hp}{a:Addr}{xs:List V}(s:Sub F H):SqL K F a xs->SqL K H a xs
 | .inl h=>.inl (s.rd h)
 | .inr h=>.inr h
noncomputable def YK:GQ->D
 | .inl i=>.int i
 | .inr x=>.str x
noncomputable abbrev pK(ns:List Int):D:=.dict [(.none,.list (ns.map n0))]
noncomputable abbrev bL(C:Addr):D:=.dict [(.bool true,.int (C:Nat))]
mutual
inductive Da (K:Fg) (F:Hp):V->D->Prop
 | non:Da K F .non .none
 | bl (b):Da K F (.bl b) (.bool b)
 | int (i):Da K F (.int i) (.int i)
 | str (x):Da K F (.str x) (.str x)
 | lst {a xs ds}:F a=some (.lst xs)->DaAll K F xs ds->Da K F (.ref a) (.list ds)
 | tup {a xs ds}:F a=some (.tup xs)->DaAll K F xs ds->Da K F (.ref a) (.tuple ds)
 | dk {a kvs es}:Rd F a (.dK kvs)->DaKV K F kvs es->Da K F (.ref a) (.dict es)
 | dt {a kvs es}:Rd F a (.dT kvs)->DaKT K F kvs es->Da K F (.ref a) (.dict es)
 | scr {a ns}:SqL K F a (ns.map V.int)->Da K F (.ref a) (pK ns)
 | exc {a C}:F a=some (HN a C)->Da K F (.ref a) (bL C)
inductive DaAll (K:Fg) (F:Hp):List V->List D->Prop
 | nil:DaAll K F [] []
 | cons {x xs d ds}:Da K F x d->DaAll K F xs ds->DaAll K F (x :: xs) (d :: ds)
inductive DaKV (K:Fg) (F:Hp):List (GQ×V)->List (D×D)->Prop
 | nil:DaKV K F [] []
 | cons {k v d kvs es}:Da K F v d->DaKV K F kvs es->DaKV K F ((k,v) :: kvs) ((YK k,d) :: es)
inductive DaKT (K:Fg) (F:Hp):List (List GQ×V)->List (D×D)->Prop
 | nil:DaKT K F [] []
 | cons {ks v d kvs es}:Da K F v d->DaKT K F kvs es->DaKT K F ((ks,v) :: kvs) ((.tuple (ks.map YK),d) :: es)
end
section
variable {K:Fg}{F F':Hp}
mutual
theorem Da.mono(s:Sub F F'):∀{v:V}{d:D},Da K F v d->Da K F' v d
 | _,_,.non=>.non
 | _,_,.bl b=>.bl b
 | _,_,.int i=>.int i
 | _,_,.str x=>.str x
 | _,_,.lst h t=>.lst (s _ _ h) (DaAll.mono s t)
 | _,_,.tup h t=>.tup (s _ _ h) (DaAll.mono s t)
 | _,_,.dk h t=>.dk (s.rd h) (DaKV.mono s t)
 | _,_,.dt h t=>.dt (s.rd h) (DaKT.mono s t)
 | _,_,.scr h=>.scr (s.sql h)
 | _,_,.exc h=>.exc (s _ _ h)
theorem DaAll.mono(s:Sub F F'):∀{xs:List V}{ds:List D},DaAll K F xs ds->DaAll K F' xs ds
 | _,_,.nil=>.nil
 | _,_,.cons h t=>.cons (Da.mono s h) (DaAll.mono s t)
theorem DaKV.mono(s:Sub F F'):∀{xs:List (GQ×V)}{ds:List (D×D)},DaKV K F xs ds->DaKV K F' xs ds
 | _,_,.nil=>.nil
 | _,_,.cons h t=>.cons (Da.mono s h) (DaKV.mono s t)
theorem DaKT.mono(s:Sub F F'):∀{xs:List (List GQ×V)}{ds:List (D×D)},DaKT K F xs ds->DaKT K F' xs ds
 | _,_,.nil=>.nil
 | _,_,.cons h t=>.cons (Da.mono s h) (DaKT.mono s t)
end
theorem DaAll.length:∀{xs:List V}{ds:List D},DaAll K F xs ds->xs.length=ds.length
 | _,_,.nil=>rfl
 | _,_,.cons _ t=>by simp[DaAll.length t]
theorem DaAll.get:∀{xs:List V}{ds:List D}{i:Nat}{d:D},DaAll K F xs ds->ds[i]?=some d->∃v,xs[i]?=some v/\Da K F v d
 | _,_,_,_,.nil,e=>by simp at e
 | _,_,0,_,.cons h _,e=>by simp at e;subst e;exact ⟨_,rfl,h⟩
 | _,_,i+1,_,.cons _ t,e=>by
  obtain⟨v,a,b⟩:=DaAll.get (i:=i) t (by simpa using e)
  exact ⟨v,by simpa using a,b⟩
theorem DaAll.append:∀{xs ys:List V}{ds es:List D},DaAll K F xs ds->DaAll K F ys es->DaAll K F (xs++ys) (ds++es)
 | _,_,_,_,.nil,s=>s
 | _,_,_,_,.cons h t,s=>.cons h (DaAll.append t s)
theorem DaAll.set{v:V}{d:D}(h:Da K F v d):∀{xs:List V}{ds:List D} (i:Nat),DaAll K F xs ds->DaAll K F (xs.set i v) (ds.set i d)
 | _,_,_,.nil=>.nil
 | _,_,0,.cons _ t=>.cons h t
 | _,_,i+1,.cons q t=>.cons q (DaAll.set h i t)
theorem DaAll.take:∀{xs:List V}{ds:List D} (n:Nat),DaAll K F xs ds->DaAll K F (xs.take n) (ds.take n)
 | _,_,0,_=>.nil
 | _,_,_+1,.nil=>.nil
 | _,_,n+1,.cons h t=>.cons h (DaAll.take n t)
theorem DaAll.drop:∀{xs:List V}{ds:List D} (n:Nat),DaAll K F xs ds->DaAll K F (xs.drop n) (ds.drop n)
 | _,_,0,r=>r
 | _,_,_+1,.nil=>.nil
 | _,_,n+1,.cons _ t=>DaAll.drop n t
theorem DaAll.rep{xs:List V}{ds:List D}(h:DaAll K F xs ds):∀k:Nat,DaAll K F (V1 k xs).flatten (V1 k ds).flatten
 | 0=>.nil
 | k+1=>by rw[X3,X3,U5,U5];exact h.append (DaAll.rep h k)
theorem DaAll.ints:∀ns:List Int,DaAll K F (ns.map V.int) (ns.map n0)
 | []=>.nil
 | n :: ns=>.cons (.int n) (DaAll.ints ns)
end
inductive Sl where
 | fz (d:D)|ow (d:D)|io (d:D)
noncomputable def Sl.d:Sl->D
 | .fz d=>d
 | .ow d=>d
 | .io d=>d
noncomputable def LQ:Sl->Bool
 | .fz _=>false
 | .ow _=>true
 | .io _=>true
noncomputable abbrev Ev:=List (Option Sl)
noncomputable def Own1(K:Fg)(F:Hp):HO->D->Prop
 | .lst xs,.list ds=>DaAll K F xs ds
 | .dK kvs,.dict es=>DaKV K F kvs es
 | .dT kvs,.dict es=>DaKT K F kvs es
 | _,_=>False
section
variable {K:Fg}{F F':Hp}{o:HO}{d:D}{a:Addr}
theorem Own1.mono(s:Sub F F')(h:Own1 K F o d):Own1 K F' o d:=by
 cases o<;>cases d<;>first|exact DaAll.mono s h|exact DaKV.mono s h|exact DaKT.mono s h|exact h.elim
theorem Own1.da(h:Own1 K F o d)(e:F a=some o):Da K F (.ref a) d:=by
 cases o<;>cases d<;>first|exact .lst e h|exact .dk (.inl e) h|exact .dt (.inl e) h|exact h.elim
end
structure Gh where
 H0:Hp
 F0:Hp
 io:Nat->Option Addr
structure Rel(K:Fg)(G:Gh)(F:Hp)(σ:St)(H:Hp)(ρ:Ev):Prop where
 len:σ.length=ρ.length
 sub:Sub F H
 sub0:Sub G.F0 F
 fn:∀a o,F a=some o->G.F0 a=some o\/G.H0 a=none
 keep:∀a o,G.H0 a=some o->(∀i,G.io i≠some a)->H a=some o
 fz:∀(i:Nat) (d:D),ρ[i]?=some (some (Sl.fz d))->∃v,σ[i]?=some (some v)/\Da K F v d
 ow:∀(i:Nat) (s:Sl),ρ[i]?=some (some s)->LQ s=true->∃a o,σ[i]?=some (some (V.ref a))/\F a=none/\H a=some o/\Own1 K F o s.d
 new:∀(i:Nat) (d:D) (a:Addr),ρ[i]?=some (some (Sl.ow d))->σ[i]?=some (some (V.ref a))->G.H0 a=none
 io:∀(i:Nat) (a:Addr),G.io i=some a->∃d,ρ[i]?=some (some (Sl.io d))/\σ[i]?=some (some (V.ref a))
 ioi:∀(i:Nat) (d:D),ρ[i]?=some (some (Sl.io d))->∃a,G.io i=some a
 ap:∀(i j:Nat) (s t:Sl) (a:Addr),ρ[i]?=some (some s)->LQ s=true->ρ[j]?=some (some t)->LQ t=true->σ[i]?=some (some (V.ref a))->σ[j]?=some (some (V.ref a))->i=j
noncomputable def Res(K:Fg)(G:Gh)(F H:Hp)(σ:St)(ρ:Ev)(v:V):Sl->Prop
 | .fz d=>Da K F v d
 | .ow d=>∃a o,v=.ref a/\F a=none/\H a=some o/\Own1 K F o d/\G.H0 a=none/\∀(i:Nat) (s:Sl),ρ[i]?=some (some s)->LQ s=true->σ[i]?≠some (some (V.ref a))
 | .io _=>False
section
variable {K:Fg}{G:Gh}{F F' H:Hp}{σ:St}{ρ:Ev}{a:Addr}{o:HO}{d:D}{v:V}{s:Sl}
theorem Rel.bound(R:Rel K G F σ H ρ){i:Nat}(h:ρ[i]?=some (some s)):∃v,σ[i]?=some (some v):=by
 cases s with
 | fz d=>obtain⟨v,e,_⟩:=R.fz i d h;exact ⟨v,e⟩
 | ow d=>obtain⟨a,o,e,_⟩:=R.ow i _ h rfl;exact ⟨_,e⟩
 | io d=>obtain⟨a,o,e,_⟩:=R.ow i _ h rfl;exact ⟨_,e⟩
theorem Rel.h0(R:Rel K G F σ H ρ)(h:H a=none):G.H0 a=none:=by
 cases e:G.H0 a with
 | none=>rfl
 | some o =>
  by_cases q:∃i,G.io i=some a
  ·obtain⟨i,q⟩:=q
   obtain⟨d,h1,h2⟩:=R.io i a q
   obtain⟨a',o',h3,_,h4,_⟩:=R.ow i _ h1 rfl
   rw[h2]at h3
   cases h3
   rw[h]at h4;cases h4
  ·have:=R.keep a o e λi z=>q ⟨i,z⟩
   rw[h]at this;cases this
theorem Rel.f0(R:Rel K G F σ H ρ)(h:H a=none):F a=none:=by
 cases e:F a with
 | none=>rfl
 | some o=>rw[R.sub a o e]at h;cases h
theorem Rel.laid(R:Rel K G F σ H ρ)(h:H a=none):Rel K G F σ (HQ H a o) ρ where
 len:=R.len
 sub:=λb u e=>by rw[cQ (jQ (R.sub b u e) h)];exact R.sub b u e
 sub0:=R.sub0
 fn:=R.fn
 keep:=λb u e n=>by rw[cQ (jQ (R.keep b u e n) h)];exact R.keep b u e n
 fz:=R.fz
 ow:=λi s e w=>by
  obtain⟨a',o',h1,h2,h3,h4⟩:=R.ow i s e w
  exact ⟨a',o',h1,h2,by rw[cQ (jQ h3 h)];exact h3,h4⟩
 new:=R.new
 io:=R.io
 ioi:=R.ioi
 ap:=R.ap
theorem Rel.grow(R:Rel K G F σ H ρ)(h0:G.H0 a=none)(h:H a=some o)(hn:∀(i:Nat) (s:Sl),ρ[i]?=some (some s)->LQ s=true->σ[i]?≠some (some (V.ref a))):Sub F (HQ F a o)/\Rel K G (HQ F a o) σ H ρ:=by
 have sb:Sub F (HQ F a o):=λb u e=>by
  by_cases z:b=a
  ·subst z;rw[iQ,<- h];exact R.sub _ _ e
  ·rw[cQ z];exact e
 refine ⟨sb,R.len,λb u e=>?_,R.sub0.trans sb,λb u e=>?_,R.keep,λi d e=>?_,λi s e w=>?_,R.new,R.io,R.ioi,R.ap⟩
 ·by_cases z:b=a
  ·subst z;rw[iQ]at e;rw[h];exact e
  ·rw[cQ z]at e;exact R.sub _ _ e
 ·by_cases z:b=a
  ·subst z;exact .inr h0
  ·rw[cQ z]at e;exact R.fn _ _ e
 ·obtain⟨v,h1,h2⟩:=R.fz i d e
  exact ⟨v,h1,h2.mono sb⟩
 ·obtain⟨a',o',h1,h2,h3,h4⟩:=R.ow i s e w
  have z:a'≠a:=λz=>hn i s e w (by rw[h1,z])
  exact ⟨a',o',h1,by rw[cQ z];exact h2,h3,h4.mono sb⟩
theorem Res.frz(R:Rel K G F σ H ρ)(r:Res K G F H σ ρ v s):∃F',Sub F F'/\Rel K G F' σ H ρ/\Da K F' v s.d:=by
 cases s with
 | fz d=>exact ⟨F,Sub.refl _,R,r⟩
 | ow d =>
  obtain⟨a,o,rfl,h1,h2,h3,h4,h5⟩:=r
  obtain⟨sb,R'⟩:=R.grow h4 h2 h5
  exact ⟨_,sb,R',(h3.mono sb).da iQ⟩
 | io d=>exact r.elim
theorem Rel.newOw(R:Rel K G F σ H ρ)(h:H a=none)(w:Own1 K F o d):Rel K G F σ (HQ H a o) ρ/\Res K G F (HQ H a o) σ ρ (.ref a) (.ow d):=by
 refine ⟨R.laid h,a,o,rfl,R.f0 h,iQ,w,R.h0 h,λi s e w z=>?_⟩
 obtain⟨a',o',h1,h2,h3,h4⟩:=R.ow i s e w
 rw[z]at h1
 cases h1
 rw[h]at h3;cases h3
theorem Rel.newTup(R:Rel K G F σ H ρ){xs:List V}{ds:List D}(h:H a=none)(w:DaAll K F xs ds) :
  Sub F (HQ F a (.tup xs))/\Rel K G (HQ F a (.tup xs)) σ (HQ H a (.tup xs)) ρ/\Da K (HQ F a (.tup xs)) (.ref a) (.tuple ds):=by
 have R1:Rel K G F σ (HQ H a (.tup xs)) ρ:=R.laid h
 obtain⟨sb,R2⟩:=R1.grow (a:=a) (o:=.tup xs) (R.h0 h) iQ λi s e w z=>by
  obtain⟨a',o',h1,h2,h3,h4⟩:=R.ow i s e w
  rw[z]at h1
  cases h1
  rw[h]at h3;cases h3
 exact ⟨sb,R2,.tup iQ (w.mono sb)⟩
noncomputable def Sl.put:Sl->D->Sl
 | .fz _,d=>.fz d
 | .ow _,d=>.ow d
 | .io _,d=>.io d
theorem oQ{α:Type}{l:List α}{i j:Nat}{x y:α}(h:(l.set i x)[j]?=some y):(j=i/\y=x)\/(j≠i/\l[j]?=some y):=by
 by_cases z:i=j
 ·subst z
  rw[List.getElem?_set]at h
  simp at h
  exact .inl ⟨rfl,h.2.symm⟩
 ·rw[O0 z]at h
  exact .inr ⟨λq=>z q.symm,h⟩
theorem hZ{α:Type}{l:List α}{i:Nat}{x:α}(h:i < l.length):(l.set i x)[i]?=some x:=by simp[h]
theorem oX{α:Type}{l:List α}{i:Nat}{x:α}(h:l[i]?=some x):i < l.length:=(W0.mp h).1
theorem Rel.change(R:Rel K G F σ H ρ){i:Nat}{o':HO}{d':D}(h:ρ[i]?=some (some s))(w:LQ s=true)(ha:σ[i]?=some (some (V.ref a)))(q:Own1 K F o' d') :
  Rel K G F σ (HQ H a o') (ρ.set i (some (s.put d'))):=by
 obtain⟨a0,o0,h1,h2,h3,h4⟩:=R.ow i s h w
 rw[ha]at h1;cases h1
 have sw:LQ (s.put d')=true:=by cases s<;>first|rfl|cases w
 have hl:=oX h
 refine ⟨by rw[i4];exact R.len,λb u e=>?_,R.sub0,R.fn,λb u e n=>?_,λj d e=>?_,λj t e wt=>?_,λj d b e eb=>?_,λj b e=>?_,λj d e=>?_,λj k t u b e1 w1 e2 w2 e3 e4=>?_⟩
 ·have z:b≠a:=λz=>by subst z;rw[h2]at e;cases e
  rw[cQ z];exact R.sub _ _ e
 ·by_cases z:b=a
  ·subst z
   cases s with
   | fz d=>cases w
   | ow d=>rw[R.new i d b h ha]at e;cases e
   | io d =>
    obtain⟨a',e'⟩:=R.ioi i d h
    obtain⟨d',_,e2⟩:=R.io i a' e'
    rw[ha]at e2;cases e2
    exact absurd e' (n i)
  ·rw[cQ z];exact R.keep _ _ e n
 ·rcases oQ e with⟨rfl,z⟩|⟨n,z⟩
  ·cases s<;>simp[Sl.put,LQ]at z w
  ·exact R.fz j d z
 ·rcases oQ e with⟨rfl,z⟩|⟨n,z⟩
  ·cases z
   exact ⟨a,o',ha,h2,iQ,by cases s<;>first|exact q|cases w⟩
  ·obtain⟨b,u,g1,g2,g3,g4⟩:=R.ow j t z wt
   have nb:b≠a:=λx=>n (R.ap j i t s a z wt h w (by rw[g1,x]) ha)
   exact ⟨b,u,g1,g2,by rw[cQ nb];exact g3,g4⟩
 ·rcases oQ e with⟨rfl,z⟩|⟨n,z⟩
  ·cases s with
   | fz d=>cases w
   | ow d0=>exact R.new j d0 b h eb
   | io d=>cases z
  ·exact R.new j d b z eb
 ·obtain⟨d,e1,e2⟩:=R.io j b e
  by_cases z:j=i
  ·subst z
   rw[h]at e1
   cases e1
   exact ⟨d',by rw[hZ hl];rfl,e2⟩
  ·exact ⟨d,by rw[O0 (L1 z)];exact e1,e2⟩
 ·rcases oQ e with⟨rfl,z⟩|⟨n,z⟩
  ·cases s with
   | fz d=>cases w
   | ow d0=>cases z
   | io d0=>exact R.ioi j d0 h
  ·exact R.ioi j d z
 ·have f:∀(j:Nat) (t:Sl),(ρ.set i (some (s.put d')))[j]?=some (some t)->LQ t=true->∃t',ρ[j]?=some (some t')/\LQ t'=true:=λj t e wt=>by
   rcases oQ e with⟨rfl,z⟩|⟨n,z⟩
   ·exact ⟨s,h,w⟩
   ·exact ⟨t,z,wt⟩
  obtain⟨t',e1',w1'⟩:=f j t e1 w1
  obtain⟨u',e2',w2'⟩:=f k u e2 w2
  exact R.ap j k t' u' b e1' w1' e2' w2' e3 e4
theorem Rel.forget(R:Rel K G F σ H ρ){i:Nat}(h:ρ[i]?=some (some (Sl.ow d))):Rel K G F σ H (ρ.set i none):=by
 refine ⟨by rw[i4];exact R.len,R.sub,R.sub0,R.fn,R.keep,λj d e=>?_,λj t e wt=>?_,λj d b e eb=>?_,λj b e=>?_,λj d e=>?_,λj k t u b e1 w1 e2 w2 e3 e4=>?_⟩
 ·rcases oQ e with⟨rfl,z⟩|⟨n,z⟩
  ·cases z
  ·exact R.fz j d z
 ·rcases oQ e with⟨rfl,z⟩|⟨n,z⟩
  ·cases z
  ·exact R.ow j t z wt
 ·rcases oQ e with⟨rfl,z⟩|⟨n,z⟩
  ·cases z
  ·exact R.new j d b z eb
 ·obtain⟨d',e1,e2⟩:=R.io j b e
  have n:i≠j:=λz=>by subst z;rw[h]at e1;cases e1
  exact ⟨d',by rw[O0 n];exact e1,e2⟩
 ·rcases oQ e with⟨rfl,z⟩|⟨n,z⟩
  ·cases z
  ·exact R.ioi j d z
 ·rcases oQ e1 with⟨rfl,z⟩|⟨n,z⟩
  ·cases z
  ·rcases oQ e2 with⟨rfl,z'⟩|⟨n',z'⟩
   ·cases z'
   ·exact R.ap j k t u b z w1 z' w2 e3 e4
theorem Rel.freeze(R:Rel K G F σ H ρ){i:Nat}(h:ρ[i]?=some (some (Sl.ow d))):∃F' v,Sub F F'/\Rel K G F' σ H (ρ.set i (some (Sl.fz d)))/\σ[i]?=some (some v)/\Da K F' v d:=by
 obtain⟨a,o,h1,h2,h3,h4⟩:=R.ow i _ h rfl
 have hl:=oX h
 have R1:=R.forget h
 have hn:∀(j:Nat) (s:Sl),(ρ.set i none)[j]?=some (some s)->LQ s=true->σ[j]?≠some (some (V.ref a)):=λj s e w z=>by
  rcases oQ e with⟨rfl,q⟩|⟨n,q⟩
  ·cases q
  ·exact n (R.ap j i s _ a q w h rfl z h1)
 obtain⟨sb,R2⟩:=R1.grow (R.new i d a h h1) h3 hn
 have dd:Da K (HQ F a o) (.ref a) d:=(h4.mono sb).da iQ
 refine ⟨_,_,sb,?_,h1,dd⟩
 refine ⟨by rw[i4];exact R.len,R2.sub,R2.sub0,R2.fn,R2.keep,λj d' e=>?_,λj t e wt=>?_,λj d b e eb=>?_,λj b e=>?_,λj d e=>?_,λj k t u b e1 w1 e2 w2 e3 e4=>?_⟩
 ·rcases oQ e with⟨rfl,z⟩|⟨n,z⟩
  ·cases z;exact ⟨_,h1,dd⟩
  ·exact R2.fz j d' (by rw[O0 (L1 n)];exact z)
 ·rcases oQ e with⟨rfl,z⟩|⟨n,z⟩
  ·cases z;cases wt
  ·exact R2.ow j t (by rw[O0 (L1 n)];exact z) wt
 ·rcases oQ e with⟨rfl,z⟩|⟨n,z⟩
  ·cases z
  ·exact R.new j d b z eb
 ·obtain⟨d',e1,e2⟩:=R.io j b e
  have n:i≠j:=λz=>by subst z;rw[h]at e1;cases e1
  exact ⟨d',by rw[O0 n];exact e1,e2⟩
 ·rcases oQ e with⟨rfl,z⟩|⟨n,z⟩
  ·cases z
  ·exact R.ioi j d z
 ·rcases oQ e1 with⟨rfl,z⟩|⟨n,z⟩
  ·cases z;cases w1
  ·rcases oQ e2 with⟨rfl,z'⟩|⟨n',z'⟩
   ·cases z';cases w2
   ·exact R.ap j k t u b z w1 z' w2 e3 e4
theorem Rel.forgetRes(R:Rel K G F σ H ρ){i:Nat}(h:ρ[i]?=some (some (Sl.ow d))):∃v,σ[i]?=some (some v)/\Res K G F H σ (ρ.set i none) v (.ow d):=by
 obtain⟨a,o,h1,h2,h3,h4⟩:=R.ow i _ h rfl
 refine ⟨_,h1,a,o,rfl,h2,h3,h4,R.new i d a h h1,λj s e w z=>?_⟩
 rcases oQ e with⟨rfl,q⟩|⟨n,q⟩
 ·cases q
 ·exact n (R.ap j i s _ a q w h rfl z h1)
noncomputable def gF(ρ:Ev)(i:Nat):Prop:=match ρ[i]? with
 | some (some (Sl.io _))=>False
 | some _=>True
 | none=>False
theorem Rel.asg(R:Rel K G F σ H ρ){i:Nat}(hi:gF ρ i)(r:Res K G F H σ ρ v s):Rel K G F (σ.set i (some v)) H (ρ.set i (some s)):=by
 have hl:i < ρ.length:=by
  cases e:ρ[i]? with
  | none=>unfold gF at hi;rw[e]at hi;exact hi.elim
  | some x=>exact oX e
 have hl':i < σ.length:=by rw[R.len];exact hl
 have ni:∀d,ρ[i]?≠some (some (Sl.io d)):=λd e=>by unfold gF at hi;rw[e]at hi;exact hi
 refine ⟨by rw[i4,i4];exact R.len,R.sub,R.sub0,R.fn,R.keep,λj d e=>?_,λj t e wt=>?_,λj d b e eb=>?_,λj b e=>?_,λj d e=>?_,λj k t u b e1 w1 e2 w2 e3 e4=>?_⟩
 ·rcases oQ e with⟨rfl,z⟩|⟨n,z⟩
  ·cases z;exact ⟨v,hZ hl',r⟩
  ·rw[O0 (L1 n)];exact R.fz j d z
 ·rcases oQ e with⟨rfl,z⟩|⟨n,z⟩
  ·cases z
   cases s with
   | fz d=>cases wt
   | ow d =>
    obtain⟨a,o,rfl,h1,h2,h3,_⟩:=r
    exact ⟨a,o,hZ hl',h1,h2,h3⟩
   | io d=>exact r.elim
  ·rw[O0 (L1 n)];exact R.ow j t z wt
 ·rcases oQ e with⟨rfl,z⟩|⟨n,z⟩
  ·cases z
   obtain⟨a,o,rfl,h1,h2,h3,h4,_⟩:=r
   rw[hZ hl']at eb;cases eb
   exact h4
  ·rw[O0 (L1 n)]at eb;exact R.new j d b z eb
 ·obtain⟨d,e1,e2⟩:=R.io j b e
  have n:i≠j:=λz=>by subst z;exact ni d e1
  exact ⟨d,by rw[O0 n];exact e1,by rw[O0 n];exact e2⟩
 ·rcases oQ e with⟨rfl,z⟩|⟨n,z⟩
  ·cases z;exact r.elim
  ·exact R.ioi j d z
 ·have own:∀(j:Nat) (t:Sl),j≠i->ρ[j]?=some (some t)->LQ t=true->(σ.set i (some v))[j]?=some (some (V.ref b))->s.d=s.d->LQ s=true->v=.ref b->False:=λj t n e w eb _ ws ev=>by
   subst ev
   cases s with
   | fz d=>cases ws
   | io d=>exact r
   | ow d =>
    obtain⟨a,o,z,h1,h2,h3,h4,h5⟩:=r
    cases z
    rw[O0 (L1 n)]at eb
    exact h5 j t e w eb
  rcases oQ e1 with⟨rfl,z⟩|⟨n,z⟩
  ·rcases oQ e2 with⟨rfl,z'⟩|⟨n',z'⟩
   ·rfl
   ·rw[hZ hl']at e3;cases e3
    cases z
    exact (own k u n' z' w2 e4 rfl w1 rfl).elim
  ·rcases oQ e2 with⟨rfl,z'⟩|⟨n',z'⟩
   ·rw[hZ hl']at e4;cases e4
    cases z'
    exact (own j t n z w1 e3 rfl w2 rfl).elim
   ·rw[O0 (L1 n)]at e3
    rw[O0 (L1 n')]at e4
    exact R.ap j k t u b z w1 z' w2 e3 e4
end
noncomputable abbrev TD:=Ev->(Sl->Ev->Prop)->Prop
noncomputable abbrev pV:=Ev->(Bool->Ev->Prop)->Prop
noncomputable abbrev wU:=Sum Nat D
noncomputable abbrev AD:=Sum Nat TD
noncomputable def lift(K:Fg)(td:TD):TE:=λσ H Q=>∃(G:Gh) (F:Hp) (ρ:Ev) (Qd:Sl->Ev->Prop),Rel K G F σ H ρ/\td ρ Qd /\
 ∀v H' F' r ρ',Sub F F'->Rel K G F' σ H' ρ'->Res K G F' H' σ ρ' v r->Qd r ρ'->Q v H'
noncomputable def MQ(K:Fg)(tc:pV):TT:=λσ H Q=>∃(G:Gh) (F:Hp) (ρ:Ev) (Qd:Bool->Ev->Prop),Rel K G F σ H ρ/\tc ρ Qd /\
 ∀b H' F' ρ',Sub F F'->Rel K G F' σ H' ρ'->Qd b ρ'->Q b H'
noncomputable def pQ(K:Fg):AD->TE
 | .inl i=>qZ i
 | .inr td=>lift K td
noncomputable def tQ:List TE->TA
 | []=>bW
 | t :: ts=>uY t (tQ ts)
theorem ZK{K:Fg}{a:AD}{σ:St}{H:Hp}{Q Q':VK}(m:∀v H,Q v H->Q' v H)(h:pQ K a σ H Q):pQ K a σ H Q':=by
 cases a with
 | inl i=>obtain⟨v,e,q⟩:=h;exact ⟨v,e,m _ _ q⟩
 | inr td =>
  obtain⟨G,F,ρ,Qd,R,w,k⟩:=h
  exact ⟨G,F,ρ,Qd,R,w,λv H' F' r ρ' s R' r' q=>m _ _ (k v H' F' r ρ' s R' r' q)⟩
theorem ax{K:Fg}{a:AD}{σ:St}{H:Hp}{P:VK}(h:tQ ([a].map (pQ K)) σ H λvs H2=>∃x,vs=[x]/\P x H2):pQ K a σ H P :=
 ZK (λv H q=>by obtain⟨x,e,q⟩:=q;cases e;exact q) h
theorem Vv{K:Fg}{a b:AD}{σ:St}{H:Hp}{P:V->V->Hp->Prop}(h:tQ ([a,b].map (pQ K)) σ H λvs H2=>∃x y,vs=[x,y]/\P x y H2):pQ K a σ H λx H1=>pQ K b σ H1 λy H2=>P x y H2 :=
 ZK (λv H q=>ZK (λu H q=>by obtain⟨x,y,e,q⟩:=q;cases e;exact q) q) h
noncomputable def wH(i:Nat):TD:=λρ Q=>match ρ[i]? with
 | some (some (.fz d))=>Q (.fz d) ρ
 | some (some (.ow d))=>Q (.fz d) (ρ.set i (some (.fz d)))
 | _=>False
noncomputable def dC(d:D):TD:=λρ Q=>Q (.fz d) ρ
section
variable {K:Fg}{σ:St}{H:Hp}{Q:VK}
theorem cL{i:Nat}(h:lift K (wH i) σ H Q):qZ i σ H Q:=by
 obtain⟨G,F,ρ,Qd,R,w,k⟩:=h
 unfold wH at w
 split at w
 ·rename_i d e
  obtain⟨v,e1,h1⟩:=R.fz i d e
  exact ⟨v,e1,k v H F (.fz d) ρ (Sub.refl _) R h1 w⟩
 ·rename_i d e
  obtain⟨F',v,sb,R',e1,h1⟩:=R.freeze e
  exact ⟨v,e1,k v H F' (.fz d) _ sb R' h1 w⟩
 ·exact w.elim
theorem tP{v:V}{d:D}(hv:∀F,Da K F v d)(h:lift K (dC d) σ H Q):tC v σ H Q:=by
 obtain⟨G,F,ρ,Qd,R,w,k⟩:=h
 exact k v H F (.fz d) ρ (Sub.refl _) R (hv F) w
end
noncomputable def dL(K:Fg)(F:Hp)(σ:St)(v:V):wU->Prop
 | .inl i=>σ[i]?=some (some v)
 | .inr d=>Da K F v d
inductive OpdsAt (K:Fg) (F:Hp) (σ:St):List V->List wU->Prop
 | nil:OpdsAt K F σ [] []
 | cons {v x vs xs}:dL K F σ v x->OpdsAt K F σ vs xs->OpdsAt K F σ (v :: vs) (x :: xs)
noncomputable def yX:List AD->Ev->(List wU->Ev->Prop)->Prop
 | [],ρ,Q=>Q [] ρ
 | .inl i :: as,ρ,Q=>match ρ[i]? with
  | some (some _)=>yX as ρ λxs ρ'=>Q (.inl i :: xs) ρ'
  | _=>False
 | .inr td :: as,ρ,Q=>td ρ λr ρ1=>yX as ρ1 λxs ρ2=>Q (.inr r.d :: xs) ρ2
theorem nJ{K:Fg}{G:Gh}{σ:St}:∀{as:List AD}{F H:Hp}{ρ:Ev}{Qd:List wU->Ev->Prop}{Qv:List V->Hp->Prop},Rel K G F σ H ρ->yX as ρ Qd ->
  (∀vs H' F' xs ρ',Sub F F'->Rel K G F' σ H' ρ'->OpdsAt K F' σ vs xs->vs.length=as.length->Qd xs ρ'->Qv vs H')->tQ (as.map (pQ K)) σ H Qv
 | [],F,H,ρ,Qd,Qv,R,w,k=>k [] H F [] ρ (Sub.refl _) R .nil rfl w
 | .inl i :: as,F,H,ρ,Qd,Qv,R,w,k=>by
  unfold yX at w
  split at w
  ·rename_i s e
   obtain⟨v,ev⟩:=R.bound e
   refine ⟨v,ev,nJ (as:=as) R w λvs H' F' xs ρ' sb R' o hl q=>?_⟩
   exact k (v :: vs) H' F' (.inl i :: xs) ρ' sb R' (.cons ev o) (by simp[hl]) q
  ·exact w.elim
 | .inr td :: as,F,H,ρ,Qd,Qv,R,w,k=>by
  refine ⟨G,F,ρ,_,R,w,λv H1 F1 r ρ1 s1 R1 r1 w1=>?_⟩
  obtain⟨F2,s2,R2,d2⟩:=r1.frz R1
  refine nJ (as:=as) R2 w1 λvs H' F' xs ρ' sb R' o hl q=>?_
  exact k (v :: vs) H' F' (.inr r.d :: xs) ρ' (s1.trans (s2.trans sb)) R' (.cons (d2.mono sb) o) (by simp[hl]) q
theorem lX{K:Fg}{G:Gh}{σ:St}{as:List AD}{F H:Hp}{ρ:Ev}{Qd:List wU->Ev->Prop}{Qv:List V->Hp->Prop}(R:Rel K G F σ H ρ)(w:yX as ρ Qd)
  (k:∀vs H' F' xs ρ',Sub F F'->Rel K G F' σ H' ρ'->OpdsAt K F' σ vs xs->Qd xs ρ'->Qv vs H'):tQ (as.map (pQ K)) σ H Qv:=nJ R w λvs H' F' xs ρ' s R' o _ q=>k vs H' F' xs ρ' s R' o q
noncomputable def At(K:Fg)(F H:Hp)(v:V)(d:D):Prop:=Da K F v d\/∃a o,v=.ref a/\F a=none/\H a=some o/\Own1 K F o d
inductive AtAll (K:Fg) (F H:Hp):List V->List D->Prop
 | nil:AtAll K F H [] []
 | cons {v d vs ds}:At K F H v d->AtAll K F H vs ds->AtAll K F H (v :: vs) (d :: ds)
noncomputable def look(ρ:Ev):wU->Option D
 | .inl i=>match ρ[i]? with
  | some (some s)=>some s.d
  | _=>none
 | .inr d=>some d
noncomputable def PQ(ρ:Ev):List wU->(List D->Prop)->Prop
 | [],k=>k []
 | .inr d :: xs,k=>PQ ρ xs λds=>k (d :: ds)
 | .inl i :: xs,k=>match ρ[i]? with
  | some (some s)=>PQ ρ xs λds=>k (s.d :: ds)
  | _=>False
section
variable {K:Fg}{G:Gh}{F H:Hp}{σ:St}{ρ:Ev}
theorem Rel.at(R:Rel K G F σ H ρ){i:Nat}{s:Sl}{v:V}(e:ρ[i]?=some (some s))(ev:σ[i]?=some (some v)):At K F H v s.d:=by
 cases s with
 | fz d =>
  obtain⟨v',e1,h1⟩:=R.fz i d e
  rw[ev]at e1;cases e1
  exact .inl h1
 | ow d =>
  obtain⟨a,o,h1,h2,h3,h4⟩:=R.ow i _ e rfl
  rw[ev]at h1;cases h1
  exact .inr ⟨a,o,rfl,h2,h3,h4⟩
 | io d =>
  obtain⟨a,o,h1,h2,h3,h4⟩:=R.ow i _ e rfl
  rw[ev]at h1;cases h1
  exact .inr ⟨a,o,rfl,h2,h3,h4⟩
theorem tZ(R:Rel K G F σ H ρ){xs:List wU}{vs:List V}{k:List D->Prop}(o:OpdsAt K F σ vs xs)(h:PQ ρ xs k):∃ds,AtAll K F H vs ds/\k ds:=by
 induction o generalizing k with
 | nil=>exact ⟨[],.nil,h⟩
 | @cons v x vs xs o t ih =>
  cases x with
  | inr d =>
   obtain⟨ds,a,q⟩:=ih (k:=λds=>k (d :: ds)) h
   exact ⟨d :: ds,.cons (.inl o) a,q⟩
  | inl i =>
   unfold PQ at h
   split at h
   ·rename_i s e
    obtain⟨ds,a,q⟩:=ih (k:=λds=>k (s.d :: ds)) h
    exact ⟨s.d :: ds,.cons (R.at e o) a,q⟩
   ·exact h.elim
end
noncomputable def SZ(as:List AD)(f:List D->(Sl->Prop)->Prop):TD:=λρ Q=>yX as ρ λxs ρ1=>PQ ρ1 xs λds=>f ds λr=>Q r ρ1
noncomputable def VQ(K:Fg)(r:List V->Hp->VK->Prop)(f:List D->(Sl->Prop)->Prop):Prop :=
 ∀(G:Gh) (F:Hp) (σ:St) (H:Hp) (ρ:Ev) (vs:List V) (ds:List D) (Q:VK) (Qd:Sl->Prop),Rel K G F σ H ρ->AtAll K F H vs ds->f ds Qd ->
  (∀v H' F' s,Sub F F'->Rel K G F' σ H' ρ->Res K G F' H' σ ρ v s->Qd s->Q v H')->r vs H Q
theorem xH{K:Fg}{as:List AD}{r:List V->Hp->VK->Prop}{f:List D->(Sl->Prop)->Prop}(ok:VQ K r f){σ:St}{H:Hp}{Q:VK}(h:lift K (SZ as f) σ H Q):tQ (as.map (pQ K)) σ H λvs H1=>r vs H1 Q:=by
 obtain⟨G,F,ρ,Qd,R,w,k⟩:=h
 refine lX R w λvs H' F' xs ρ' sb R' o q=>?_
 obtain⟨ds,ha,q⟩:=tZ R' o q
 exact ok G F' σ H' ρ' vs ds Q _ R' ha q λv H2 F2 s s2 R2 r2 q2=>k v H2 F2 s ρ' (sb.trans s2) R2 r2 q2
noncomputable def o1(f:D->(Sl->Prop)->Prop):List D->(Sl->Prop)->Prop
 | [x],Q=>f x Q
 | _,_=>False
noncomputable def o2(f:D->D->(Sl->Prop)->Prop):List D->(Sl->Prop)->Prop
 | [x,y],Q=>f x y Q
 | _,_=>False
noncomputable def o3(f:D->D->D->(Sl->Prop)->Prop):List D->(Sl->Prop)->Prop
 | [x,y,z],Q=>f x y z Q
 | _,_=>False
noncomputable def iF(td:TD):pV:=λρ Q=>td ρ λr ρ'=>match r with
 | .fz (.bool b)=>Q b ρ'
 | _=>False
noncomputable def lC(c:pV):pV:=λρ Q=>c ρ λb ρ'=>Q (!b) ρ'
noncomputable def XM(c e:pV):pV:=λρ Q=>c ρ λb ρ'=>if b=true then Q true ρ' else e ρ' Q
noncomputable def yH:pV:=λρ Q=>Q true ρ
section
variable {K:Fg}{σ:St}{H:Hp}
theorem Uu{td:TD}{t:TE}(ht:∀{σ H Q},lift K td σ H Q->t σ H Q){Q:Bool->Hp->Prop}(h:MQ K (iF td) σ H Q):wj t σ H Q:=by
 obtain⟨G,F,ρ,Qd,R,w,k⟩:=h
 refine ht ⟨G,F,ρ,_,R,w,λv H' F' r ρ' sb R' r' q=>?_⟩
 split at q
 ·rename_i b
  cases r'
  exact ⟨b,rfl,k b H' F' ρ' sb R' q⟩
 ·exact q.elim
theorem eL{c:pV}{Q:Bool->Hp->Prop}(h:MQ K (lC c) σ H Q):uB (MQ K c) σ H Q:=by
 obtain⟨G,F,ρ,Qd,R,w,k⟩:=h
 exact ⟨G,F,ρ,_,R,w,λb H' F' ρ' sb R' q=>k (!b) H' F' ρ' sb R' q⟩
theorem IN{c e:pV}{Q:Bool->Hp->Prop}(h:MQ K (XM c e) σ H Q):yN (MQ K c) (MQ K e) σ H Q:=by
 obtain⟨G,F,ρ,Qd,R,w,k⟩:=h
 refine ⟨G,F,ρ,_,R,w,λb H' F' ρ' sb R' q=>?_⟩
 cases b with
 | true=>exact k true H' F' ρ' sb R' q
 | false=>exact ⟨G,F',ρ',Qd,R',q,λb H2 F2 ρ2 s2 R2 q2=>k b H2 F2 ρ2 (sb.trans s2) R2 q2⟩
theorem fL{Q:Bool->Hp->Prop}(h:MQ K yH σ H Q):VI σ H Q:=by
 obtain⟨G,F,ρ,Qd,R,w,k⟩:=h
 exact k true H F ρ (Sub.refl _) R w
end
noncomputable def cx(a b:TD):TD:=λρ Q=>a ρ λr ρ'=>match r with
 | .fz (.bool c)=>if c=true then b ρ' Q else Q (.fz (.bool false)) ρ'
 | _=>False
noncomputable def fx(a:TD):TD:=λρ Q=>a ρ λr ρ'=>match r with
 | .fz (.bool c)=>Q (.fz (.bool (!c))) ρ'
 | _=>False
section
variable {K:Fg}{σ:St}{H:Hp}{Q:VK}{a b:TD}{c:pV}
theorem mC(h:lift K (cx a b) σ H Q):gj (lift K a) (lift K b) σ H Q:=by
 obtain⟨G,F,ρ,Qd,R,w,k⟩:=h
 refine ⟨G,F,ρ,_,R,w,λv H' F' r ρ' sb R' r' q=>?_⟩
 split at q
 ·rename_i c
  cases r'
  refine ⟨c,rfl,?_⟩
  cases c with
  | true=>exact ⟨G,F',ρ',Qd,R',q,λv H2 F2 r ρ2 s2 R2 r2 q2=>k v H2 F2 r ρ2 (sb.trans s2) R2 r2 q2⟩
  | false=>exact k _ H' F' (.fz (.bool false)) ρ' sb R' (Da.bl false) q
 ·exact q.elim
theorem nC(h:lift K (fx a) σ H Q):kj (lift K a) σ H Q:=by
 obtain⟨G,F,ρ,Qd,R,w,k⟩:=h
 refine ⟨G,F,ρ,_,R,w,λv H' F' r ρ' sb R' r' q=>?_⟩
 split at q
 ·rename_i c
  cases r'
  exact ⟨c,rfl,k _ H' F' (.fz (.bool (!c))) ρ' sb R' (Da.bl (!c)) q⟩
 ·exact q.elim
end
theorem NY{ρ:Ev}{i:Nat}{P:Prop}(h:match ρ[i]? with|some (some (.io _))=>False|some _=>P|none=>False):gF ρ i/\P:=by
 unfold gF
 cases e:ρ[i]? with
 | none=>rw[e]at h;exact h.elim
 | some x =>
  rw[e]at h
  cases x with
  | none=>exact ⟨trivial,h⟩
  | some s=>cases s with
   | fz d=>exact ⟨trivial,h⟩
   | ow d=>exact ⟨trivial,h⟩
   | io d=>exact h.elim
structure DE where
 nx:Ev->Prop
 rt:Sl->Ev->Prop
 bk:Ev->Prop
 ct:Ev->Prop
noncomputable abbrev qK:=DE->Ev->Prop
noncomputable def sQ(K:Fg)(ts:qK):TS:=λD σ H=>∃(G:Gh) (F:Hp) (ρ:Ev) (E:DE),Rel K G F σ H ρ/\ts E ρ /\
 (∀σ' H' F' ρ',Sub F F'->Rel K G F' σ' H' ρ'->E.nx ρ'->D.nx σ' H') /\
 (∀v σ' H' F' r ρ',Sub F F'->Rel K G F' σ' H' ρ'->Res K G F' H' σ' ρ' v r->E.rt r ρ'->D.rt v H') /\
 (∀σ' H' F' ρ',Sub F F'->Rel K G F' σ' H' ρ'->E.bk ρ'->D.bk σ' H') /\
 (∀σ' H' F' ρ',Sub F F'->Rel K G F' σ' H' ρ'->E.ct ρ'->D.ct σ' H')
noncomputable def vD:qK:=λE ρ=>E.nx ρ
noncomputable def sW(t u:qK):qK:=λE ρ=>t { nx:=λρ'=>u E ρ',rt:=E.rt,bk:=E.bk,ct:=E.ct } ρ
noncomputable def gx(a:TD):qK:=λE ρ=>a ρ E.rt
noncomputable def jx(a:TD):qK:=λE ρ=>a ρ λ_ ρ'=>E.nx ρ'
noncomputable def Wv(c:pV)(t u:qK):qK:=λE ρ=>c ρ λb ρ'=>if b=true then t E ρ' else u E ρ'
noncomputable def xU(i:Nat)(a:TD):qK:=λE ρ=>a ρ λr ρ'=>match ρ'[i]? with
 | some (some (.io _))=>False
 | some _=>E.nx (ρ'.set i (some r))
 | none=>False
section
variable {K:Fg}{σ:St}{H:Hp}{E:Ends}{t u:qK}{a:TD}{c:pV}
theorem oC(h:sQ K vD E σ H):lj E σ H:=by
 obtain⟨G,F,ρ,D,R,w,n,r,b,c⟩:=h
 exact n σ H F ρ (Sub.refl _) R w
theorem later{G:Gh}{F F1 H1:Hp}{ρ1:Ev}{σ1:St}{D:DE}{ts:qK}(s:Sub F F1)(R:Rel K G F1 σ1 H1 ρ1)(w:ts D ρ1)
  (n:∀σ' H' F' ρ',Sub F F'->Rel K G F' σ' H' ρ'->D.nx ρ'->E.nx σ' H')
  (r:∀v σ' H' F' r ρ',Sub F F'->Rel K G F' σ' H' ρ'->Res K G F' H' σ' ρ' v r->D.rt r ρ'->E.rt v H')
  (b:∀σ' H' F' ρ',Sub F F'->Rel K G F' σ' H' ρ'->D.bk ρ'->E.bk σ' H')
  (c:∀σ' H' F' ρ',Sub F F'->Rel K G F' σ' H' ρ'->D.ct ρ'->E.ct σ' H'):sQ K ts E σ1 H1 :=
 ⟨G,F1,ρ1,D,R,w,λ_ _ _ _ s' R' q=>n _ _ _ _ (s.trans s') R' q,λ_ _ _ _ _ _ s' R' r' q=>r _ _ _ _ _ _ (s.trans s') R' r' q,
   λ_ _ _ _ s' R' q=>b _ _ _ _ (s.trans s') R' q,λ_ _ _ _ s' R' q=>c _ _ _ _ (s.trans s') R' q⟩
theorem gL(h:sQ K (sW t u) E σ H):cV (sQ K t) (sQ K u) E σ H:=by
 obtain⟨G,F,ρ,D,R,w,n,r,b,c⟩:=h
 exact ⟨G,F,ρ,_,R,w,λσ' H' F' ρ' s R' q=>later s R' q n r b c,r,b,c⟩
theorem iL(h:sQ K (gx a) E σ H):Jq (lift K a) E σ H:=by
 obtain⟨G,F,ρ,D,R,w,n,r,b,c⟩:=h
 exact ⟨G,F,ρ,_,R,w,λv H' F' x ρ' s R' r' q=>r v σ H' F' x ρ' s R' r' q⟩
theorem pC(h:sQ K (jx a) E σ H):sY (lift K a) E σ H:=by
 obtain⟨G,F,ρ,D,R,w,n,r,b,c⟩:=h
 exact ⟨G,F,ρ,_,R,w,λv H' F' x ρ' s R' r' q=>n σ H' F' ρ' s R' q⟩
theorem jL(h:sQ K (Wv c t u) E σ H):AB (MQ K c) (sQ K t) (sQ K u) E σ H:=by
 obtain⟨G,F,ρ,D,R,w,n,r,b,c⟩:=h
 refine ⟨G,F,ρ,_,R,w,λx H' F' ρ' s R' q=>?_⟩
 cases x with
 | true=>exact later s R' q n r b c
 | false=>exact later s R' q n r b c
theorem Vu{i:Nat}(h:sQ K (xU i a) E σ H):dJ (lift K a) (JX i) E σ H:=by
 obtain⟨G,F,ρ,D,R,w,n,r,b,c⟩:=h
 refine ⟨G,F,ρ,_,R,w,λv H' F' x ρ' s R' r' q=>?_⟩
 have hn:=NY q
 exact n _ H' F' _ s (R'.asg hn.1 r') hn.2
end
noncomputable def NV(i:Nat):qK:=λE ρ=>match ρ[i]? with
 | some (some (.fz d))=>E.rt (.fz d) ρ
 | some (some (.ow d))=>E.rt (.ow d) (ρ.set i none)
 | _=>False
noncomputable def zH(i j:Nat):qK:=λE ρ=>match ρ[j]? with
 | some (some (.fz d))=>(match ρ[i]? with
   | some (some (.io _))=>False
   | some _=>E.nx (ρ.set i (some (.fz d)))
   | none=>False)
 | some (some (.ow d))=>(match (ρ.set j none)[i]? with
   | some (some (.io _))=>False
   | some _=>E.nx ((ρ.set j none).set i (some (.ow d)))
   | none=>False)
 | _=>False
section
variable {K:Fg}{σ:St}{H:Hp}{E:Ends}
theorem qC{i:Nat}(h:sQ K (NV i) E σ H):Jq (qZ i) E σ H:=by
 obtain⟨G,F,ρ,D,R,w,n,r,b,c⟩:=h
 unfold NV at w
 split at w
 ·rename_i d e
  obtain⟨v,e1,h1⟩:=R.fz i d e
  exact ⟨v,e1,r v σ H F (.fz d) ρ (Sub.refl _) R h1 w⟩
 ·rename_i d e
  obtain⟨v,e1,h1⟩:=R.forgetRes e
  exact ⟨v,e1,r v σ H F (.ow d) _ (Sub.refl _) (R.forget e) h1 w⟩
 ·exact w.elim
theorem rC{i j:Nat}(h:sQ K (zH i j) E σ H):dJ (qZ j) (JX i) E σ H:=by
 obtain⟨G,F,ρ,D,R,w,n,r,b,c⟩:=h
 unfold zH at w
 split at w
 ·rename_i d e
  obtain⟨v,e1,h1⟩:=R.fz j d e
  obtain⟨hn,w⟩:=NY w
  exact ⟨v,e1,n _ H F _ (Sub.refl _) (R.asg (s:=.fz d) hn h1) w⟩
 ·rename_i d e
  obtain⟨v,e1,h1⟩:=R.forgetRes e
  obtain⟨hn,w⟩:=NY w
  exact ⟨v,e1,n _ H F _ (Sub.refl _) ((R.forget e).asg (s:=.ow d) hn h1) w⟩
 ·exact w.elim
end
noncomputable abbrev WZ:=D->Ev->(Ev->Prop)->Prop
noncomputable def RQ(K:Fg)(g:WZ):TG:=λv σ H Q=>∃(G:Gh) (F:Hp) (ρ:Ev) (d:D) (Qd:Ev->Prop),Rel K G F σ H ρ/\Da K F v d/\g d ρ Qd/\∀σ' ρ',Rel K G F σ' H ρ'->Qd ρ'->Q σ' H
noncomputable def sC(i:Nat):WZ:=λd ρ Q=>match ρ[i]? with
 | some (some (.io _))=>False
 | some _=>Q (ρ.set i (some (.fz d)))
 | none=>False
noncomputable def YM:List WZ->List D->Ev->(Ev->Prop)->Prop
 | [],[],ρ,Q=>Q ρ
 | g :: gs,d :: ds,ρ,Q=>g d ρ λρ'=>YM gs ds ρ' Q
 | _,_,_,_=>False
noncomputable def ZM(gs:List WZ):WZ:=λd ρ Q=>match d with
 | .tuple ds=>ds.length=gs.length/\YM gs ds ρ Q
 | _=>False
noncomputable def CY:List TG->cj
 | []=>gv
 | g :: gs=>zV g (CY gs)
section
variable {K:Fg}{σ:St}{H:Hp}{v:V}{Q:St->Hp->Prop}
theorem JN{i:Nat}(h:RQ K (sC i) v σ H Q):JX i v σ H Q:=by
 obtain⟨G,F,ρ,d,Qd,R,hd,w,k⟩:=h
 obtain⟨hn,w⟩:=NY w
 exact k _ _ (R.asg (s:=.fz d) hn hd) w
theorem uC{G:Gh}{F:Hp}:∀{gs:List WZ}{ds:List D}{vs:List V}{σ:St}{ρ:Ev}{Qd:Ev->Prop},Rel K G F σ H ρ->DaAll K F vs ds->YM gs ds ρ Qd->(∀σ' ρ',Rel K G F σ' H ρ'->Qd ρ'->Q σ' H)->CY (gs.map (RQ K)) vs σ H Q
 | [],[],_,σ,ρ,Qd,R,.nil,w,k=>⟨rfl,k σ ρ R w⟩
 | g :: gs,d :: ds,_,σ,ρ,Qd,R,.cons h t,w,k=>⟨_,_,rfl,G,F,ρ,d,_,R,h,w,λσ' ρ' R' w'=>uC (gs:=gs) R' t w' k⟩
 | [],_ :: _,_,σ,ρ,Qd,R,_,w,k=>by exact w.elim
 | _ :: _,[],_,σ,ρ,Qd,R,_,w,k=>by exact w.elim
theorem KN{gs:List WZ}{n:Nat}(hn:gs.length=n)(h:RQ K (ZM gs) v σ H Q):Kq K n (CY (gs.map (RQ K))) v σ H Q:=by
 obtain⟨G,F,ρ,d,Qd,R,hd,w,k⟩:=h
 unfold ZM at w
 split at w
 ·cases hd with
  | tup e t=>exact ⟨_,_,rfl,SqT.of (R.sub _ _ e),by rw[t.length,w.1,hn],uC R t w.2 k⟩
 ·exact w.elim
end
noncomputable def Walks(K:Fg)(J:It)(F:Hp)(ds:List D):Prop:=∀(i:Nat) (H F1:Hp),Sub F F1->Sub F1 H ->
 (∀d,ds[i]?=some d->J.go i H/\∀x H',J.yld i H x H'->∃F2,Sub F1 F2/\(∀b o,F2 b=some o->F1 b=some o\/H b=none)/\Sub F2 H'/\Sub H H'/\Da K F2 x d)/\(ds.length=i->J.stop i H)
noncomputable abbrev AH:=Ev->(List D->Ev->Prop)->Prop
noncomputable def UQ(K:Fg)(ti:AH):TI:=λσ H R=>∃(G:Gh) (F:Hp) (ρ:Ev) (Qd:List D->Ev->Prop),Rel K G F σ H ρ/\ti ρ Qd /\
 ∀J H' F' ds ρ',Sub F F'->Rel K G F' σ H' ρ'->Walks K J F' ds->Qd ds ρ'->R J H'
theorem Rel.turn{K:Fg}{G:Gh}{F F2 H H':Hp}{σ:St}{ρ:Ev}(R:Rel K G F σ H ρ)(s:Sub F F2)(n:∀b o,F2 b=some o->F b=some o\/H b=none)(s2:Sub F2 H')(s3:Sub H H'):Rel K G F2 σ H' ρ where
 len:=R.len
 sub:=s2
 sub0:=R.sub0.trans s
 fn:=λb o e=>by
  rcases n b o e with q|q
  ·exact R.fn b o q
  ·exact .inr (R.h0 q)
 keep:=λa o e m=>s3 _ _ (R.keep a o e m)
 fz:=λi d e=>by
  obtain⟨v,h1,h2⟩:=R.fz i d e
  exact ⟨v,h1,h2.mono s⟩
 ow:=λi t e w=>by
  obtain⟨a,o,h1,h2,h3,h4⟩:=R.ow i t e w
  refine ⟨a,o,h1,?_,s3 _ _ h3,h4.mono s⟩
  cases q:F2 a with
  | none=>rfl
  | some u =>
   rcases n a u q with z|z
   ·rw[h2]at z;cases z
   ·rw[h3]at z;cases z
 new:=R.new
 io:=R.io
 ioi:=R.ioi
 ap:=R.ap
theorem BH{α:Type}{l:List α}{i:Nat}{x:α}(h:l[i]?=some x):l.drop i=x :: l.drop (i+1):=by
 obtain⟨hl,rfl⟩:=W0.mp h
 exact Y2 hl
noncomputable def Xv:Option Sl->Option Sl
 | some (.ow d)=>some (.io d)
 | x=>x
noncomputable def tW(own:List Str)(fr:List Nat)(ρ:Ev):Ev:=own.map (λ_=>none)++fr.map λi=>Xv ((ρ[i]?).getD none)
noncomputable def Yv:Option Sl->Option (Option Sl)->Option Sl
 | some (.ow d),some (some (.io d'))=>some (.ow d')
 | some (.io d),some (some (.io d'))=>some (.io d')
 | x,_=>x
noncomputable def aY(fr:List Nat)(τ:Ev):Nat->Ev->Ev
 | _,[]=>[]
 | j,x :: ρ=>Yv x ((fr.zip τ).lookup j) :: aY fr τ (j+1) ρ
theorem uW(fr:List Nat)(τ:Ev):∀(ρ:Ev) (j i:Nat),(aY fr τ j ρ)[i]?=(ρ[i]?).map λx=>Yv x ((fr.zip τ).lookup (j+i))
 | [],j,i=>by simp[aY]
 | x :: ρ,j,0=>by simp[aY]
 | x :: ρ,j,i+1=>by
  have:=uW fr τ ρ (j+1) i
  simp only[aY,Y4]
  rw[this,show j+1+i=j+(i+1) by omega]
theorem CH(fr:List Nat)(τ:Ev):∀(ρ:Ev) (j:Nat),(aY fr τ j ρ).length=ρ.length
 | [],_=>rfl
 | x :: ρ,j=>by simp[aY,CH fr τ ρ (j+1)]
theorem vW:∀{fr:List Nat}{τ:Ev}{k i:Nat}{x:Option Sl},fr.Nodup->fr[k]?=some i->τ[k]?=some x->(fr.zip τ).lookup i=some x
 | [],_,_,_,_,_,e,_=>by simp at e
 | j :: fr,[],_,_,_,_,_,e=>by simp at e
 | j :: fr,y :: τ,0,i,x,_,e,e'=>by simp at e e';subst e e';simp[Y7]
 | j :: fr,y :: τ,k+1,i,x,nd,e,e'=>by
  have nd':=Z4.mp nd
  simp at e e'
  have hm:i∈fr:=Y1 e
  have ne:(i==j)=false:=by simp;intro z;subst z;exact nd'.1 hm
  simp[Y7,ne]
  exact vW nd'.2 e e'
theorem oJ:∀{fr:List Nat}{τ:Ev}{i:Nat}{x:Option Sl},(fr.zip τ).lookup i=some x->∃k:Nat,fr[k]?=some i/\τ[k]?=some x
 | [],_,_,_,e=>by simp at e
 | j :: fr,[],_,_,e=>by simp at e
 | j :: fr,y :: τ,i,x,e=>by
  by_cases z:i=j
  ·subst z;simp[Y7]at e;subst e;exact ⟨0,by simp,by simp⟩
  ·have ne:(i==j)=false:=by simp[z]
   simp[Y7,ne]at e
   obtain⟨k,h1,h2⟩:=oJ e
   exact ⟨k+1,by simpa using h1,by simpa using h2⟩
noncomputable def kx(σ:St)(ρ:Ev)(i:Nat):Option Addr:=match ρ[i]?,σ[i]? with
 | some (some s),some (some (.ref a))=>if LQ s=true then some a else none
 | _,_=>none
theorem oz{σ:St}{ρ:Ev}{i:Nat}{a:Addr}(h:kx σ ρ i=some a):∃s,ρ[i]?=some (some s)/\LQ s=true/\σ[i]?=some (some (V.ref a)):=by
 unfold kx at h
 split at h
 ·rename_i s b e1 e2
  split at h
  ·rename_i w;cases h;exact ⟨s,e1,w,e2⟩
  ·cases h
 ·cases h
theorem Zv{σ:St}{ρ:Ev}{i:Nat}{a:Addr}{s:Sl}(h1:ρ[i]?=some (some s))(h2:LQ s=true)(h3:σ[i]?=some (some (V.ref a))):kx σ ρ i=some a:=by
 unfold kx;rw[h1,h3];simp[h2]
noncomputable def Tw(own:List Str)(fr:List Nat)(F H:Hp)(σ:St)(ρ:Ev):Gh:=⟨H,F,λj=>if own.length<=j then (match fr[j - own.length]? with|some i=>kx σ ρ i|none=>none) else none⟩
theorem jF{own:List Str}{fr:List Nat}{F H:Hp}{σ:St}{ρ:Ev}{j:Nat}{a:Addr}(h:(Tw own fr F H σ ρ).io j=some a):∃k i s,j=own.length+k/\fr[k]?=some i/\ρ[i]?=some (some s)/\LQ s=true/\σ[i]?=some (some (V.ref a)):=by
 unfold Tw at h
 simp only at h
 split at h
 ·rename_i hl
  split at h
  ·rename_i i e
   obtain⟨s,h1,h2,h3⟩:=oz h
   exact ⟨j - own.length,i,s,by omega,e,h1,h2,h3⟩
  ·cases h
 ·cases h
theorem kF{own:List Str}{fr:List Nat}{F H:Hp}{σ:St}{ρ:Ev}{k i:Nat}{a:Addr}{s:Sl}(h0:fr[k]?=some i)(h1:ρ[i]?=some (some s))(h2:LQ s=true)(h3:σ[i]?=some (some (V.ref a))):(Tw own fr F H σ ρ).io (own.length+k)=some a:=by
 unfold Tw
 simp only
 rw[if_pos (E3 _ _),N3,h0]
 exact Zv h1 h2 h3
theorem pz{α:Type}{own:List Str}{fr:List Nat}{f:Nat->Option α}{j:Nat}{x:α}(h:(own.map (λ_=>(none:Option α))++fr.map f)[j]?=some (some x)):∃k i,j=own.length+k/\fr[k]?=some i/\f i=some x:=by
 by_cases hl:j < own.length
 ·rw[X1 (by simpa using hl)]at h
  simp at h
 ·rw[O1 (by simpa using r8 hl)]at h
  simp at h
  obtain⟨i,h1,h2⟩:=h
  exact ⟨j - own.length,i,by omega,h1,h2⟩
theorem DH{α:Type}{own:List Str}{fr:List Nat}{f:Nat->Option α}{k i:Nat}(h:fr[k]?=some i):(own.map (λ_=>(none:Option α))++fr.map f)[own.length+k]?=some (f i):=by
 rw[O1 (by simp)]
 simp[h]
theorem lx{x:Option Sl}{s:Sl}(h:Xv x=some s):∃s0,x=some s0/\((∃d,s0=.fz d/\s=.fz d)\/(LQ s0=true/\s=.io s0.d)):=by
 cases x with
 | none=>cases h
 | some s0 =>
  cases s0 with
  | fz d=>cases h;exact ⟨_,rfl,.inl ⟨d,rfl,rfl⟩⟩
  | ow d=>cases h;exact ⟨_,rfl,.inr ⟨rfl,rfl⟩⟩
  | io d=>cases h;exact ⟨_,rfl,.inr ⟨rfl,rfl⟩⟩
theorem getD_some{α:Type}{o:Option (Option α)}{x:α}(h:o.getD none=some x):o=some (some x):=by
 cases o with
 | none=>cases h
 | some y=>simp at h;rw[h]
section
variable {K:Fg}{G:Gh}{F F' H H':Hp}{σ τ:St}{ρ μ:Ev}{own:List Str}{fr:List Nat}
theorem VX{j:Nat}{s:Sl}(h:(tW own fr ρ)[j]?=some (some s)):∃k i s0,j=own.length+k/\fr[k]?=some i/\ρ[i]?=some (some s0)/\((∃d,s0=.fz d/\s=.fz d)\/(LQ s0=true/\s=.io s0.d)):=by
 obtain⟨k,i,h1,h2,h3⟩:=pz h
 obtain⟨s0,h4,h5⟩:=lx h3
 exact ⟨k,i,s0,h1,h2,getD_some h4,h5⟩
theorem wW{k i:Nat}(h:fr[k]?=some i):(YB own σ fr)[own.length+k]?=some ((σ[i]?).getD none):=DH (f:=λi=>(σ[i]?).getD none) h
theorem qz{k i:Nat}(h:fr[k]?=some i):(tW own fr ρ)[own.length+k]?=some (Xv ((ρ[i]?).getD none)):=DH (f:=λi=>Xv ((ρ[i]?).getD none)) h
theorem ox{fr:List Nat}(nd:fr.Nodup){k l i:Nat}(a:fr[k]?=some i)(b:fr[l]?=some i):k=l:=by
 obtain⟨h1,e1⟩:=W0.mp a
 obtain⟨h2,e2⟩:=W0.mp b
 exact (List.getElem_inj nd).mp (e1.trans e2.symm)
theorem Rel.inner(R:Rel K G F σ H ρ)(nd:fr.Nodup):Rel K (Tw own fr F H σ ρ) F (YB own σ fr) H (tW own fr ρ) where
 len:=by simp[YB,tI,tW]
 sub:=R.sub
 sub0:=Sub.refl _
 fn:=λ_ _ e=>.inl e
 keep:=λ_ _ e _=>e
 fz:=λj d e=>by
  obtain⟨k,i,s0,rfl,h2,h3,h4⟩:=VX e
  rcases h4 with⟨d0,rfl,z⟩|⟨_,z⟩
  ·cases z
   obtain⟨v,e1,e2⟩:=R.fz i d h3
   exact ⟨v,by rw[wW h2,e1];rfl,e2⟩
  ·cases z
 ow:=λj s e w=>by
  obtain⟨k,i,s0,rfl,h2,h3,h4⟩:=VX e
  rcases h4 with⟨d0,rfl,z⟩|⟨w0,z⟩
  ·cases z;cases w
  ·cases z
   obtain⟨a,o,e1,e2,e3,e4⟩:=R.ow i s0 h3 w0
   exact ⟨a,o,by rw[wW h2,e1];rfl,e2,e3,e4⟩
 new:=λj d a e _=>by
  obtain⟨k,i,s0,rfl,h2,h3,h4⟩:=VX e
  rcases h4 with⟨d0,rfl,z⟩|⟨w0,z⟩<;>cases z
 io:=λj a e=>by
  obtain⟨k,i,s,rfl,h1,h2,h3,h4⟩:=jF e
  refine ⟨s.d,?_,by rw[wW h1,h4];rfl⟩
  rw[qz h1,h2]
  cases s<;>first|rfl|cases h3
 ioi:=λj d e=>by
  obtain⟨k,i,s0,rfl,h2,h3,h4⟩:=VX e
  rcases h4 with⟨d0,rfl,z⟩|⟨w0,z⟩
  ·cases z
  ·obtain⟨a,o,e1,_⟩:=R.ow i s0 h3 w0
   exact ⟨a,kF h2 h3 w0 e1⟩
 ap:=λj l s t a e1 w1 e2 w2 e3 e4=>by
  obtain⟨k,i,s0,rfl,h2,h3,h4⟩:=VX e1
  obtain⟨k',i',s0',rfl,h2',h3',h4'⟩:=VX e2
  have p1:LQ s0=true:=by
   rcases h4 with⟨d0,rfl,z⟩|⟨w0,z⟩
   ·subst z;cases w1
   ·exact w0
  have p2:LQ s0'=true:=by
   rcases h4' with⟨d0,rfl,z⟩|⟨w0,z⟩
   ·subst z;cases w2
   ·exact w0
  rw[wW h2]at e3
  rw[wW h2']at e4
  have q:=R.ap i i' s0 s0' a h3 p1 h3' p2 (getD_some (S1 e3)) (getD_some (S1 e4))
  subst q
  rw[ox nd h2 h2']
theorem pJ(R:Rel K G F σ H ρ)(R':Rel K (Tw own fr F H σ ρ) F' τ H' μ)(nd:fr.Nodup){i:Nat}{s:Sl}(h:(aY fr (μ.drop own.length) 0 ρ)[i]?=some (some s)) :
  ∃s0,ρ[i]?=some (some s0)/\((s=s0/\(LQ s0=true->i∉fr))\/(LQ s0=true/\∃k d',fr[k]?=some i/\μ[own.length+k]?=some (some (Sl.io d'))/\s=s0.put d')):=by
 rw[uW]at h
 cases e:ρ[i]? with
 | none=>rw[e]at h;cases h
 | some x =>
  rw[e]at h
  simp only[P5,T5]at h
  have h:=S1 h
  cases x with
  | none=>simp[Yv]at h
  | some s0 =>
   refine ⟨s0,rfl,?_⟩
   by_cases w0:LQ s0=true
   ·by_cases hm:i∈fr
    ·obtain⟨k,hk⟩:=G5.mp hm
     obtain⟨a,o,e1,_⟩:=R.ow i s0 e w0
     obtain⟨d',g1,g2⟩:=R'.io _ _ (kF (own:=own) (F:=F) (H:=H) hk e w0 e1)
     have z:=vW (τ:=μ.drop own.length) nd hk (by rw[v9];exact g1)
     rw[z]at h
     refine .inr ⟨w0,k,d',hk,g1,?_⟩
     cases s0 with
     | fz d=>cases w0
     | ow d=>simp[Yv]at h;exact h.symm
     | io d=>simp[Yv]at h;exact h.symm
    ·refine .inl ⟨?_,λ_=>hm⟩
     have z:(fr.zip (μ.drop own.length)).lookup i=none:=by
      cases q:(fr.zip (μ.drop own.length)).lookup i with
      | none=>rfl
      | some y =>
       obtain⟨k,h1,_⟩:=oJ q
       exact (hm (Y1 h1)).elim
     rw[z]at h
     cases s0 with
     | fz d=>cases w0
     | ow d=>simp[Yv]at h;exact h.symm
     | io d=>simp[Yv]at h;exact h.symm
   ·refine .inl ⟨?_,λz=>(w0 z).elim⟩
    cases s0 with
    | fz d=>simp[Yv]at h;exact h.symm
    | ow d=>exact (w0 rfl).elim
    | io d=>exact (w0 rfl).elim
theorem vC{d:D}(x:Option (Option Sl)):∃d',Yv (some (.io d)) x=some (.io d'):=by
 rcases x with _|_|(d'|d'|d')
 ·exact ⟨d,rfl⟩
 ·exact ⟨d,rfl⟩
 ·exact ⟨d,rfl⟩
 ·exact ⟨d,rfl⟩
 ·exact ⟨d',rfl⟩
theorem Rel.outer(R:Rel K G F σ H ρ)(R':Rel K (Tw own fr F H σ ρ) F' τ H' μ)(nd:fr.Nodup):Rel K G F' σ H' (aY fr (μ.drop own.length) 0 ρ):=by
 have sb:Sub F F':=R'.sub0
 have owns:∀{i:Nat}{s:Sl},(aY fr (μ.drop own.length) 0 ρ)[i]?=some (some s)->LQ s=true->∃s0,ρ[i]?=some (some s0)/\LQ s0=true:=λ{i s} e w=>by
  obtain⟨s0,h1,h2⟩:=pJ R R' nd e
  rcases h2 with⟨rfl,_⟩|⟨w0,_⟩
  ·exact ⟨s,h1,w⟩
  ·exact ⟨s0,h1,w0⟩
 refine ⟨by rw[CH];exact R.len,R'.sub,R.sub0.trans sb,λa o e=>?_,λa o e n=>?_,λi d e=>?_,λi s e w=>?_,λi d a e ea=>?_,λi a e=>?_,λi d e=>?_,λi j s t a e1 w1 e2 w2 e3 e4=>?_⟩
 ·rcases R'.fn a o e with q|q
  ·exact R.fn a o q
  ·exact .inr (R.h0 q)
 ·refine R'.keep a o (R.keep a o e n) λj z=>?_
  obtain⟨k,i,s,rfl,h1,h2,h3,h4⟩:=jF z
  cases s with
  | fz d=>cases h3
  | ow d=>rw[R.new i d a h2 h4]at e;cases e
  | io d =>
   obtain⟨a',g⟩:=R.ioi i d h2
   obtain⟨_,_,g2⟩:=R.io i a' g
   rw[h4]at g2;cases g2
   exact n i g
 ·obtain⟨s0,h1,h2⟩:=pJ R R' nd e
  rcases h2 with⟨rfl,_⟩|⟨w0,k,d',_,_,z⟩
  ·obtain⟨v,g1,g2⟩:=R.fz i d h1
   exact ⟨v,g1,g2.mono sb⟩
  ·cases s0<;>simp[Sl.put,LQ]at z w0
 ·obtain⟨s0,h1,h2⟩:=pJ R R' nd e
  rcases h2 with⟨rfl,hm⟩|⟨w0,k,d',hk,hd,rfl⟩
  ·obtain⟨a,o,g1,g2,g3,g4⟩:=R.ow i s h1 w
   have nio:∀j,(Tw own fr F H σ ρ).io j≠some a:=λj z=>by
    obtain⟨k,i',s',rfl,q1,q2,q3,q4⟩:=jF z
    have:=R.ap i i' s s' a h1 w q2 q3 g1 q4
    subst this
    exact hm w (Y1 q1)
   refine ⟨a,o,g1,?_,R'.keep a o g3 nio,g4.mono sb⟩
   cases q:F' a with
   | none=>rfl
   | some u =>
    rcases R'.fn a u q with z|z
    ·have z:F a=some u:=z
     rw[g2]at z;cases z
    ·have z:H a=none:=z
     rw[g3]at z;cases z
  ·obtain⟨a,o,g1,g2,g3,g4⟩:=R.ow i s0 h1 w0
   obtain⟨d2,q1,q2⟩:=R'.io _ _ (kF (own:=own) (F:=F) (H:=H) hk h1 w0 g1)
   obtain⟨a',o',p1,p2,p3,p4⟩:=R'.ow _ _ hd rfl
   rw[q2]at p1;cases p1
   exact ⟨a,o',g1,p2,p3,by cases s0<;>first|exact p4|cases w0⟩
 ·obtain⟨s0,h1,h2⟩:=pJ R R' nd e
  rcases h2 with⟨rfl,_⟩|⟨w0,k,d',_,_,z⟩
  ·exact R.new i d a h1 ea
  ·cases s0 with
   | fz d=>cases w0
   | ow d0=>exact R.new i d0 a h1 ea
   | io d0=>cases z
 ·obtain⟨d,h1,h2⟩:=R.io i a e
  obtain⟨d',hd⟩:=vC (d:=d) ((fr.zip (μ.drop own.length)).lookup i)
  exact ⟨d',by rw[uW,h1];simp only[P5,T5];rw[hd],h2⟩
 ·obtain⟨s0,h1,h2⟩:=pJ R R' nd e
  rcases h2 with⟨rfl,_⟩|⟨w0,k,d',_,_,z⟩
  ·exact R.ioi i d h1
  ·cases s0 with
   | fz d=>cases w0
   | ow d0=>cases z
   | io d0=>exact R.ioi i d0 h1
 ·obtain⟨s0,g1,g2⟩:=owns e1 w1
  obtain⟨t0,g3,g4⟩:=owns e2 w2
  exact R.ap i j s0 t0 a g1 g2 g3 g4 e3 e4
end
noncomputable abbrev Con:=List Sl->(Sl->Ev->Prop)->Prop
noncomputable def eQ(K:Fg)(con:Con):Sp:=λvs H Q _=>∃(G:Gh) (F:Hp) (args:List Sl) (Qd:Sl->Ev->Prop),Rel K G F (vs.map some) H (args.map some)/\con args Qd /\
 ∀v H' F' r ρ',Sub F F'->Rel K G F' (vs.map some) H' ρ'->Res K G F' H' (vs.map some) ρ' v r->Qd r ρ'->Q v H'
mutual
noncomputable def noMut:D->Bool
 | .none=>true
 | .bool _=>true
 | .int _=>true
 | .str _=>true
 | .tuple xs=>noMutAll xs
 | .list _=>false
 | .dict _=>false
noncomputable def noMutAll:List D->Bool
 | []=>true
 | x :: xs=>noMut x&&noMutAll xs
end
section
variable {K:Fg}{F F':Hp}
mutual
theorem Da.noMut(h:∀b xs,F b=some (.tup xs)->F' b=some (.tup xs)):∀{v:V}{d:D},Da K F v d->noMut d=true->Da K F' v d
 | _,_,.non,_=>.non
 | _,_,.bl b,_=>.bl b
 | _,_,.int i,_=>.int i
 | _,_,.str x,_=>.str x
 | _,_,.lst _ _,z=>by simp[L3.noMut]at z
 | _,_,.tup e t,z=>.tup (h _ _ e) (DaAll.noMut h t (by simpa [L3.noMut]using z))
 | _,_,.dk _ _,z=>by simp[L3.noMut]at z
 | _,_,.dt _ _,z=>by simp[L3.noMut]at z
 | _,_,.scr _,z=>by simp[L3.noMut,pK]at z
theorem DaAll.noMut(h:∀b xs,F b=some (.tup xs)->F' b=some (.tup xs)):∀{xs:List V}{ds:List D},DaAll K F xs ds->noMutAll ds=true->DaAll K F' xs ds
 | _,_,.nil,_=>.nil
 | _,_,.cons a t,z=>by
  simp[noMutAll]at z
  exact .cons (Da.noMut h a z.1) (DaAll.noMut h t z.2)
end
end
noncomputable def aX(ρ:Ev):List wU->Bool
 | []=>false
 | .inr _ :: xs=>aX ρ xs
 | .inl i :: xs=>(match ρ[i]? with|some (some s)=>LQ s|_=>false)||aX ρ xs
noncomputable def EH(con:Con)(as:List AD):TD:=λρ Q=>yX as ρ λxs ρ1=>PQ ρ1 xs λds=>con (ds.map Sl.fz) λr _=>match aX ρ1 xs with
 | false=>Q r ρ1
 | true=>noMut r.d=true/\Q r ρ1
noncomputable def qx(con:Con)(i:Nat)(xs:List wU)(ρ1:Ev)(Q:Sl->Ev->Prop):Prop:=match ρ1[i]? with
 | some (some s)=>match LQ s,aX ρ1 xs with
  | true,false=>PQ ρ1 xs λds=>con (.io s.d :: ds.map Sl.fz) λr outs=>match outs with
   | some (.io d') :: _=>Q r (ρ1.set i (some (s.put d')))
   | _=>False
  | _,_=>False
 | _=>False
noncomputable def yU(con:Con)(i:Nat)(as:List AD):TD:=λρ Q=>yX (.inl i :: as) ρ λxs ρ1=>qx con i xs.tail ρ1 Q
noncomputable def LentA(σ:St)(ρ:Ev)(xs:List wU)(a:Addr):Prop:=∃(i:Nat) (s:Sl),Sum.inl i∈xs/\ρ[i]?=some (some s)/\LQ s=true/\σ[i]?=some (some (V.ref a))
theorem UJ{σ:St}{ρ:Ev}:∀{xs:List wU}{a:Addr},LentA σ ρ xs a->aX ρ xs=true
 | [],a,⟨i,s,h,_⟩=>by cases h
 | .inr d :: xs,a,⟨i,s,h,h1,h2,h3⟩=>by
  rcases B2.mp h with h|h
  ·cases h
  ·exact UJ (xs:=xs) ⟨i,s,h,h1,h2,h3⟩
 | .inl j :: xs,a,⟨i,s,h,h1,h2,h3⟩=>by
  unfold aX
  rcases B2.mp h with h|h
  ·cases h;rw[h1];simp[h2]
  ·rw[UJ (xs:=xs) ⟨i,s,h,h1,h2,h3⟩];simp
open Classical in
noncomputable def qJ(σ:St)(ρ:Ev)(xs:List wU)(F H:Hp):Hp:=λb=>if LentA σ ρ xs b then H b else F b
open Classical in
noncomputable def LX(σ:St)(ρ:Ev)(xs:List wU)(F:Hp):Hp:=λb=>if LentA σ ρ xs b then none else F b
section
variable {K:Fg}{G:Gh}{F F' H H':Hp}{σ:St}{ρ:Ev}{xs:List wU}
theorem rK{b:Addr}(h:¬LentA σ ρ xs b):qJ σ ρ xs F H b=F b:=by unfold qJ;rw[if_neg h]
theorem OY{b:Addr}(h:LentA σ ρ xs b):qJ σ ρ xs F H b=H b:=by unfold qJ;rw[if_pos h]
theorem WX{b:Addr}(h:¬LentA σ ρ xs b):LX σ ρ xs F b=F b:=by unfold LX;rw[if_neg h]
theorem tz{b:Addr}(h:LentA σ ρ xs b):LX σ ρ xs F b=none:=by unfold LX;rw[if_pos h]
theorem LentA.own(R:Rel K G F σ H ρ){b:Addr}(h:LentA σ ρ xs b):∃(i:Nat) (s:Sl) (o:HO),ρ[i]?=some (some s)/\LQ s=true/\σ[i]?=some (some (V.ref b))/\F b=none/\H b=some o/\Own1 K F o s.d:=by
 obtain⟨i,s,_,h1,h2,h3⟩:=h
 obtain⟨a,o,g1,g2,g3,g4⟩:=R.ow i s h1 h2
 rw[h3]at g1;cases g1
 exact ⟨i,s,o,h1,h2,h3,g2,g3,g4⟩
theorem sK(R:Rel K G F σ H ρ):Sub F (qJ σ ρ xs F H):=λb o e=>by
 have n:¬LentA σ ρ xs b:=λz=>by
  obtain⟨_,_,_,_,_,_,h,_⟩:=z.own R
  rw[h]at e;cases e
 rw[rK n];exact e
theorem wD(R:Rel K G F σ H ρ):Sub (qJ σ ρ xs F H) H:=λb o e=>by
 by_cases z:LentA σ ρ xs b
 ·rw[OY z]at e;exact e
 ·rw[rK z]at e;exact R.sub _ _ e
theorem xW(R:Rel K G F σ H ρ){ys:List wU}{vs:List V}{k:List D->Prop}(m:∀y∈ys,y∈xs)(o:OpdsAt K F σ vs ys)(h:PQ ρ ys k):∃ds,DaAll K (qJ σ ρ xs F H) vs ds/\k ds:=by
 induction o generalizing k with
 | nil=>exact ⟨[],.nil,h⟩
 | @cons v x vs ys o t ih =>
  cases x with
  | inr d =>
   obtain⟨ds,a,q⟩:=ih (k:=λds=>k (d :: ds)) (λy hy=>m y (u0 _ hy)) h
   exact ⟨d :: ds,.cons (Da.mono (sK R) o) a,q⟩
  | inl i =>
   unfold PQ at h
   split at h
   ·rename_i s e
    obtain⟨ds,a,q⟩:=ih (k:=λds=>k (s.d :: ds)) (λy hy=>m y (u0 _ hy)) h
    refine ⟨s.d :: ds,.cons ?_ a,q⟩
    have o:σ[i]?=some (some v):=o
    have own:LQ s=true->Da K (qJ σ ρ xs F H) v s.d:=λw=>by
     obtain⟨b,u,h1,h2,h3,h4⟩:=R.ow i s e w
     rw[o]at h1;cases h1
     have l:LentA σ ρ xs b:=⟨i,s,m _ A0,e,w,o⟩
     exact (h4.mono (sK R)).da (by rw[OY l];exact h3)
    cases s with
    | fz d =>
     obtain⟨v,e1,e2⟩:=R.fz i d e
     rw[o]at e1;cases e1
     exact e2.mono (sK R)
    | ow d=>exact own rfl
    | io d=>exact own rfl
   ·exact h.elim
theorem uz{o:HO}{d:D}(h:Own1 K F o d):noMut d=false:=by
 cases o<;>cases d<;>first|rfl|exact h.elim
theorem EZ{ds:List D}{i:Nat}{s:Sl}(h:((ds.map Sl.fz).map some)[i]?=some (some s)):∃d,ds[i]?=some d/\s=.fz d:=by
 rw[P0,X0]at h
 cases e:ds[i]? with
 | none=>rw[e]at h;cases h
 | some d=>rw[e]at h;cases h;exact ⟨d,rfl,rfl⟩
theorem wC{vs:List V}{i:Nat}{v:V}(h:vs[i]?=some v):(vs.map some)[i]?=some (some v):=by rw[X0,h];rfl
theorem FH{vs:List V}{ds:List D}(s:Sub F H)(da:DaAll K F vs ds):Rel K ⟨H,F,λ_=>none⟩ F (vs.map some) H ((ds.map Sl.fz).map some) where
 len:=by simp[da.length]
 sub:=s
 sub0:=Sub.refl _
 fn:=λ_ _ e=>.inl e
 keep:=λ_ _ e _=>e
 fz:=λi d e=>by
  obtain⟨d',e1,e2⟩:=EZ e
  cases e2
  obtain⟨v,h1,h2⟩:=da.get e1
  exact ⟨v,wC h1,h2⟩
 ow:=λi s e w=>by obtain⟨d',e1,rfl⟩:=EZ e;cases w
 new:=λi d a e _=>by obtain⟨d',e1,e2⟩:=EZ e;cases e2
 io:=λi a e=>by cases e
 ioi:=λi d e=>by obtain⟨d',e1,e2⟩:=EZ e;cases e2
 ap:=λi j s t a e w _ _ _ _=>by obtain⟨d',e1,rfl⟩:=EZ e;cases w
theorem Rel.called(R:Rel K G F σ H ρ){σ1:St}{ρ1:Ev}(R':Rel K ⟨H,qJ σ ρ xs F H,λ_=>none⟩ F' σ1 H' ρ1):Sub F (LX σ ρ xs F')/\Rel K G (LX σ ρ xs F') σ H' ρ:=by
 have nl:∀{b:Addr}{o:HO},F b=some o->¬LentA σ ρ xs b:=λ{b o} e z=>by
  obtain⟨_,_,_,_,_,_,h,_⟩:=z.own R
  rw[h]at e;cases e
 have sb:Sub F (LX σ ρ xs F'):=λb o e=>by
  rw[WX (nl e)]
  exact R'.sub0 _ _ (sK R _ _ e)
 have ul:∀{b:Addr}{o:HO},LX σ ρ xs F' b=some o->¬LentA σ ρ xs b/\F' b=some o:=λ{b o} e=>by
  by_cases z:LentA σ ρ xs b
  ·rw[tz z]at e;cases e
  ·rw[WX z]at e;exact ⟨z,e⟩
 have kp:∀{b:Addr}{o:HO},H b=some o->H' b=some o:=λ{b o} e=>R'.keep b o e λi z=>by cases z
 refine ⟨sb,R.len,λb o e=>R'.sub _ _ (ul e).2,R.sub0.trans sb,λb o e=>?_,λa o e n=>kp (R.keep a o e n),λi d e=>?_,λi s e w=>?_,R.new,R.io,R.ioi,R.ap⟩
 ·obtain⟨n,e⟩:=ul e
  rcases R'.fn b o e with q|q
  ·have q:qJ σ ρ xs F H b=some o:=q
   rw[rK n]at q
   exact R.fn b o q
  ·exact .inr (R.h0 q)
 ·obtain⟨v,h1,h2⟩:=R.fz i d e
  exact ⟨v,h1,h2.mono sb⟩
 ·obtain⟨a,o,h1,h2,h3,h4⟩:=R.ow i s e w
  refine ⟨a,o,h1,?_,kp h3,h4.mono sb⟩
  cases q:LX σ ρ xs F' a with
  | none=>rfl
  | some u =>
   obtain⟨n,q⟩:=ul q
   rcases R'.fn a u q with z|z
   ·have z:qJ σ ρ xs F H a=some u:=z
    rw[rK n,h2]at z;cases z
   ·have z:H a=none:=z
    rw[h3]at z;cases z
theorem Res.called(R:Rel K G F σ H ρ){σ1:St}{ρ1:Ev}{v:V}{r:Sl}(R':Rel K ⟨H,qJ σ ρ xs F H,λ_=>none⟩ F' σ1 H' ρ1)(q:Res K ⟨H,qJ σ ρ xs F H,λ_=>none⟩ F' H' σ1 ρ1 v r)
  (hl:aX ρ xs=true->noMut r.d=true):Res K G (LX σ ρ xs F') H' σ ρ v r:=by
 have tp:∀b ys,F' b=some (.tup ys)->LX σ ρ xs F' b=some (.tup ys):=λb ys e=>by
  have n:¬LentA σ ρ xs b:=λz=>by
   obtain⟨_,_,o,_,_,_,_,h,w⟩:=z.own R
   have e2:=R'.sub0 b o (by show qJ σ ρ xs F H b=some o;rw[OY z];exact h)
   rw[e]at e2;cases e2
   exact w
  rw[WX n];exact e
 by_cases l:aX ρ xs=true
 ·cases r with
  | fz d=>exact Da.noMut tp q (hl l)
  | ow d =>
   obtain⟨a,o,_,_,_,w,_⟩:=q
   have:=hl l
   rw[show (Sl.ow d).d=d from rfl,uz w]at this;cases this
  | io d=>exact q.elim
 ·have e:LX σ ρ xs F'=F':=funext λb=>WX λz=>l (UJ z)
  rw[e]
  cases r with
  | fz d=>exact q
  | io d=>exact q.elim
  | ow d =>
   obtain⟨a,o,h1,h2,h3,h4,h5,_⟩:=q
   refine ⟨a,o,h1,h2,h3,h4,R.h0 h5,λi s es w z=>?_⟩
   obtain⟨a',o',g1,_,g3,_⟩:=R.ow i s es w
   rw[z]at g1;cases g1
   have h5:H a=none:=h5
   rw[h5]at g3;cases g3
theorem xC{con:Con}{as:List AD}{E:XK}{Q:VK}(h:lift K (EH con as) σ H Q):vY (eQ K con) [] E (tQ (as.map (pQ K))) σ H Q:=by
 obtain⟨G,F,ρ,Qd,R,w,k⟩:=h
 refine lX R w λvs H1 F1 xs ρ1 s1 R1 o w1=>?_
 obtain⟨ds,da,w1⟩:=xW (xs:=xs) R1 (λy hy=>hy) o w1
 rw[P2]
 refine ⟨_,_,ds.map Sl.fz,_,FH (wD R1) da,w1,λv H' F' r ρ' s' R' r' q=>?_⟩
 obtain⟨sb,R2⟩:=R1.called R'
 have hq:(aX ρ1 xs=true->noMut r.d=true)/\Qd r ρ1:=by
  split at q
  ·rename_i e;exact ⟨λz=>(by rw[e]at z;cases z),q⟩
  ·exact ⟨λ_=>q.1,q.2⟩
 exact k v H' _ r ρ1 (s1.trans sb) R2 (Res.called R1 R' r' hq.1) hq.2
end
section
variable {K:Fg}{G:Gh}{F F' H H':Hp}{σ:St}{ρ:Ev}{xs:List wU}
noncomputable def aN(a:Addr):Nat->Option Addr:=λj=>if j=0 then some a else none
theorem GH{a b:Addr}{j:Nat}(h:aN a j=some b):j=0/\b=a:=by
 unfold aN at h
 split at h
 ·rename_i z;cases h;exact ⟨z,rfl⟩
 ·cases h
theorem vz{vs:List V}{ds:List D}{a:Addr}{o:HO}{d:D}(s:Sub F H)(h1:F a=none)(h2:H a=some o)(h3:Own1 K F o d)(da:DaAll K F vs ds) :
  Rel K ⟨H,F,aN a⟩ F ((V.ref a :: vs).map some) H ((Sl.io d :: ds.map Sl.fz).map some) where
 len:=by simp[da.length]
 sub:=s
 sub0:=Sub.refl _
 fn:=λ_ _ e=>.inl e
 keep:=λ_ _ e _=>e
 fz:=λi d' e=>by
  cases i with
  | zero=>simp at e
  | succ i =>
   have e:((ds.map Sl.fz).map some)[i]?=some (some (Sl.fz d')):=by simpa using e
   obtain⟨d2,e1,e2⟩:=EZ e
   cases e2
   obtain⟨v,g1,g2⟩:=da.get e1
   exact ⟨v,by simpa using g1,g2⟩
 ow:=λi s e w=>by
  cases i with
  | zero=>simp at e;subst e;exact ⟨a,o,by simp,h1,h2,h3⟩
  | succ i =>
   have e:((ds.map Sl.fz).map some)[i]?=some (some s):=by simpa using e
   obtain⟨d2,e1,rfl⟩:=EZ e
   cases w
 new:=λi d' b e _=>by
  cases i with
  | zero=>simp at e
  | succ i =>
   have e:((ds.map Sl.fz).map some)[i]?=some (some (Sl.ow d')):=by simpa using e
   obtain⟨d2,e1,e2⟩:=EZ e
   cases e2
 io:=λi b e=>by
  obtain⟨rfl,rfl⟩:=GH e
  exact ⟨d,by simp,by simp⟩
 ioi:=λi d' e=>by
  cases i with
  | zero=>exact ⟨a,rfl⟩
  | succ i =>
   have e:((ds.map Sl.fz).map some)[i]?=some (some (Sl.io d')):=by simpa using e
   obtain⟨d2,e1,e2⟩:=EZ e
   cases e2
 ap:=λi j s t b e1 w1 e2 w2 _ _=>by
  have f:∀{i:Nat}{s:Sl},((Sl.io d :: ds.map Sl.fz).map some)[i]?=some (some s)->LQ s=true->i=0:=λ{i s} e w=>by
   cases i with
   | zero=>rfl
   | succ i =>
    have e:((ds.map Sl.fz).map some)[i]?=some (some s):=by simpa using e
    obtain⟨d2,e1,rfl⟩:=EZ e
    cases w
  rw[f e1 w1,f e2 w2]
theorem Rel.calledI(R:Rel K G F σ H ρ){i:Nat}{s:Sl}{a:Addr}{d':D}{σ1:St}{ρ1:Ev}(e:ρ[i]?=some (some s))(w:LQ s=true)(ea:σ[i]?=some (some (V.ref a)))
  (R':Rel K ⟨H,F,aN a⟩ F' (some (V.ref a) :: σ1) H' (some (Sl.io d') :: ρ1)):Rel K G F' σ H' (ρ.set i (some (s.put d'))):=by
 obtain⟨a0,o0,g1,g2,g3,g4⟩:=R.ow i s e w
 rw[ea]at g1;cases g1
 have sb:Sub F F':=R'.sub0
 have hl:=oX e
 have kp:∀{b:Addr}{o:HO},b≠a->H b=some o->H' b=some o:=λ{b o} n q=>R'.keep b o q λj z=>n (GH z).2
 have ow':∀{j:Nat}{t:Sl},j≠i->ρ[j]?=some (some t)->LQ t=true->∃b o,σ[j]?=some (some (V.ref b))/\F' b=none/\H' b=some o/\Own1 K F' o t.d:=λ{j t} n q wt=>by
  obtain⟨b,o,q1,q2,q3,q4⟩:=R.ow j t q wt
  have nb:b≠a:=λz=>n (R.ap j i t s a q wt e w (by rw[q1,z]) ea)
  refine ⟨b,o,q1,?_,kp nb q3,q4.mono sb⟩
  cases z:F' b with
  | none=>rfl
  | some u =>
   rcases R'.fn b u z with y|y
   ·have y:F b=some u:=y
    rw[q2]at y;cases y
   ·have y:H b=none:=y
    rw[q3]at y;cases y
 refine ⟨by rw[i4];exact R.len,R'.sub,R.sub0.trans sb,λb o q=>?_,λb o q n=>?_,λj d q=>?_,λj t q wt=>?_,λj d b q eb=>?_,λj b q=>?_,λj d q=>?_,λj k t u b e1 w1 e2 w2 e3 e4=>?_⟩
 ·rcases R'.fn b o q with y|y
  ·exact R.fn b o y
  ·exact .inr (R.h0 y)
 ·refine kp (λz=>?_) (R.keep b o q n)
  subst z
  cases s with
  | fz d=>cases w
  | ow d=>rw[R.new i d b e ea]at q;cases q
  | io d =>
   obtain⟨a',y⟩:=R.ioi i d e
   obtain⟨_,_,y2⟩:=R.io i a' y
   rw[ea]at y2;cases y2
   exact n i y
 ·rcases oQ q with⟨rfl,z⟩|⟨n,z⟩
  ·cases s<;>simp[Sl.put,LQ]at z w
  ·obtain⟨v,y1,y2⟩:=R.fz j d z
   exact ⟨v,y1,y2.mono sb⟩
 ·rcases oQ q with⟨rfl,z⟩|⟨n,z⟩
  ·cases z
   obtain⟨b,o,y1,y2,y3,y4⟩:=R'.ow 0 (.io d') (by simp) rfl
   simp at y1;subst y1
   exact ⟨a,o,ea,y2,y3,by cases s<;>first|exact y4|cases w⟩
  ·exact ow' n z wt
 ·rcases oQ q with⟨rfl,z⟩|⟨n,z⟩
  ·cases s with
   | fz d=>cases w
   | ow d0=>exact R.new j d0 b e eb
   | io d0=>cases z
  ·exact R.new j d b z eb
 ·obtain⟨d,y1,y2⟩:=R.io j b q
  by_cases z:j=i
  ·subst z
   rw[e]at y1;cases y1
   exact ⟨d',by rw[hZ hl];rfl,y2⟩
  ·exact ⟨d,by rw[O0 (L1 z)];exact y1,y2⟩
 ·rcases oQ q with⟨rfl,z⟩|⟨n,z⟩
  ·cases s with
   | fz d=>cases w
   | ow d0=>cases z
   | io d0=>exact R.ioi j d0 e
  ·exact R.ioi j d z
 ·have f:∀(j:Nat) (t:Sl),(ρ.set i (some (s.put d')))[j]?=some (some t)->LQ t=true->∃t',ρ[j]?=some (some t')/\LQ t'=true:=λj t q wt=>by
   rcases oQ q with⟨rfl,z⟩|⟨n,z⟩
   ·exact ⟨s,e,w⟩
   ·exact ⟨t,z,wt⟩
  obtain⟨t',e1',w1'⟩:=f j t e1 w1
  obtain⟨u',e2',w2'⟩:=f k u e2 w2
  exact R.ap j k t' u' b e1' w1' e2' w2' e3 e4
theorem bX(R:Rel K G F σ H ρ){ys:List wU}{vs:List V}{k:List D->Prop}(m:aX ρ ys=false)(o:OpdsAt K F σ vs ys)(h:PQ ρ ys k):∃ds,DaAll K F vs ds/\k ds:=by
 induction o generalizing k with
 | nil=>exact ⟨[],.nil,h⟩
 | @cons v x vs ys o t ih =>
  cases x with
  | inr d =>
   obtain⟨ds,a,q⟩:=ih (k:=λds=>k (d :: ds)) m h
   exact ⟨d :: ds,.cons o a,q⟩
  | inl i =>
   unfold PQ at h
   unfold aX at m
   simp only[Bool.or_eq_false_iff]at m
   split at h
   ·rename_i s e
    obtain⟨ds,a,q⟩:=ih (k:=λds=>k (s.d :: ds)) m.2 h
    refine ⟨s.d :: ds,.cons ?_ a,q⟩
    have m1:=m.1
    rw[e]at m1
    cases s with
    | fz d =>
     obtain⟨v',e1,e2⟩:=R.fz i d e
     have o:σ[i]?=some (some v):=o
     rw[o]at e1;cases e1
     exact e2
    | ow d=>cases m1
    | io d=>cases m1
   ·exact h.elim
theorem ay{con:Con}{i:Nat}{as:List AD}{E:XK}{Q:VK}(h:lift K (yU con i as) σ H Q):vY (eQ K con) [] E (tQ ((.inl i :: as).map (pQ K))) σ H Q:=by
 obtain⟨G,F,ρ,Qd,R,w,k⟩:=h
 unfold yU yX at w
 split at w
 ·rename_i s0 e0
  obtain⟨v,ev⟩:=R.bound e0
  refine ⟨v,ev,lX R w λvs H1 F1 xs ρ1 s1 R1 o w1=>?_⟩
  show eQ K con (v :: vs++[]) H1 Q E
  rw[P2]
  have w1:qx con i xs ρ1 Qd:=w1
  unfold qx at w1
  split at w1
  ·rename_i s e
   split at w1
   ·rename_i p1 p2
    obtain⟨a,o',g1,g2,g3,g4⟩:=R1.ow i s e p1
    rw[ev]at g1;cases g1
    obtain⟨ds,da,w1⟩:=bX R1 p2 o w1
    refine ⟨_,F1,.io s.d :: ds.map Sl.fz,_,vz R1.sub g2 g3 g4 da,w1,λv H' F' r ρ' s' R' r' q=>?_⟩
    split at q
    ·rename_i d' ρ2
     have R2:=R1.calledI e p1 ev R'
     refine k v H' F' r _ (s1.trans s') R2 ?_ q
     cases r with
     | fz d=>exact r'
     | io d=>exact r'.elim
     | ow d =>
      obtain⟨b,u,h1,h2,h3,h4,h5,_⟩:=r'
      have h5:H1 b=none:=h5
      refine ⟨b,u,h1,h2,h3,h4,R1.h0 h5,λj t es w z=>?_⟩
      have own:∃t',ρ1[j]?=some (some t')/\LQ t'=true:=by
       rcases oQ es with⟨rfl,y⟩|⟨n,y⟩
       ·exact ⟨s,e,p1⟩
       ·exact ⟨t,y,w⟩
      obtain⟨t',y1,y2⟩:=own
      obtain⟨a',o',q1,_,q3,_⟩:=R1.ow j t' y1 y2
      rw[z]at q1;cases q1
      rw[h5]at q3;cases q3
    ·exact q.elim
   ·exact w1.elim
  ·exact w1.elim
 ·exact w.elim
noncomputable def yW(n:Nat)(args:List Sl):Ev:=args.map some++V1 (n - args.length) none
noncomputable def outs:List Sl->Ev->Ev
 | [],_=>[]
 | .io _ :: as,ρ=>(ρ.headD none) :: outs as ρ.tail
 | .fz d :: as,ρ=>some (.fz d) :: outs as ρ.tail
 | .ow d :: as,ρ=>some (.ow d) :: outs as ρ.tail
theorem MX{α:Type}{l:List (Option α)}{n i:Nat}{x:α}(h:(l++V1 n none)[i]?=some (some x)):l[i]?=some (some x):=by
 by_cases z:i < l.length
 ·rw[X1 z]at h;exact h
 ·rw[O1 (r8 z),y8]at h
  split at h<;>cases h
theorem tK{α:Type}{l m:List α}{i:Nat}{x:α}(h:l[i]?=some x):(l++m)[i]?=some x:=by rw[X1 (oX h)];exact h
theorem Rel.start{vs:List V}{args:List Sl}{N:List Str}(R:Rel K G F (vs.map some) H (args.map some)):Rel K G F (L2.start N vs) H (yW N.length args) where
 len:=by have:=R.len;simp[L2.start,yW]at this ⊢;omega
 sub:=R.sub
 sub0:=R.sub0
 fn:=R.fn
 keep:=R.keep
 fz:=λi d e=>by
  obtain⟨v,h1,h2⟩:=R.fz i d (MX e)
  exact ⟨v,tK h1,h2⟩
 ow:=λi s e w=>by
  obtain⟨a,o,h1,h2⟩:=R.ow i s (MX e) w
  exact ⟨a,o,tK h1,h2⟩
 new:=λi d a e ea=>R.new i d a (MX e) (MX ea)
 io:=λi a e=>by
  obtain⟨d,h1,h2⟩:=R.io i a e
  exact ⟨d,tK h1,tK h2⟩
 ioi:=λi d e=>R.ioi i d (MX e)
 ap:=λi j s t a e1 w1 e2 w2 e3 e4=>R.ap i j s t a (MX e1) w1 (MX e2) w2 (MX e3) (MX e4)
theorem JZ:∀{args:List Sl}{ρ:Ev}{i:Nat}{s:Sl},(outs args ρ)[i]?=some (some s)->(∃d,args[i]?=some (.io d)/\ρ[i]?=some (some s))\/(args[i]?=some s/\∀d,s≠.io d)
 | [],ρ,i,s,h=>by simp[outs]at h
 | .io d :: as,ρ,0,s,h=>by
  simp[outs]at h
  cases ρ with
  | nil=>simp at h
  | cons x ρ=>simp at h;exact .inl ⟨d,by simp,by simp[h]⟩
 | .fz d :: as,ρ,0,s,h=>by simp[outs]at h;subst h;exact .inr ⟨by simp,λd z=>by cases z⟩
 | .ow d :: as,ρ,0,s,h=>by simp[outs]at h;subst h;exact .inr ⟨by simp,λd z=>by cases z⟩
 | .io d :: as,ρ,i+1,s,h=>by
  simp only[outs,Y4]at h
  rcases JZ h with⟨d,h1,h2⟩|⟨h1,h2⟩
  ·exact .inl ⟨d,by simpa using h1,by cases ρ with|nil=>simp at h2|cons x ρ=>simpa using h2⟩
  ·exact .inr ⟨by simpa using h1,h2⟩
 | .fz d :: as,ρ,i+1,s,h=>by
  simp only[outs,Y4]at h
  rcases JZ h with⟨d,h1,h2⟩|⟨h1,h2⟩
  ·exact .inl ⟨d,by simpa using h1,by cases ρ with|nil=>simp at h2|cons x ρ=>simpa using h2⟩
  ·exact .inr ⟨by simpa using h1,h2⟩
 | .ow d :: as,ρ,i+1,s,h=>by
  simp only[outs,Y4]at h
  rcases JZ h with⟨d,h1,h2⟩|⟨h1,h2⟩
  ·exact .inl ⟨d,by simpa using h1,by cases ρ with|nil=>simp at h2|cons x ρ=>simpa using h2⟩
  ·exact .inr ⟨by simpa using h1,h2⟩
theorem xD:∀{args:List Sl}{ρ:Ev}{i:Nat}{d:D}{x:Option Sl},args[i]?=some (.io d)->ρ[i]?=some x->(outs args ρ)[i]?=some x
 | [],_,_,_,_,h,_=>by simp at h
 | _ :: _,[],_,_,_,_,h=>by simp at h
 | s :: as,y :: ρ,0,d,x,h,h'=>by simp at h h';subst h h';simp[outs]
 | s :: as,y :: ρ,i+1,d,x,h,h'=>by
  have:=xD (args:=as) (ρ:=ρ) (i:=i) (by simpa using h) (by simpa using h')
  cases s<;>simpa [outs]using this
theorem HH:∀(args:List Sl) (ρ:Ev),(outs args ρ).length=args.length
 | [],_=>rfl
 | s :: as,ρ=>by cases s<;>simp[outs,HH as]
theorem sx{args:List Sl}{i:Nat}{s:Sl}(h:(args.map some)[i]?=some (some s)):args[i]?=some s:=by
 rw[X0]at h
 cases e:args[i]? with
 | none=>rw[e]at h;cases h
 | some x=>rw[e]at h;cases h;rfl
theorem uK{args:List Sl}{i:Nat}{s:Sl}(h:args[i]?=some s):(args.map some)[i]?=some (some s):=by rw[X0,h];rfl
theorem Rel.ret{vs:List V}{args:List Sl}{σ':St}{ρ':Ev}(hn:∀s∈args,∀d,s≠.ow d)(R:Rel K G F (vs.map some) H (args.map some))(sb:Sub F F')(R':Rel K G F' σ' H' ρ'):Rel K G F' (vs.map some) H' (outs args ρ'):=by
 have own:∀{i:Nat}{s:Sl},(outs args ρ')[i]?=some (some s)->LQ s=true->∃d a,args[i]?=some (.io d)/\ρ'[i]?=some (some s)/\G.io i=some a/\(vs.map some)[i]?=some (some (V.ref a))/\σ'[i]?=some (some (V.ref a)):=λ{i s} e w=>by
  rcases JZ e with⟨d,h1,h2⟩|⟨h1,h2⟩
  ·obtain⟨a,h3⟩:=R.ioi i d (uK h1)
   obtain⟨_,_,h4⟩:=R.io i a h3
   obtain⟨_,_,h5⟩:=R'.io i a h3
   exact ⟨d,a,h1,h2,h3,h4,h5⟩
  ·cases s with
   | fz d=>cases w
   | ow d=>exact (hn _ (Y1 h1) d rfl).elim
   | io d=>exact (h2 d rfl).elim
 refine ⟨by rw[HH];simpa using R.len,R'.sub,R'.sub0,R'.fn,R'.keep,λi d e=>?_,λi s e w=>?_,λi d a e ea=>?_,λi a e=>?_,λi d e=>?_,λi j s t a e1 w1 e2 w2 e3 e4=>?_⟩
 ·rcases JZ e with⟨d',h1,h2⟩|⟨h1,h2⟩
  ·obtain⟨a,h3⟩:=R.ioi i d' (uK h1)
   obtain⟨d2,h4,_⟩:=R'.io i a h3
   rw[h2]at h4;cases h4
  ·obtain⟨v,h3,h4⟩:=R.fz i d (uK h1)
   exact ⟨v,h3,h4.mono sb⟩
 ·obtain⟨d,a,h1,h2,h3,h4,h5⟩:=own e w
  obtain⟨b,o,g1,g2⟩:=R'.ow i s h2 w
  rw[h5]at g1;cases g1
  exact ⟨a,o,h4,g2⟩
 ·obtain⟨d',b,h1,h2,h3,h4,h5⟩:=own e rfl
  rw[h4]at ea;cases ea
  exact R'.new i d _ h2 h5
 ·obtain⟨d,h1,h2⟩:=R.io i a e
  obtain⟨d',h3,h4⟩:=R'.io i a e
  exact ⟨d',xD (sx h1) h3,h2⟩
 ·obtain⟨d',a,h1,h2,h3,h4,h5⟩:=own e rfl
  exact ⟨a,h3⟩
 ·obtain⟨_,a1,_,h2,_,h4,h5⟩:=own e1 w1
  obtain⟨_,a2,_,g2,_,g4,g5⟩:=own e2 w2
  rw[h4]at e3;cases e3
  rw[g4]at e4;cases e4
  exact R'.ap i j s t a h2 w1 g2 w2 h5 g5
theorem Res.ret{vs:List V}{args:List Sl}{σ':St}{ρ':Ev}{v:V}{r:Sl}(hn:∀s∈args,∀d,s≠.ow d)(R:Rel K G F (vs.map some) H (args.map some))(R':Rel K G F' σ' H' ρ')(q:Res K G F' H' σ' ρ' v r):Res K G F' H' (vs.map some) (outs args ρ') v r:=by
 cases r with
 | fz d=>exact q
 | io d=>exact q.elim
 | ow d =>
  obtain⟨a,o,h1,h2,h3,h4,h5,h6⟩:=q
  refine ⟨a,o,h1,h2,h3,h4,h5,λi s e w z=>?_⟩
  rcases JZ e with⟨d',g1,g2⟩|⟨g1,g2⟩
  ·obtain⟨b,g3⟩:=R.ioi i d' (uK g1)
   obtain⟨_,_,g4⟩:=R.io i b g3
   obtain⟨_,_,g5⟩:=R'.io i b g3
   rw[g4]at z;cases z
   exact h6 i s g2 w g5
  ·cases s with
   | fz d=>cases w
   | ow d=>exact (hn _ (Y1 g1) d rfl).elim
   | io d=>exact (g2 d rfl).elim
noncomputable def TZ(args:List Sl)(Qd:Sl->Ev->Prop):DE:={ nx:=λρ=>Qd (.fz .none) (outs args ρ),rt:=λr ρ=>Qd r (outs args ρ),bk:=λ_=>False,ct:=λ_=>False }
theorem kL{N:List Str}{con:Con}{ts:qK}{vs:List V}{Q:VK}{E:XK}(hc:∀args Qd,con args Qd->(∀s∈args,∀d,s≠.ow d)/\ts (TZ args Qd) (yW N.length args))(h:eQ K con vs H Q E):sQ K ts { nx:=λ_ H'=>Q .non H',rt:=Q } (L2.start N vs) H:=by
 obtain⟨G,F,args,Qd,R,w,k⟩:=h
 obtain⟨hn,w⟩:=hc args Qd w
 refine ⟨G,F,_,_,R.start,w,λσ' H' F' ρ' s R' q=>?_,λv σ' H' F' r ρ' s R' r' q=>?_,λ_ _ _ _ _ _ q=>q.elim,λ_ _ _ _ _ _ q=>q.elim⟩
 ·exact k .non H' F' (.fz .none) _ s (R.ret hn s R') Da.non q
 ·exact k v H' F' r _ s (R.ret hn s R') (r'.ret hn R R') q
end
section
variable {K:Fg}{F H:Hp}{v:V}
theorem At.int{i:Int}(h:At K F H v (.int i)):v=.int i:=by
 rcases h with h|⟨a,o,rfl,_,_,h⟩
 ·cases h;rfl
 ·cases o<;>exact h.elim
theorem At.bool{b:Bool}(h:At K F H v (.bool b)):v=.bl b:=by
 rcases h with h|⟨a,o,rfl,_,_,h⟩
 ·cases h;rfl
 ·cases o<;>exact h.elim
theorem At.str{x:Str}(h:At K F H v (.str x)):v=.str x:=by
 rcases h with h|⟨a,o,rfl,_,_,h⟩
 ·cases h;rfl
 ·cases o<;>exact h.elim
theorem At.none(h:At K F H v .none):v=.non:=by
 rcases h with h|⟨a,o,rfl,_,_,h⟩
 ·cases h;rfl
 ·cases o<;>exact h.elim
theorem At.list{ds:List D}(s:Sub F H)(h:At K F H v (.list ds)):∃a xs,v=.ref a/\H a=some (.lst xs)/\DaAll K F xs ds:=by
 rcases h with h|⟨a,o,rfl,_,e,h⟩
 ·cases h with
  | lst e t=>exact ⟨_,_,rfl,s _ _ e,t⟩
 ·cases o<;>first|exact h.elim|exact ⟨_,_,rfl,e,h⟩
theorem At.tuple{ds:List D}(s:Sub F H)(h:At K F H v (.tuple ds)):∃a xs,v=.ref a/\F a=some (.tup xs)/\H a=some (.tup xs)/\DaAll K F xs ds:=by
 rcases h with h|⟨a,o,rfl,_,e,h⟩
 ·cases h with
  | tup e t=>exact ⟨_,_,rfl,e,s _ _ e,t⟩
 ·cases o<;>exact h.elim
theorem yD(k:GQ):YK k≠.none:=by cases k<;>(intro z;cases z)
theorem Da.scr_inv{ns:List Int}:∀{d:D},Da K F v d->d=pK ns->∃a,v=.ref a/\SqL K F a (ns.map V.int)
 | _,.non,e=>by cases e
 | _,.bl _,e=>by cases e
 | _,.int _,e=>by cases e
 | _,.str _,e=>by cases e
 | _,.lst _ _,e=>by cases e
 | _,.tup _ _,e=>by cases e
 | _,.dk _ t,e=>by
  cases t with
  | nil=>injection e with e;cases e
  | cons _ _ =>
   injection e with e
   injection e with e _
   injection e with e _
   exact (yD _ e).elim
 | _,.dt _ t,e=>by
  cases t with
  | nil=>injection e with e;cases e
  | cons _ _ =>
   injection e with e
   injection e with e _
   injection e with e _
   cases e
 | _,.scr (ns:=ns') q,e=>by
  injection e with e
  injection e with e _
  injection e with _ e
  injection e with e2
  have:∀(l m:List Int),l.map n0=m.map n0->l=m:=by
   intro l
   induction l with
   | nil=>intro m e;cases m with|nil=>rfl|cons=>simp at e
   | cons a l ih=>intro m e;cases m with|nil=>simp at e|cons b m=>simp at e;rw[e.1,ih m e.2]
  rw[<- this _ _ e2]
  exact ⟨_,rfl,q⟩
theorem At.scr{ns:List Int}(s:Sub F H)(h:At K F H v (pK ns)):∃a,v=.ref a/\SqL K H a (ns.map V.int):=by
 rcases h with h|⟨a,o,rfl,_,e,h⟩
 ·obtain⟨a,h1,h2⟩:=h.scr_inv rfl
  exact ⟨a,h1,s.sql h2⟩
 ·exfalso
  cases o<;>first|exact h.elim|skip
  ·rename_i kvs
   have h:DaKV K F kvs [(.none,.list (ns.map n0))]:=h
   generalize q:[(PyData.none,V4 (ns.map n0))]=es at h
   cases h with
   | nil=>cases q
   | cons _ _ =>
    injection q with q _
    injection q with q _
    exact yD _ q.symm
  ·rename_i kvs
   have h:DaKT K F kvs [(.none,.list (ns.map n0))]:=h
   cases h
theorem AtAll.one{vs:List V}{d:D}(h:AtAll K F H vs [d]):∃v,vs=[v]/\At K F H v d:=by
 cases h with|cons a t=>cases t;exact ⟨_,rfl,a⟩
theorem AtAll.two{vs:List V}{d e:D}(h:AtAll K F H vs [d,e]):∃v u,vs=[v,u]/\At K F H v d/\At K F H u e:=by
 cases h with|cons a t=>cases t with|cons b t=>cases t;exact ⟨_,_,rfl,a,b⟩
end
noncomputable def DY(r:R2):List V->Hp->VK->Prop:=λvs H Q=>∃x y,vs=[x,y]/\r x y H Q
noncomputable def WO(r:V->Hp->VK->Prop):List V->Hp->VK->Prop:=λvs H Q=>∃x,vs=[x]/\r x H Q
theorem ux{K:Fg}{r:R2}{f:D->D->(Sl->Prop)->Prop}(h:∀(G:Gh) (F:Hp) (σ:St) (H:Hp) (ρ:Ev) (x y:V) (d e:D) (Q:VK) (Qd:Sl->Prop),Rel K G F σ H ρ->At K F H x d->At K F H y e->f d e Qd ->
    (∀v H' F' s,Sub F F'->Rel K G F' σ H' ρ->Res K G F' H' σ ρ v s->Qd s->Q v H')->r x y H Q):VQ K (DY r) (o2 f):=by
 intro G F σ H ρ vs ds Q Qd R a w k
 match ds,a,w with
 | [d,e],a,w =>
  obtain⟨v,u,rfl,h1,h2⟩:=a.two
  exact ⟨v,u,rfl,h G F σ H ρ v u d e Q Qd R h1 h2 w k⟩
theorem vx{K:Fg}{r:List V->Hp->VK->Prop}{f:D->(Sl->Prop)->Prop}(h:∀(G:Gh) (F:Hp) (σ:St) (H:Hp) (ρ:Ev) (x:V) (d:D) (Q:VK) (Qd:Sl->Prop),Rel K G F σ H ρ->At K F H x d->f d Qd ->
    (∀v H' F' s,Sub F F'->Rel K G F' σ H' ρ->Res K G F' H' σ ρ v s->Qd s->Q v H')->r [x] H Q):VQ K r (o1 f):=by
 intro G F σ H ρ vs ds Q Qd R a w k
 match ds,a,w with
 | [d],a,w =>
  obtain⟨v,rfl,h1⟩:=a.one
  exact h G F σ H ρ v d Q Qd R h1 w k
noncomputable def fI(C:Int->Int->Prop)(g:Int->Int->D):D->D->(Sl->Prop)->Prop
 | .int i,.int j,Q=>C i j/\Q (.fz (g i j))
 | _,_,_=>False
noncomputable def dj(g:Int->Int->D):D->D->(Sl->Prop)->Prop
 | .int i,.int j,Q=>Q (.fz (g i j))
 | _,_,_=>False
theorem yC{K:Fg}{C:Int->Int->Prop}{g:Int->Int->V}{g':Int->Int->D}(hg:∀F i j,Da K F (g i j) (g' i j)):VQ K (DY (rI C g)) (o2 (fI C g')):=ux λG F σ H ρ x y d e Q Qd R h1 h2 w k=>by
 cases d<;>first|exact w.elim|skip
 cases e<;>first|exact w.elim|skip
 case int.int i j =>
  cases h1.int
  cases h2.int
  exact ⟨i,j,rfl,rfl,w.1,k _ H F (.fz _) (Sub.refl _) R (hg F i j) w.2⟩
theorem IH{K:Fg}{g:Int->Int->V}{g':Int->Int->D}(hg:∀F i j,Da K F (g i j) (g' i j)):VQ K (DY (tY g)) (o2 (dj g')):=ux λG F σ H ρ x y d e Q Qd R h1 h2 w k=>by
 cases d<;>first|exact w.elim|skip
 cases e<;>first|exact w.elim|skip
 case int.int i j =>
  cases h1.int
  cases h2.int
  exact ⟨i,j,rfl,rfl,k _ H F (.fz _) (Sub.refl _) R (hg F i j) w⟩
noncomputable def vK(r r':R2):R2:=λx y H Q=>r x y H Q\/r' x y H Q
noncomputable def xx:R2:=λx y H Q=>∃(a b:Addr) (xs ys:List V),x=.ref a/\y=.ref b/\H a=some (.tup xs)/\H b=some (.tup ys)/\xs.length+ys.length<=sizeLine /\
 (xs=[]->Q (.ref b) H)/\(xs≠[]->ys=[]->Q (.ref a) H)/\(xs≠[]->ys≠[]->∀p,H p=none->Q (.ref p) (HQ H p (.tup (xs++ys))))
noncomputable def zC:D->D->(Sl->Prop)->Prop
 | .int i,.int j,Q=>Q (.fz (.int (i+j)))
 | .tuple xs,.tuple ys,Q=>xs.length+ys.length<=sizeLine/\Q (.fz (.tuple (xs++ys)))
 | .list xs,.list ys,Q=>xs.length+ys.length<=sizeLine/\Q (.ow (.list (xs++ys)))
 | _,_,_=>False
theorem DaAll.nil_of{K:Fg}{F:Hp}{ds:List D}(h:DaAll K F [] ds):ds=[]:=by cases h;rfl
theorem NQ{K:Fg}:VQ K (DY (vK (tY λi j=>.int (i+j)) (vK xx PB))) (o2 zC):=ux λG F σ H ρ x y d e Q Qd R h1 h2 w k=>by
 cases d<;>first|exact w.elim|(cases e<;>first|exact w.elim|skip)
 case int.int i j =>
  cases h1.int
  cases h2.int
  exact .inl ⟨i,j,rfl,rfl,k _ H F (.fz _) (Sub.refl _) R (Da.int _) w⟩
 case tuple.tuple xs ys =>
  obtain⟨a,us,rfl,f1,e1,d1⟩:=h1.tuple R.sub
  obtain⟨b,ws,rfl,f2,e2,d2⟩:=h2.tuple R.sub
  refine .inr (.inl ⟨a,b,us,ws,rfl,rfl,e1,e2,by rw[d1.length,d2.length];exact w.1,λz=>?_,λ_ z=>?_,λ_ _ p hp=>?_⟩)
  ·subst z
   have:=d1.nil_of
   subst this
   exact k _ H F (.fz _) (Sub.refl _) R (Da.tup f2 d2) w.2
  ·subst z
   have:=d2.nil_of
   subst this
   refine k _ H F (.fz _) (Sub.refl _) R (Da.tup f1 d1) ?_
   have:=w.2
   rw[P2]at this
   exact this
  ·obtain⟨sb,R',dd⟩:=R.newTup hp (d1.append d2)
   exact k _ _ _ (.fz _) sb R' dd w.2
 case list.list xs ys =>
  obtain⟨a,us,rfl,e1,d1⟩:=h1.list R.sub
  obtain⟨b,ws,rfl,e2,d2⟩:=h2.list R.sub
  refine .inr (.inr ⟨a,b,us,ws,rfl,rfl,e1,e2,by rw[d1.length,d2.length];exact w.1,λp hp=>?_⟩)
  obtain⟨R',r'⟩:=R.newOw (o:=.lst (us++ws)) (d:=.list (xs++ys)) hp (d1.append d2)
  exact k _ _ F _ (Sub.refl _) R' r' w.2
noncomputable def LN:D->D->(Sl->Prop)->Prop
 | .int i,.int j,Q=>CMul i j/\Q (.fz (.int (i * j)))
 | .list xs,.int k,Q=>-(2 ^ 63)<=k/\k < 2 ^ 63/\xs.length * k.toNat<=sizeLine/\Q (.ow (.list (V1 k.toNat xs).flatten))
 | _,_,_=>False
theorem XX{K:Fg}:VQ K (DY (vK (rI CMul λi j=>.int (i * j)) RB)) (o2 LN):=ux λG F σ H ρ x y d e Q Qd R h1 h2 w k=>by
 cases d<;>first|exact w.elim|(cases e<;>first|exact w.elim|skip)
 case int.int i j =>
  cases h1.int
  cases h2.int
  exact .inl ⟨i,j,rfl,rfl,w.1,k _ H F (.fz _) (Sub.refl _) R (Da.int _) w.2⟩
 case list.int xs j =>
  cases h2.int
  obtain⟨a,us,rfl,e1,d1⟩:=h1.list R.sub
  refine .inr ⟨a,j,us,rfl,rfl,e1,w.1,w.2.1,by rw[d1.length];exact w.2.2.1,λp hp=>?_⟩
  obtain⟨R',r'⟩:=R.newOw (o:=.lst (V1 j.toNat us).flatten) (d:=.list (V1 j.toNat xs).flatten) hp (d1.rep _)
  exact k _ _ F _ (Sub.refl _) R' r' w.2.2.2
noncomputable def lL:D->(Sl->Prop)->Prop
 | .list ds,Q=>Q (.fz (.int ds.length))
 | .tuple ds,Q=>Q (.fz (.int ds.length))
 | .dict [(.none,.list ds)],Q=>∃ns:List Int,ds=ns.map n0/\Q (.fz (.int ns.length))
 | _,_=>False
theorem NX{K:Fg}:VQ K (aL K) (o1 lL):=vx λG F σ H ρ x d Q Qd R h1 w k=>by
 cases d<;>first|exact w.elim|skip
 case list ds =>
  obtain⟨a,us,rfl,e1,d1⟩:=h1.list R.sub
  exact ⟨a,us,rfl,.inl (SqL.of e1),k _ H F (.fz _) (Sub.refl _) R (Da.int _) (by rw[d1.length];exact w)⟩
 case tuple ds =>
  obtain⟨a,us,rfl,_,e1,d1⟩:=h1.tuple R.sub
  exact ⟨a,us,rfl,.inr (SqT.of e1),k _ H F (.fz _) (Sub.refl _) R (Da.int _) (by rw[d1.length];exact w)⟩
 case dict es =>
  rcases es with _|⟨⟨c1,c2⟩,_|⟨c3,c4⟩⟩
  ·exact w.elim
  ·cases c1<;>first|exact w.elim|skip
   cases c2<;>first|exact w.elim|skip
   obtain⟨ns,rfl,w⟩:=w
   obtain⟨a,rfl,q⟩:=h1.scr R.sub
   exact ⟨a,_,rfl,.inl q,k _ H F (.fz _) (Sub.refl _) R (Da.int _) (by rw[i0];exact w)⟩
  ·cases c1<;>first|exact w.elim|(cases c2<;>exact w.elim)
noncomputable def XO:D->D->(Sl->Prop)->Prop
 | .list ds,.int i,Q=>∃d,AY ds i=some d/\Q (.fz d)
 | .tuple ds,.int i,Q=>∃d,AY ds i=some d/\Q (.fz d)
 | .dict [(.none,.list ds)],.int i,Q=>∃(ns:List Int) (n:Int),ds=ns.map n0/\AY ns i=some n/\Q (.fz (.int n))
 | _,_,_=>False
theorem DaAll.at{K:Fg}{F:Hp}{xs:List V}{ds:List D}{i:Int}{d:D}(h:DaAll K F xs ds)(e:AY ds i=some d):∃v,AY xs i=some v/\Da K F v d:=by
 unfold AY at e ⊢
 rw[h.length]
 cases q:QG ds.length i with
 | none=>rw[q]at e;cases e
 | some j=>rw[q]at e;exact h.get e
theorem zD{α β:Type}(f:α->β){l:List α}{i:Int}{x:α}(h:AY l i=some x):AY (l.map f) i=some (f x):=by
 unfold AY at h ⊢
 rw[i0]
 cases q:QG l.length i with
 | none=>rw[q]at h;cases h
 | some j=>rw[q]at h;simp at h ⊢;exact ⟨x,h,rfl⟩
theorem mL{K:Fg}:VQ K (DY (vK (Av K) (Bv K))) (o2 XO):=ux λG F σ H ρ x y d e Q Qd R h1 h2 w k=>by
 cases d<;>first|exact w.elim|skip
 case list ds =>
  cases e<;>first|exact w.elim|skip
  rename_i i
  obtain⟨d,w1,w2⟩:=w
  cases h2.int
  obtain⟨a,us,rfl,e1,d1⟩:=h1.list R.sub
  obtain⟨v,g1,g2⟩:=d1.at w1
  exact .inl ⟨a,us,i,v,rfl,rfl,SqL.of e1,g1,k _ H F (.fz _) (Sub.refl _) R g2 w2⟩
 case tuple ds =>
  cases e<;>first|exact w.elim|skip
  rename_i i
  obtain⟨d,w1,w2⟩:=w
  cases h2.int
  obtain⟨a,us,rfl,_,e1,d1⟩:=h1.tuple R.sub
  obtain⟨v,g1,g2⟩:=d1.at w1
  exact .inr ⟨a,us,i,v,rfl,rfl,SqT.of e1,g1,k _ H F (.fz _) (Sub.refl _) R g2 w2⟩
 case dict es =>
  rcases es with _|⟨⟨c1,c2⟩,_|⟨c3,c4⟩⟩
  ·exact w.elim
  ·cases c1<;>first|exact w.elim|skip
   cases c2<;>first|exact w.elim|skip
   cases e<;>first|exact w.elim|skip
   rename_i i
   obtain⟨ns,n,e,w1,w2⟩:=w
   subst e
   cases h2.int
   obtain⟨a,rfl,q⟩:=h1.scr R.sub
   exact .inl ⟨a,_,i,_,rfl,rfl,q,zD V.int w1,k _ H F (.fz _) (Sub.refl _) R (Da.int _) w2⟩
  ·cases c1<;>first|exact w.elim|(cases c2<;>exact w.elim)
noncomputable def nL:D->(Sl->Prop)->Prop
 | .list ds,Q=>Q (.ow (.list ds))
 | .tuple ds,Q=>Q (.ow (.list ds))
 | _,_=>False
theorem cy{K:Fg}:VQ K (tD K) (o1 nL):=vx λG F σ H ρ x d Q Qd R h1 w k=>by
 match d,h1,w with
 | .list ds,h1,w =>
  obtain⟨a,us,rfl,e1,d1⟩:=h1.list R.sub
  refine ⟨a,us,rfl,.inl (SqL.of e1),λp hp=>?_⟩
  obtain⟨R',r'⟩:=R.newOw (o:=.lst us) (d:=.list ds) hp d1
  exact k _ _ F _ (Sub.refl _) R' r' w
 | .tuple ds,h1,w =>
  obtain⟨a,us,rfl,_,e1,d1⟩:=h1.tuple R.sub
  refine ⟨a,us,rfl,.inr (SqT.of e1),λp hp=>?_⟩
  obtain⟨R',r'⟩:=R.newOw (o:=.lst us) (d:=.list ds) hp d1
  exact k _ _ F _ (Sub.refl _) R' r' w
noncomputable def AC:D->(Sl->Prop)->Prop
 | .list ds,Q=>Q (.fz (.tuple ds))
 | .tuple ds,Q=>Q (.fz (.tuple ds))
 | _,_=>False
theorem OX{K:Fg}:VQ K (uH K) (o1 AC):=vx λG F σ H ρ x d Q Qd R h1 w k=>by
 match d,h1,w with
 | .list ds,h1,w =>
  obtain⟨a,us,rfl,e1,d1⟩:=h1.list R.sub
  refine ⟨a,us,rfl,.inl ⟨SqL.of e1,λp hp=>?_⟩⟩
  obtain⟨sb,R',dd⟩:=R.newTup hp d1
  exact k _ _ _ (.fz _) sb R' dd w
 | .tuple ds,h1,w =>
  obtain⟨a,us,rfl,f1,e1,d1⟩:=h1.tuple R.sub
  exact ⟨a,us,rfl,.inr ⟨SqT.of e1,k _ H F (.fz _) (Sub.refl _) R (Da.tup f1 d1) w⟩⟩
noncomputable def MN:D->(Sl->Prop)->Prop
 | .list ds,Q=>∃bs:List Bool,ds=bs.map F7/\Q (.fz (.bool (bs.all id)))
 | _,_=>False
theorem DaAll.bools{K:Fg}{F:Hp}:∀{xs:List V}{bs:List Bool},DaAll K F xs (bs.map F7)->xs=bs.map V.bl
 | [],[],_=>rfl
 | x :: xs,b :: bs,.cons h t=>by cases h;simp[DaAll.bools t]
theorem bY{K:Fg}:VQ K (bC K) (o1 MN):=vx λG F σ H ρ x d Q Qd R h1 w k=>by
 match d,h1,w with
 | .list ds,h1,⟨bs,e,w⟩ =>
  subst e
  obtain⟨a,us,rfl,e1,d1⟩:=h1.list R.sub
  have:=d1.bools
  subst this
  exact ⟨a,bs,rfl,SqL.of e1,k _ H F (.fz _) (Sub.refl _) R (Da.bl _) w⟩
noncomputable def uP:D->Ki
 | .none=>.non
 | .bool _=>.bl
 | .int _=>.int
 | .str _=>.str
 | .list _=>.lst
 | .tuple _=>.tup
 | .dict ((.none,_) :: _)=>.lst
 | .dict _=>.dct
noncomputable def BC(T:Ki):D->(Sl->Prop)->Prop
 | .dict _,_=>False
 | d,Q=>Q (.fz (.bool ((uP d).sub T)))
theorem CC{K:Fg}{T:Ki}:VQ K (λvs H Q=>∃x,vs=[x]/\iz K [x,.ty T.nm] H Q) (o1 (BC T)):=vx λG F σ H ρ x d Q Qd R h1 w k=>by
 have go:∀(ki:Ki),KiOf K H x ki->Qd (.fz (.bool (ki.sub T)))->∃x',[x]=[x']/\iz K [x',.ty T.nm] H Q:=λki h w=>⟨x,rfl,x,ki,T,rfl,h,k _ H F (.fz _) (Sub.refl _) R (Da.bl _) w⟩
 match d,h1,w with
 | .none,h1,w=>cases h1.none;exact go .non rfl w
 | .bool b,h1,w=>cases h1.bool;exact go .bl rfl w
 | .int i,h1,w=>cases h1.int;exact go .int rfl w
 | .str z,h1,w=>cases h1.str;exact go .str rfl w
 | .list ds,h1,w =>
  obtain⟨a,us,rfl,e1,d1⟩:=h1.list R.sub
  exact go .lst (.inl ⟨rfl,us,SqL.of e1⟩) w
 | .tuple ds,h1,w =>
  obtain⟨a,us,rfl,_,e1,d1⟩:=h1.tuple R.sub
  exact go .tup (.inr (.inl ⟨rfl,us,SqT.of e1⟩)) w
noncomputable def DC:D->(Sl->Prop)->Prop
 | .int i,Q=>Q (.fz (.int (if i < 0 then -i else i)))
 | _,_=>False
theorem yx{K:Fg}:VQ K (λxs H Q=>∃i,xs=[V.int i]/\Q (V.int (if i < 0 then -i else i)) H) (o1 DC):=vx λG F σ H ρ x d Q Qd R h1 w k=>by
 match d,h1,w with
 | .int i,h1,w=>cases h1.int;exact ⟨i,rfl,k _ H F (.fz _) (Sub.refl _) R (Da.int _) w⟩
theorem zx{K:Fg}{g:Int->Int->Int}:VQ K (λxs H Q=>∃i j,xs=[V.int i,V.int j]/\Q (V.int (g i j)) H) (o2 (dj λi j=>.int (g i j))):=by
 intro G F σ H ρ vs ds Q Qd R a w k
 match ds,a,w with
 | [d,e],a,w =>
  obtain⟨v,u,rfl,h1,h2⟩:=a.two
  have w:dj (λi j=>.int (g i j)) d e Qd:=w
  unfold dj at w
  split at w
  rotate_left
  ·exact w.elim
  rename_i i j w
  cases h1.int
  cases h2.int
  exact ⟨i,j,rfl,k _ H F (.fz _) (Sub.refl _) R (Da.int _) w⟩
noncomputable def pL:D->(Sl->Prop)->Prop
 | .int i,Q=>Q (.fz (.int (-i)))
 | _,_=>False
theorem EC{K:Fg}:VQ K (WO (rU λi=>.int (-i))) (o1 pL):=vx λG F σ H ρ x d Q Qd R h1 w k=>by
 match d,h1,w with
 | .int i,h1,w=>cases h1.int;exact ⟨_,rfl,i,rfl,k _ H F (.fz _) (Sub.refl _) R (Da.int _) w⟩
noncomputable def zU(as:List AD)(f:List D->(Sl->Prop)->Prop):TD:=λρ Q=>yX as ρ λxs ρ1=>match aX ρ1 xs with
 | false=>PQ ρ1 xs λds=>f ds λr=>Q r ρ1
 | true=>False
noncomputable def KH(ds:List D)(Q:Sl->Prop):Prop:=Q (.fz (.tuple ds))
noncomputable def BD(ds:List D)(Q:Sl->Prop):Prop:=Q (.ow (.list ds))
theorem EQ{n:Nat}(h:n<=1000):n<=sizeLine:=A1 h (by decide)
theorem qL{K:Fg}{as:List AD}(hl:as.length<=1000){σ:St}{H:Hp}{Q:VK}(h:lift K (zU as KH) σ H Q):IB (tQ (as.map (pQ K))) σ H Q:=by
 obtain⟨G,F,ρ,Qd,R,w,k⟩:=h
 refine nJ R w λvs H' F' xs ρ' sb R' o hn q=>?_
 split at q
 ·rename_i e
  obtain⟨ds,da,q⟩:=bX R' e o q
  refine ⟨EQ (by omega),λp hp=>?_⟩
  obtain⟨s2,R2,dd⟩:=R'.newTup hp da
  exact k _ _ _ (.fz _) _ (sb.trans s2) R2 dd q
 ·exact q.elim
theorem rL{K:Fg}{as:List AD}(hl:as.length<=1000){σ:St}{H:Hp}{Q:VK}(h:lift K (zU as BD) σ H Q):iH (tQ (as.map (pQ K))) σ H Q:=by
 obtain⟨G,F,ρ,Qd,R,w,k⟩:=h
 refine nJ R w λvs H' F' xs ρ' sb R' o hn q=>?_
 split at q
 ·rename_i e
  obtain⟨ds,da,q⟩:=bX R' e o q
  refine ⟨EQ (by omega),λp hp=>?_⟩
  obtain⟨R2,r2⟩:=R'.newOw (o:=.lst vs) (d:=.list ds) hp da
  exact k _ _ _ _ _ sb R2 r2 q
 ·exact q.elim
noncomputable def lF(p q:Int->Int->Bool)(a b c:AD):TD:=λρ Q=>yX [a,b] ρ λxs ρ1=>PQ ρ1 xs λds=>match ds with
 | [.int i,.int j]=>if p i j=true then yX [c] ρ1 λys ρ2=>PQ ρ2 ys λes=>match es with
   | [.int k]=>Q (.fz (.bool (q j k))) ρ2
   | _=>False
  else Q (.fz (.bool false)) ρ1
 | _=>False
theorem dy{K:Fg}{p q:Int->Int->Bool}{a b c:AD}{σ:St}{H:Hp}{Q:VK}(h:lift K (lF p q a b c) σ H Q) :
  LG (tY λi j=>.bl (p i j)) (tY λi j=>.bl (q i j)) (pQ K a) (pQ K b) (pQ K c) σ H Q:=by
 obtain⟨G,F,ρ,Qd,R,w,k⟩:=h
 have main:tQ ([a,b].map (pQ K)) σ H λvs H2=>∃x y,vs=[x,y]/\(tY λi j=>V.bl (p i j)) x y H2 λz H3=>∃k,z=.bl k /\
   (if k=true then pQ K c σ H3 λw' H4=>(tY λi j=>V.bl (q i j)) y w' H4 Q else Q (.bl false) H3):=by
  refine lX R w λvs H' F' xs ρ' sb R' o w1=>?_
  obtain⟨ds,ha,w1⟩:=tZ R' o w1
  split at w1
  ·rename_i i j
   obtain⟨v,u,rfl,h1,h2⟩:=ha.two
   cases h1.int
   cases h2.int
   refine ⟨_,_,rfl,i,j,rfl,rfl,p i j,rfl,?_⟩
   by_cases e:p i j=true
   ·rw[if_pos e]at w1 ⊢
    have:=lX (as:=[c]) (Qv:=λvs H4=>∃w',vs=[w']/\(tY λi j=>V.bl (q i j)) (V.int j) w' H4 Q) R' w1 λvs H2 F2 ys ρ2 s2 R2 o2 w2=>by
     obtain⟨es,hb,w2⟩:=tZ R2 o2 w2
     split at w2
     ·rename_i k'
      obtain⟨v,rfl,h3⟩:=hb.one
      cases h3.int
      exact ⟨_,rfl,j,k',rfl,rfl,k _ H2 F2 (.fz _) ρ2 (sb.trans s2) R2 (Da.bl _) w2⟩
     ·exact w2.elim
    exact ax this
   ·rw[if_neg e]at w1 ⊢
    exact k _ H' F' (.fz _) ρ' sb R' (Da.bl _) w1
  ·exact w1.elim
 exact Vv main
noncomputable def LH(i:Nat)(as:List AD)(f:List D->List D->(D->D->Prop)->Prop):TD:=λρ Q=>match ρ[i]? with
 | some (some s0)=>match s0.d,LQ s0 with
  | .list _,true=>yX as ρ λxs ρ1=>match ρ1[i]?,aX ρ1 xs with
   | some (some s),false=>match s.d,LQ s with
    | .list es,true=>PQ ρ1 xs λds=>f es ds λd' r=>Q (.fz r) (ρ1.set i (some (s.put d')))
    | _,_=>False
   | _,_=>False
  | _,_=>False
 | _=>False
noncomputable def FC(K:Fg)(r:V->List V->Hp->VK->Prop)(f:List D->List D->(D->D->Prop)->Prop):Prop :=
 ∀(F H:Hp) (a:Addr) (xs:List V) (es:List D) (vs:List V) (ds:List D) (Q:VK) (k:D->D->Prop),Sub F H->H a=some (.lst xs)->DaAll K F xs es->DaAll K F vs ds->f es ds k ->
  (∀v o' d' res,Own1 K F o' d'->Da K F v res->k d' res->Q v (HQ H a o'))->r (.ref a) vs H Q
theorem GC{K:Fg}{i:Nat}{as:List AD}{r:V->List V->Hp->VK->Prop}{f:List D->List D->(D->D->Prop)->Prop}(ok:FC K r f){σ:St}{H:Hp}{Q:VK}(h:lift K (LH i as f) σ H Q) :
  ∃a xs,σ[i]?=some (some (V.ref a))/\SqL K H a xs/\tQ (as.map (pQ K)) σ H λvs H2=>r (.ref a) vs H2 Q:=by
 obtain⟨G,F,ρ,Qd,R,w,k⟩:=h
 unfold LH at w
 split at w
 ·rename_i s0 e0
  split at w
  ·rename_i es0 p1 p2
   obtain⟨a,o,g1,g2,g3,g4⟩:=R.ow i s0 e0 p2
   have gl:∃xs,H a=some (.lst xs):=by
    rw[p1]at g4
    cases o<;>first|exact g4.elim|exact ⟨_,g3⟩
   obtain⟨xs0,gl⟩:=gl
   refine ⟨a,xs0,g1,SqL.of gl,lX R w λvs H1 F1 xs ρ1 s1 R1 o1 w1=>?_⟩
   split at w1
   ·rename_i s e en
    split at w1
    ·rename_i es q1 q2
     obtain⟨ds,da,w1⟩:=bX R1 en o1 w1
     obtain⟨a',o',h1,h2,h3,h4⟩:=R1.ow i s e q2
     rw[g1]at h1;cases h1
     rw[q1]at h4
     have hl:∃us,o'=.lst us/\DaAll K F1 us es:=by cases o'<;>first|exact h4.elim|exact ⟨_,rfl,h4⟩
     obtain⟨us,rfl,h4⟩:=hl
     refine ok F1 H1 a us es vs ds Q _ R1.sub h3 h4 da w1 λv o2 d2 res ho hv hk=>?_
     have R2:=R1.change (o':=o2) (d':=d2) e q2 g1 ho
     exact k v _ F1 (.fz res) _ s1 R2 hv hk
    ·exact w1.elim
   ·exact w1.elim
  ·exact w.elim
 ·exact w.elim
noncomputable def fy:List D->List D->(D->D->Prop)->Prop
 | es,[x],k=>es.length < sizeLine/\k (.list (es++[x])) .none
 | _,_,_=>False
theorem pZ{K:Fg}:FC K LY fy:=by
 intro F H a xs es vs ds Q k s e d1 d2 w q
 match ds,d2,w with
 | [x],.cons h .nil,w=>exact ⟨a,xs,_,rfl,rfl,e,by rw[d1.length];exact w.1,q _ (.lst (xs++[_])) (.list (es++[x])) _ (d1.append (.cons h .nil)) .non w.2⟩
noncomputable def CD:List D->List D->(D->D->Prop)->Prop
 | es,[.list ys],k=>es.length+ys.length<=sizeLine/\k (.list (es++ys)) .none
 | _,_,_=>False
theorem wz{K:Fg}:FC K jD CD:=by
 intro F H a xs es vs ds Q k s e d1 d2 w q
 match ds,d2,w with
 | [.list ys],.cons h .nil,w =>
  cases h with
  | lst e2 t=>exact ⟨a,_,xs,_,rfl,rfl,e,s _ _ e2,by rw[d1.length,t.length];exact w.1,q _ (.lst (xs++_)) (.list (es++ys)) _ (d1.append t) .non w.2⟩
noncomputable def gy:List D->List D->(D->D->Prop)->Prop
 | es,[.int i,x],k=>es.length < sizeLine/\0<=i/\i<=es.length/\k (.list (es.take i.toNat++x :: es.drop i.toNat)) .none
 | _,_,_=>False
theorem xz{K:Fg}:FC K rD gy:=by
 intro F H a xs es vs ds Q k s e d1 d2 w q
 rcases ds with _|⟨d,_|⟨x,_|⟨e3,ds⟩⟩⟩<;>first|exact w.elim|(cases d<;>first|exact w.elim|skip)
 ·rename_i i
  cases d2 with|cons h t=>?_
  cases t with|cons h' t=>?_
  cases t
  cases h
  exact ⟨a,xs,i,_,rfl,rfl,e,by rw[d1.length];exact w.1,w.2.1,by rw[d1.length];exact w.2.2.1,q .non (.lst (xs.take i.toNat++_ :: xs.drop i.toNat)) (.list _) .none ((d1.take _).append (.cons h' (d1.drop _))) .non w.2.2.2⟩
noncomputable def mF(j:Nat)(ai:AD)(te:TD):qK:=λE ρ=>te ρ λr ρ1=>match ρ1[j]? with
 | some (some _)=>yX [ai] ρ1 λxs ρ2=>PQ ρ2 xs λds=>match ds,ρ2[j]? with
  | [.int k],some (some s)=>match s.d,LQ s with
   | .list es,true=>∃n,QG es.length k=some n/\E.nx (ρ2.set j (some (s.put (.list (es.set n r.d)))))
   | _,_=>False
  | _,_=>False
 | _=>False
theorem jy{K:Fg}{j:Nat}{ai:AD}{te:TD}{σ:St}{H:Hp}{E:Ends}(h:sQ K (mF j ai te) E σ H):dJ (lift K te) (DB (qZ j) (pQ K ai) iD) E σ H:=by
 obtain⟨G,F,ρ,D,R,w,n,r,b,c⟩:=h
 refine ⟨G,F,ρ,_,R,w,λv H1 F1 x ρ1 s1 R1 r1 w1=>?_⟩
 obtain⟨F2,s2,R2,d2⟩:=r1.frz R1
 split at w1
 ·rename_i s0 e0
  obtain⟨u,eu⟩:=R2.bound e0
  refine ⟨u,eu,ax (P:=λi H2=>iD u i v H2 λH3=>E.nx σ H3) (lX R2 w1 λvs H3 F3 xs ρ3 s3 R3 o3 w3=>?_)⟩
  obtain⟨ds,ha,w3⟩:=tZ R3 o3 w3
  split at w3
  ·rename_i k s e
   obtain⟨iv,rfl,hi⟩:=ha.one
   cases hi.int
   split at w3
   ·rename_i es p1 p2
    obtain⟨m,w4,w5⟩:=w3
    obtain⟨a,o,g1,g2,g3,g4⟩:=R3.ow j s e p2
    rw[eu]at g1;cases g1
    rw[p1]at g4
    have hl:∃us,o=.lst us/\DaAll K F3 us es:=by cases o<;>first|exact g4.elim|exact ⟨_,rfl,g4⟩
    obtain⟨us,rfl,g4⟩:=hl
    refine ⟨_,rfl,a,us,k,m,rfl,rfl,g3,by rw[g4.length];exact w4,?_⟩
    have R4:=R3.change (o':=.lst (us.set m v)) (d':=.list (es.set m x.d)) e p2 eu (g4.set (d2.mono s3) m)
    exact n σ _ F3 _ (s1.trans (s2.trans s3)) R4 w5
   ·exact w3.elim
  ·exact w3.elim
 ·exact w1.elim
noncomputable def sL(K:Fg)(tl:TE):TI:=λσ H R=>tl σ H λx H1=>∃a,x=.ref a/\(((∃xs,SqL K H1 a xs)/\R (AN K a) H1)\/((∃xs,SqT K H1 a xs)/\R (BN K a) H1))
noncomputable def NH(a:TD):AH:=λρ Q=>a ρ λr ρ1=>match r.d with
 | .list ds=>Q ds ρ1
 | .tuple ds=>Q ds ρ1
 | _=>False
theorem nF{K:Fg}{F:Hp}{a:Addr}{xs:List V}{ds:List D}(e:F a=some (.lst xs))(h:DaAll K F xs ds):Walks K (AN K a) F ds:=λi H F1 s1 s2=>by
 have q:=SqL.of (K:=K) (s2 _ _ (s1 _ _ e))
 refine ⟨λd ed=>?_,λhl=>⟨xs,q,by rw[h.length];omega⟩⟩
 obtain⟨v,h1,h2⟩:=h.get ed
 refine ⟨⟨xs,v,q,h1⟩,λx H' ⟨e1,e2⟩=>?_⟩
 subst e1
 have:=e2 xs q
 rw[h1]at this;cases this
 exact ⟨F1,Sub.refl _,λ_ _ z=>.inl z,s2,Sub.refl _,h2.mono s1⟩
theorem Az{K:Fg}{F:Hp}{a:Addr}{xs:List V}{ds:List D}(e:F a=some (.tup xs))(h:DaAll K F xs ds):Walks K (BN K a) F ds:=λi H F1 s1 s2=>by
 have q:=SqT.of (K:=K) (s2 _ _ (s1 _ _ e))
 refine ⟨λd ed=>?_,λhl=>⟨xs,q,by rw[h.length];omega⟩⟩
 obtain⟨v,h1,h2⟩:=h.get ed
 refine ⟨⟨xs,v,q,h1⟩,λx H' ⟨e1,e2⟩=>?_⟩
 subst e1
 have:=e2 xs q
 rw[h1]at this;cases this
 exact ⟨F1,Sub.refl _,λ_ _ z=>.inl z,s2,Sub.refl _,h2.mono s1⟩
theorem HC{K:Fg}{a:TD}{σ:St}{H:Hp}{R:It->Hp->Prop}(h:UQ K (NH a) σ H R):sL K (lift K a) σ H R:=by
 obtain⟨G,F,ρ,Qd,Rl,w,k⟩:=h
 refine ⟨G,F,ρ,_,Rl,w,λv H1 F1 r ρ1 s1 R1 r1 w1=>?_⟩
 obtain⟨F2,s2,R2,d2⟩:=r1.frz R1
 split at w1
 ·rename_i ds e
  rw[e]at d2
  cases d2 with
  | lst q t=>exact ⟨_,rfl,.inl ⟨⟨_,SqL.of (R2.sub _ _ q)⟩,k _ H1 F2 ds ρ1 (s1.trans s2) R2 (nF q t) w1⟩⟩
 ·rename_i ds e
  rw[e]at d2
  cases d2 with
  | tup q t=>exact ⟨_,rfl,.inr ⟨⟨_,SqT.of (R2.sub _ _ q)⟩,k _ H1 F2 ds ρ1 (s1.trans s2) R2 (Az q t) w1⟩⟩
 ·exact w1.elim
noncomputable def AQ(lo:Int)(n:Nat):List D:=(V0 n).map λ(i:Nat)=>n0 (lo+i)
theorem wY{K:Fg}{F:Hp}{lo:Int}{n:Nat}:Walks K (FI lo n) F (AQ lo n):=λi H F1 s1 s2=>by
 have hl:(AQ lo n).length=n:=by simp[AQ]
 refine ⟨λd ed=>?_,λh=>by rw[hl]at h;exact Nat.le_of_eq h⟩
 have hi:i < n:=by have:=oX ed;rw[hl]at this;exact this
 have e:(AQ lo n)[i]?=some (.int (lo+i)):=by simp[AQ,hi]
 rw[e]at ed;cases ed
 refine ⟨hi,λx H' ⟨e1,e2⟩=>?_⟩
 subst e1 e2
 exact ⟨F1,Sub.refl _,λ_ _ z=>.inl z,s2,Sub.refl _,.int _⟩
noncomputable def AU(a:AD):AH:=λρ Q=>yX [a] ρ λxs ρ1=>PQ ρ1 xs λds=>match ds with
 | [.int j]=>-(2 ^ 62)<=j/\j < 2 ^ 62/\Q (AQ 0 j.toNat) ρ1
 | _=>False
noncomputable def oF(a b:AD):AH:=λρ Q=>yX [a,b] ρ λxs ρ1=>PQ ρ1 xs λds=>match ds with
 | [.int i,.int j]=>(-(2 ^ 62)<=i/\i < 2 ^ 62/\-(2 ^ 62)<=j/\j < 2 ^ 62)/\Q (AQ i (j - i).toNat) ρ1
 | _=>False
theorem IC{K:Fg}{a:AD}{σ:St}{H:Hp}{R:It->Hp->Prop}(h:UQ K (AU a) σ H R):nj (tQ ([a].map (pQ K))) σ H R:=by
 obtain⟨G,F,ρ,Qd,Rl,w,k⟩:=h
 refine lX Rl w λvs H' F' xs ρ' sb R' o w1=>?_
 obtain⟨ds,ha,w1⟩:=tZ R' o w1
 split at w1
 ·rename_i j
  obtain⟨v,rfl,h1⟩:=ha.one
  cases h1.int
  exact ⟨j,rfl,w1.1,w1.2.1,k _ H' F' _ ρ' sb R' wY w1.2.2⟩
 ·exact w1.elim
theorem JC{K:Fg}{a b:AD}{σ:St}{H:Hp}{R:It->Hp->Prop}(h:UQ K (oF a b) σ H R):oj (tQ ([a,b].map (pQ K))) σ H R:=by
 obtain⟨G,F,ρ,Qd,Rl,w,k⟩:=h
 refine lX Rl w λvs H' F' xs ρ' sb R' o w1=>?_
 obtain⟨ds,ha,w1⟩:=tZ R' o w1
 split at w1
 ·rename_i i j
  obtain⟨v,u,rfl,h1,h2⟩:=ha.two
  cases h1.int
  cases h2.int
  exact ⟨i,j,rfl,w1.1,k _ H' F' _ ρ' sb R' wY w1.2⟩
 ·exact w1.elim
noncomputable def vP(K:Fg)(F:Hp)(v:V)(ds:List D):Prop:=∃k a xs,v=.ref a/\(F a=some (match k with|Kd.l=>HO.lst xs|Kd.t=>HO.tup xs))/\DaAll K F xs ds
theorem XZ{K:Fg}{H:Hp}{a:Addr}{xs:List V}{k:Kd}(e:H a=some (match k with|Kd.l=>HO.lst xs|Kd.t=>HO.tup xs)):Sq k K H a xs:=by
 cases k with
 | l=>exact SqL.of e
 | t=>exact SqT.of e
noncomputable def pF:D->Option (List D)
 | .list ds=>some ds
 | .tuple ds=>some ds
 | _=>none
theorem DJ{K:Fg}{F:Hp}{v:V}{d:D}{ds:List D}(h:Da K F v d)(e:pF d=some ds):∃k a xs,v=.ref a/\(F a=some (match k with|Kd.l=>HO.lst xs|Kd.t=>HO.tup xs))/\DaAll K F xs ds:=by
 cases h with
 | lst q t=>cases e;exact ⟨.l,_,_,rfl,q,t⟩
 | tup q t=>cases e;exact ⟨.t,_,_,rfl,q,t⟩
 | non=>cases e
 | bl=>cases e
 | int=>cases e
 | str=>cases e
 | dk _ _=>cases e
 | dt _ _=>cases e
 | scr _=>cases e
 | exc _=>cases e
noncomputable def VJ(ds es:List D):List D:=(ds.zip es).map λp=>Z1 [p.1,p.2]
noncomputable def OV(ds es fs:List D):List D:=(ds.zip (es.zip fs)).map λp=>Z1 [p.1,p.2.1,p.2.2]
noncomputable def qF(a b:AD):AH:=λρ Q=>yX [a,b] ρ λxs ρ1=>match aX ρ1 xs with
 | false=>PQ ρ1 xs λds=>match ds with
  | [x,y]=>match pF x,pF y with
   | some us,some ws=>Q (VJ us ws) ρ1
   | _,_=>False
  | _=>False
 | true=>False
theorem rF{K:Fg}{F:Hp}{a b:Addr}{k1 k2:Kd}{xs ys:List V}{ds es:List D}(e1:F a=some (match k1 with|Kd.l=>HO.lst xs|Kd.t=>HO.tup xs))(h1:DaAll K F xs ds)
  (e2:F b=some (match k2 with|Kd.l=>HO.lst ys|Kd.t=>HO.tup ys)) (h2:DaAll K F ys es):Walks K (cC K k1 k2 a b) F (VJ ds es):=λi H F1 s1 s2=>by
 have q1:Sq k1 K H a xs:=XZ (s2 _ _ (s1 _ _ e1))
 have q2:Sq k2 K H b ys:=XZ (s2 _ _ (s1 _ _ e2))
 refine ⟨λd ed=>?_,λhl=>⟨xs,ys,q1,q2,?_⟩⟩
 ·simp only[VJ,X0,J3]at ed
  obtain⟨⟨x,y⟩,ez,rfl⟩:=ed
  rw[L5]at ez
  obtain⟨v,g1,g2⟩:=h1.get ez.1
  obtain⟨u,g3,g4⟩:=h2.get ez.2
  refine ⟨⟨xs,v,ys,u,q1,q2,g1,g3⟩,λz H' ⟨T,x1,x2,hT,ex,eH,f1,f2⟩=>?_⟩
  subst ex eH
  have f1:=f1 xs q1
  have f2:=f2 ys q2
  rw[g1]at f1;cases f1
  rw[g3]at f2;cases f2
  have fT:F1 T=none:=by
   cases z:F1 T with
   | none=>rfl
   | some o=>rw[s2 _ _ z]at hT;cases hT
  refine ⟨HQ F1 T (.tup [v,u]),Sub.new fT,λc o ec=>?_,λc o ec=>?_,Sub.new hT,.tup iQ (.cons (g2.mono (s1.trans (Sub.new fT))) (.cons (g4.mono (s1.trans (Sub.new fT))) .nil))⟩
  ·by_cases z:c=T
   ·subst z;exact .inr hT
   ·rw[cQ z]at ec;exact .inl ec
  ·by_cases z:c=T
   ·subst z;rw[iQ]at ec ⊢;exact ec
   ·rw[cQ z]at ec ⊢;exact s2 _ _ ec
 ·simp only[VJ,i0,L4]at hl
  rw[h1.length,h2.length]
  omega
theorem KC{K:Fg}{a b:AD}{σ:St}{H:Hp}{R:It->Hp->Prop}(h:UQ K (qF a b) σ H R):nD K (tQ ([a,b].map (pQ K))) σ H R:=by
 obtain⟨G,F,ρ,Qd,Rl,w,k⟩:=h
 refine lX Rl w λvs H' F' xs ρ' sb R' o w1=>?_
 split at w1
 ·rename_i e
  obtain⟨ds,da,w1⟩:=bX R' e o w1
  split at w1
  ·rename_i x y
   split at w1
   ·rename_i us ws p1 p2
    cases da with
    | cons d1 t =>
     cases t with
     | cons d2 t =>
      cases t
      obtain⟨k1,a1,us',rfl,e1,g1⟩:=DJ d1 p1
      obtain⟨k2,a2,ws',rfl,e2,g2⟩:=DJ d2 p2
      exact ⟨k1,a1,us',k2,a2,ws',rfl,XZ (R'.sub _ _ e1),XZ (R'.sub _ _ e2),k _ H' F' _ ρ' sb R' (rF e1 g1 e2 g2) w1⟩
   ·exact w1.elim
  ·exact w1.elim
 ·exact w1.elim
noncomputable def tF(a b c:AD):AH:=λρ Q=>yX [a,b,c] ρ λxs ρ1=>match aX ρ1 xs with
 | false=>PQ ρ1 xs λds=>match ds with
  | [x,y,z]=>match pF x,pF y,pF z with
   | some us,some ws,some ts=>Q (OV us ws ts) ρ1
   | _,_,_=>False
  | _=>False
 | true=>False
theorem uF{K:Fg}{F:Hp}{a b c:Addr}{k1 k2 k3:Kd}{xs ys zs:List V}{ds es fs:List D}(e1:F a=some (match k1 with|Kd.l=>HO.lst xs|Kd.t=>HO.tup xs))(h1:DaAll K F xs ds)
  (e2:F b=some (match k2 with|Kd.l=>HO.lst ys|Kd.t=>HO.tup ys)) (h2:DaAll K F ys es) (e3:F c=some (match k3 with|Kd.l=>HO.lst zs|Kd.t=>HO.tup zs)) (h3:DaAll K F zs fs):Walks K (eC K k1 k2 k3 a b c) F (OV ds es fs):=λi H F1 s1 s2=>by
 have q1:Sq k1 K H a xs:=XZ (s2 _ _ (s1 _ _ e1))
 have q2:Sq k2 K H b ys:=XZ (s2 _ _ (s1 _ _ e2))
 have q3:Sq k3 K H c zs:=XZ (s2 _ _ (s1 _ _ e3))
 refine ⟨λd ed=>?_,λhl=>⟨xs,ys,zs,q1,q2,q3,?_⟩⟩
 ·simp only[OV,X0,J3]at ed
  obtain⟨⟨x,y,t⟩,ez,rfl⟩:=ed
  rw[L5,L5]at ez
  obtain⟨v,g1,g2⟩:=h1.get ez.1
  obtain⟨u,g3,g4⟩:=h2.get ez.2.1
  obtain⟨w,g5,g6⟩:=h3.get ez.2.2
  refine ⟨⟨xs,v,ys,u,zs,w,q1,q2,q3,g1,g3,g5⟩,λz H' ⟨T,x1,x2,x3,hT,ex,eH,f1,f2,f3⟩=>?_⟩
  subst ex eH
  have f1:=f1 xs q1
  have f2:=f2 ys q2
  have f3:=f3 zs q3
  rw[g1]at f1;cases f1
  rw[g3]at f2;cases f2
  rw[g5]at f3;cases f3
  have fT:F1 T=none:=by
   cases z:F1 T with
   | none=>rfl
   | some o=>rw[s2 _ _ z]at hT;cases hT
  have sn:=s1.trans (Sub.new (o:=.tup [v,u,w]) fT)
  refine ⟨HQ F1 T (.tup [v,u,w]),Sub.new fT,λc o ec=>?_,λc o ec=>?_,Sub.new hT,.tup iQ (.cons (g2.mono sn) (.cons (g4.mono sn) (.cons (g6.mono sn) .nil)))⟩
  ·by_cases z:c=T
   ·subst z;exact .inr hT
   ·rw[cQ z]at ec;exact .inl ec
  ·by_cases z:c=T
   ·subst z;rw[iQ]at ec ⊢;exact ec
   ·rw[cQ z]at ec ⊢;exact s2 _ _ ec
 ·simp only[OV,i0,L4]at hl
  rw[h1.length,h2.length,h3.length]
  omega
theorem LC{K:Fg}{a b c:AD}{σ:St}{H:Hp}{R:It->Hp->Prop}(h:UQ K (tF a b c) σ H R):qD K (tQ ([a,b,c].map (pQ K))) σ H R:=by
 obtain⟨G,F,ρ,Qd,Rl,w,k⟩:=h
 refine lX Rl w λvs H' F' xs ρ' sb R' o w1=>?_
 split at w1
 ·rename_i e
  obtain⟨ds,da,w1⟩:=bX R' e o w1
  split at w1
  ·rename_i x y z
   split at w1
   ·rename_i us ws ts p1 p2 p3
    cases da with
    | cons d1 t =>
     cases t with
     | cons d2 t =>
      cases t with
      | cons d3 t =>
       cases t
       obtain⟨k1,a1,us',rfl,e1,g1⟩:=DJ d1 p1
       obtain⟨k2,a2,ws',rfl,e2,g2⟩:=DJ d2 p2
       obtain⟨k3,a3,ts',rfl,e3,g3⟩:=DJ d3 p3
       exact ⟨k1,a1,us',k2,a2,ws',k3,a3,ts',rfl,XZ (R'.sub _ _ e1),XZ (R'.sub _ _ e2),XZ (R'.sub _ _ e3),k _ H' F' _ ρ' sb R' (uF e1 g1 e2 g2 e3 g3) w1⟩
   ·exact w1.elim
  ·exact w1.elim
 ·exact w1.elim
noncomputable def Ax(a:AD):AH:=λρ Q=>yX [a] ρ λxs ρ1=>match aX ρ1 xs with
 | false=>PQ ρ1 xs λds=>match ds with
  | [.tuple us]=>Q us.reverse ρ1
  | _=>False
 | true=>False
theorem tL{K:Fg}{a:AD}{σ:St}{H:Hp}{R:It->Hp->Prop}(h:UQ K (Ax a) σ H R):jC K (tQ ([a].map (pQ K))) σ H R:=by
 obtain⟨G,F,ρ,Qd,Rl,w,k⟩:=h
 refine lX Rl w λvs H' F' xs ρ' sb R' o w1=>?_
 split at w1
 ·rename_i e
  obtain⟨ds,da,w1⟩:=bX R' e o w1
  split at w1
  ·rename_i us
   cases da with
   | cons d1 t =>
    cases t
    cases d1 with
    | tup q t =>
     rename_i a1 us'
     refine ⟨a1,us',rfl,SqT.of (R'.sub _ _ q),k _ H' F' _ ρ' sb R' (λi H F1 s1 s2=>?_) w1⟩
     have qq:=SqT.of (K:=K) (s2 _ _ (s1 _ _ q))
     refine ⟨λd ed=>?_,λhl=>?_⟩
     ·have hi:=oX ed
      rw[h9]at hi
      rw[List.getElem?_reverse hi]at ed
      obtain⟨v,g1,g2⟩:=t.get ed
      rw[<- t.length]at g1 hi
      refine ⟨⟨us',v,qq,rfl,hi,g1⟩,λx H' ⟨e1,e2⟩=>?_⟩
      subst e1
      have:=e2 us' qq
      rw[g1]at this;cases this
      exact ⟨F1,Sub.refl _,λ_ _ z=>.inl z,s2,Sub.refl _,g2.mono s1⟩
     ·rw[h9,<- t.length]at hl;exact hl.symm
  ·exact w1.elim
 ·exact w1.elim
noncomputable def vF:D->Option GQ
 | .int i=>some (.inl i)
 | .str x=>some (.inr x)
 | _=>none
theorem PY(k:GQ):vF (YK k)=some k:=by cases k<;>rfl
theorem DD{d:D}{k:GQ}(h:vF d=some k):d=YK k:=by
 cases d<;>first|(cases h;rfl)|cases h
noncomputable def Bz:List D->Option (List GQ)
 | []=>some []
 | d :: ds=>match vF d,Bz ds with
  | some k,some ks=>some (k :: ks)
  | _,_=>none
theorem OH:∀ks:List GQ,Bz (ks.map YK)=some ks
 | []=>rfl
 | k :: ks=>by simp[Bz,PY,OH ks]
theorem PH:∀{ds:List D}{ks:List GQ},Bz ds=some ks->ds=ks.map YK
 | [],ks,h=>by cases h;rfl
 | d :: ds,ks,h=>by
  unfold Bz at h
  split at h
  ·rename_i k ks' e1 e2
   cases h
   rw[DD e1,PH e2];rfl
  ·cases h
noncomputable def EY(es:List (D×D))(k:GQ):Option D:=(es.find? λe=>decide (vF e.1=some k)).map (·.2)
noncomputable def QH:D->Option (List GQ)
 | .tuple ds=>Bz ds
 | _=>none
noncomputable def BU(es:List (D×D))(k:List GQ):Option D:=(es.find? λe=>decide (QH e.1=some k)).map (·.2)
noncomputable def PV(es:List (D×D))(k:GQ)(d:D):List (D×D):=if (es.any λe=>decide (vF e.1=some k))=true then es.map (λe=>if vF e.1=some k then (e.1,d) else e) else es++[(YK k,d)]
section
variable {K:Fg}{F H:Hp}
theorem DaKV.val(k:GQ):∀{kvs:List (GQ×V)}{es:List (D×D)},DaKV K F kvs es->match EY es k,wX kvs k with|some d,some v=>Da K F v d|none,none=>True|_,_=>False
 | _,_,.nil=>trivial
 | _,_,.cons (k:=k') (v:=v) (d:=d) (kvs:=kvs) (es:=es) h t=>by
  have ih:=DaKV.val k t
  unfold EY wX at ih ⊢
  simp only[j4,PY,Option.some.injEq]
  by_cases e:k'=k
  ·subst e;simp;exact h
  ·have e':decide (k'=k)=false:=decide_eq_false e
   simp only[e']
   exact ih
theorem DaKT.val(k:List GQ):∀{kvs:List (List GQ×V)}{es:List (D×D)},DaKT K F kvs es->match BU es k,wX kvs k with|some d,some v=>Da K F v d|none,none=>True|_,_=>False
 | _,_,.nil=>trivial
 | _,_,.cons (ks:=k') (v:=v) (d:=d) (kvs:=kvs) (es:=es) h t=>by
  have ih:=DaKT.val k t
  unfold BU wX at ih ⊢
  simp only[j4,QH,OH,Option.some.injEq]
  by_cases e:k'=k
  ·subst e;simp;exact h
  ·have e':decide (k'=k)=false:=decide_eq_false e
   simp only[e']
   exact ih
theorem DaKV.repl{k:GQ}{v:V}{d:D}(hv:Da K F v d):∀{kvs:List (GQ×V)}{es:List (D×D)},DaKV K F kvs es->DaKV K F (kvs.map λkv=>if kv.1=k then (kv.1,v) else kv) (es.map λe=>if vF e.1=some k then (e.1,d) else e)
 | _,_,.nil=>.nil
 | _,_,.cons (k:=k') h t=>by
  simp only[Z0,PY,Option.some.injEq]
  by_cases e:k'=k
  ·rw[if_pos e,if_pos e];exact .cons hv (DaKV.repl hv t)
  ·rw[if_neg e,if_neg e];exact .cons h (DaKV.repl hv t)
theorem DaKV.snoc{k:GQ}{v:V}{d:D}(hv:Da K F v d):∀{kvs:List (GQ×V)}{es:List (D×D)},DaKV K F kvs es->DaKV K F (kvs++[(k,v)]) (es++[(YK k,d)])
 | _,_,.nil=>.cons hv .nil
 | _,_,.cons h t=>.cons h (DaKV.snoc hv t)
theorem DaKV.any(k:GQ):∀{kvs:List (GQ×V)}{es:List (D×D)},DaKV K F kvs es->(kvs.any λkv=>decide (kv.1=k))=es.any λe=>decide (vF e.1=some k)
 | _,_,.nil=>rfl
 | _,_,.cons (k:=k') h t=>by simp only[j8,PY,Option.some.injEq];rw[DaKV.any k t]
theorem DaKV.put{k:GQ}{v:V}{d:D}{kvs:List (GQ×V)}{es:List (D×D)}(h:DaKV K F kvs es)(hv:Da K F v d):DaKV K F (aZ kvs k v) (PV es k d):=by
 unfold aZ PV
 rw[h.any k]
 split
 ·exact h.repl hv
 ·exact h.snoc hv
theorem DaKV.length:∀{kvs:List (GQ×V)}{es:List (D×D)},DaKV K F kvs es->kvs.length=es.length
 | _,_,.nil=>rfl
 | _,_,.cons _ t=>by simp[DaKV.length t]
theorem At.dict{v:V}{es:List (D×D)}(s:Sub F H)(h:At K F H v (.dict es)):∃a,v=.ref a/\((∃kvs,Rd H a (.dK kvs)/\DaKV K F kvs es)\/(∃kvs,Rd H a (.dT kvs)/\DaKT K F kvs es)\/∃k0 d0,es=[(k0,d0)]/\vF k0=Option.none/\QH k0=Option.none):=by
 rcases h with h|⟨a,o,rfl,_,e,h⟩
 ·cases h with
  | dk q t=>exact ⟨_,rfl,.inl ⟨_,s.rd q,t⟩⟩
  | dt q t=>exact ⟨_,rfl,.inr (.inl ⟨_,s.rd q,t⟩)⟩
  | scr q=>exact ⟨_,rfl,.inr (.inr ⟨_,_,rfl,rfl,rfl⟩)⟩
  | exc q=>exact ⟨_,rfl,.inr (.inr ⟨_,_,rfl,rfl,rfl⟩)⟩
 ·cases o<;>first|exact h.elim|exact ⟨_,rfl,.inl ⟨_,.inl e,h⟩⟩|exact ⟨_,rfl,.inr (.inl ⟨_,.inl e,h⟩)⟩
theorem DaAll.keys:∀{xs:List V}{ks:List GQ},DaAll K F xs (ks.map YK)->xs=ks.map kV
 | [],[],_=>rfl
 | x :: xs,k :: ks,.cons h t=>by
  have e:x=kV k:=by cases k<;>(cases h;rfl)
  rw[e,DaAll.keys t];rfl
theorem At.key{v:V}{d:D}{k:GQ}(h:At K F H v d)(e:vF d=some k):v=kV k:=by
 have:=DD e
 subst this
 cases k with
 | inl i=>exact h.int
 | inr x=>exact h.str
theorem At.keyTup{v:V}{d:D}{k:List GQ}(s:Sub F H)(h:At K F H v d)(e:QH d=some k):∃b,v=.ref b/\H b=some (.tup (k.map kV)):=by
 cases d<;>first|cases e|skip
 rename_i ds
 have:=PH e
 subst this
 obtain⟨a,xs,rfl,_,e1,d1⟩:=h.tuple s
 have:=d1.keys
 subst this
 exact ⟨a,rfl,e1⟩
theorem ly{es:List (D×D)}{k0:D}(e:∃d0,es=[(k0,d0)]/\vF k0=none/\QH k0=none)(k:GQ):EY es k=none:=by obtain⟨d0,rfl,e,_⟩:=e;simp[EY,e]
theorem my{es:List (D×D)}{k0:D}(e:∃d0,es=[(k0,d0)]/\vF k0=none/\QH k0=none)(k:List GQ):BU es k=none:=by obtain⟨d0,rfl,_,e⟩:=e;simp[BU,e]
theorem Cz(e:D×D)(es:List (D×D))(k:GQ)(h:vF e.1=none):EY (e :: es) k=EY es k:=by simp[EY,j4,h]
theorem Dz(e:D×D)(es:List (D×D))(k:List GQ)(h:QH e.1=none):BU (e :: es) k=BU es k:=by simp[BU,j4,h]
theorem wF(k:GQ):∀{kvs:List (List GQ×V)}{es:List (D×D)},DaKT K F kvs es->EY es k=none
 | _,_,.nil=>rfl
 | _,_,.cons h t=>by rw[Cz _ _ _ rfl];exact wF k t
theorem Dx(k:List GQ):∀{kvs:List (GQ×V)}{es:List (D×D)},DaKV K F kvs es->BU es k=none
 | _,_,.nil=>rfl
 | _,_,.cons (k:=k') h t=>by rw[Dz _ _ _ (by cases k'<;>rfl)];exact Dx k t
end
noncomputable def Ez(es:List (D×D))(k:D):Option D:=match vF k with
 | some k=>EY es k
 | none=>match QH k with
  | some ks=>BU es ks
  | none=>none
noncomputable def QV:D->D->(Sl->Prop)->Prop
 | .dict es,k,Q=>∃d,Ez es k=some d/\Q (.fz d)
 | _,_,_=>False
theorem Fz{K:Fg}{F H:Hp}{x y:V}{es:List (D×D)}{k d:D}(s:Sub F H)(h1:At K F H x (.dict es))(h2:At K F H y k)(e:Ez es k=some d):∃a v,x=.ref a/\UG H a y (some v)/\Da K F v d:=by
 obtain⟨a,rfl,h⟩:=h1.dict s
 unfold Ez at e
 split at e
 ·rename_i k' ek
  have hy:=h2.key ek
  subst hy
  rcases h with⟨kvs,q,t⟩|⟨kvs,q,t⟩|⟨ns,q⟩
  ·have:=t.val k'
   rw[e]at this
   cases ev:wX kvs k' with
   | none=>rw[ev]at this;exact this.elim
   | some v=>rw[ev]at this;exact ⟨a,v,rfl,.inl ⟨kvs,k',q,rfl,ev.symm⟩,this⟩
  ·rw[wF _ t]at e;cases e
  ·rw[ly q]at e;cases e
 ·split at e
  ·rename_i ks ek
   obtain⟨b,rfl,hb⟩:=h2.keyTup s ek
   rcases h with⟨kvs,q,t⟩|⟨kvs,q,t⟩|⟨ns,q⟩
   ·rw[Dx _ t]at e;cases e
   ·have:=t.val ks
    rw[e]at this
    cases ev:wX kvs ks with
    | none=>rw[ev]at this;exact this.elim
    | some v=>rw[ev]at this;exact ⟨a,v,rfl,.inr ⟨kvs,ks,b,q,rfl,hb,ev.symm⟩,this⟩
   ·rw[my q]at e;cases e
  ·cases e
noncomputable def uL:R2:=λx y H Q=>∃a v,x=.ref a/\UG H a y (some v)/\Q v H
theorem ny{K:Fg}:VQ K (DY uL) (o2 QV):=ux λG F σ H ρ x y d e Q Qd R h1 h2 w k=>by
 match d,h1,w with
 | .dict es,h1,⟨d',w1,w2⟩ =>
  obtain⟨a,v,rfl,g,dv⟩:=Fz R.sub h1 h2 w1
  exact ⟨a,v,rfl,g,k _ H F (.fz _) (Sub.refl _) R dv w2⟩
noncomputable def EJ(j:Nat)(ak:AD)(te:TD):qK:=λE ρ=>te ρ λr ρ1=>match ρ1[j]? with
 | some (some _)=>yX [ak] ρ1 λxs ρ2=>PQ ρ2 xs λds=>match ds,ρ2[j]? with
  | [kd],some (some s)=>match s.d,LQ s,vF kd with
   | .dict es,true,some k=>es.length < sizeLine/\(EY es k).isSome=true/\E.nx (ρ2.set j (some (s.put (.dict (PV es k r.d)))))
   | _,_,_=>False
  | _,_=>False
 | _=>False
theorem Ex{K:Fg}{j:Nat}{ak:AD}{te:TD}{σ:St}{H:Hp}{E:Ends}(h:sQ K (EJ j ak te) E σ H):Fj (qZ j) (pQ K ak) (lift K te) E σ H:=by
 obtain⟨G,F,ρ,D,R,w,n,r,b,c⟩:=h
 refine ⟨G,F,ρ,_,R,w,λv H1 F1 x ρ1 s1 R1 r1 w1=>?_⟩
 obtain⟨F2,s2,R2,d2⟩:=r1.frz R1
 split at w1
 ·rename_i s0 e0
  obtain⟨u,eu⟩:=R2.bound e0
  refine ⟨u,eu,ax (P:=λy H3=>∃a H4,u=.ref a/\TB H3 a y v H4/\E.nx σ H4) (lX R2 w1 λvs H3 F3 xs ρ3 s3 R3 o3 w3=>?_)⟩
  obtain⟨ds,ha,w3⟩:=tZ R3 o3 w3
  split at w3
  ·rename_i kd s e
   obtain⟨kv,rfl,hk⟩:=ha.one
   split at w3
   ·rename_i es k p1 p2 p3
    obtain⟨a,o,g1,g2,g3,g4⟩:=R3.ow j s e p2
    rw[eu]at g1;cases g1
    rw[p1]at g4
    have:=hk.key p3
    subst this
    refine ⟨_,rfl,a,?_⟩
    cases o with
    | dK kvs =>
     have g4:DaKV K F3 kvs es:=g4
     refine ⟨_,rfl,.inl ⟨kvs,k,g3,rfl,by rw[g4.length];exact w3.1,rfl⟩,?_⟩
     have R4:=R3.change (o':=.dK (aZ kvs k v)) (d':=.dict (PV es k x.d)) e p2 eu (g4.put (d2.mono s3))
     exact n σ _ F3 _ (s1.trans (s2.trans s3)) R4 w3.2.2
    | dT kvs =>
     have g4:DaKT K F3 kvs es:=g4
     rw[wF _ g4]at w3
     exact absurd w3.2.1 (by simp)
    | _=>exact g4.elim
   ·exact w3.elim
  ·exact w3.elim
 ·exact w1.elim
open PySem PySem.Spec PyProof.Rows L2
noncomputable def wQ:Expr->Bool
 | .Starred _ _=>false
 | _=>true
theorem mQ{e:Expr}{es:List Expr}{env:Env}(h:wQ e=true):starEach (e :: es) env=(false,eval e env) :: starEach es env:=by
 cases e<;>first|rfl|cases h
theorem cX{env:Env}{pos:Pos}:∀{es:List Expr},es.all wQ=true->(backTo pos (starEach es env)).any (·.1)=false:=by
 intro es
 induction es with
 | nil=>intro _;rfl
 | cons e es ih =>
  intro h
  simp only[o9,P4]at h
  rw[mQ h.1]
  have:=ih h.2
  simp[backTo]at this ⊢
  exact this
noncomputable def CU:Expr->Bool
 | .Set _ _ _=>false
 | _=>true
theorem cY{e:Expr}{env:Env}(h:CU e=true)(x:Value):foldedSetIterable e env x=pure x:=by
 cases e<;>first|rfl|cases h
noncomputable def wK:Expr->Bool
 | .ListComp _ _ _ _=>false
 | .SetComp _ _ _ _=>false
 | .DictComp _ _ _ _ _=>false
 | _=>true
theorem xK{e:Expr}{t:Option Expr}{n:Nat}{env:Env}(h:wK e=true):swapsWith e t n env=pure false:=by
 cases e<;>first|rfl|cases h
section
variable {X:Cx}{K:Fg}
theorem aV{e:Expr}{t t':TE}(h:PE X e t)(m:∀{σ H Q},t' σ H Q->t σ H Q):PE X e t':=λpins s σ H Q I w=>h pins s σ H Q I (m w)
theorem NN{e:Expr}{t t':TT}(h:PT X e t)(m:∀{σ H Q},t' σ H Q->t σ H Q):PT X e t':=λpins s σ H Q I w=>h pins s σ H Q I (m w)
theorem wP{e:Expr}{t t':TT}(h:PW X e t)(m:∀{σ H Q},t' σ H Q->t σ H Q):PW X e t':=λwh pins s σ H Q I w=>h wh pins s σ H Q I (m w)
theorem Fx{e:Stmt}{t t':TS}(h:PS X e t)(m:∀{D σ H},t' D σ H->t D σ H):PS X e t':=λpins s σ H D I w=>h pins s σ H D I (m w)
theorem MC{e:List Stmt}{t t':TS}(h:PSs X e t)(m:∀{D σ H},t' D σ H->t D σ H):PSs X e t':=λpins s σ H D I w=>h pins s σ H D I (m w)
theorem ON{e:Expr}{t t':TG}(h:PG X e t)(m:∀{v σ H Q},t' v σ H Q->t v σ H Q):PG X e t':=by
 unfold PG at h ⊢
 intros
 exact h _ _ _ _ _ _ _ (by assumption) (by assumption) (m (by assumption))
theorem NC{g e:Expr}{t t':TI}(h:PI X g e t)(m:∀{σ H R},t' σ H R->t σ H R):PI X g e t':=λpins s σ H R I w=>h pins s σ H R I (m w)
theorem PN{es:List Expr}{t t':TT}(h:Mj X es t)(m:∀{σ H Q},t' σ H Q->t σ H Q):Mj X es t':=λpins s σ H Q I w=>h pins s σ H Q I (m w)
theorem oy{e:Expr}{es:List Expr}{a:AD}{as:List AD}(ha:PE X e (pQ K a))(hr:PA X es (tQ (as.map (pQ K))))(hs:starEach (e :: es) X.env=(false,eval e X.env) :: starEach es X.env:=by exact mQ rfl):PA X (e :: es) (tQ ((a :: as).map (pQ K))):=CJ ha hr hs
variable {e:Expr}{a b c:AD}{as:List AD}{td te:TD}{tc td':pV}
theorem OC{i:Nat}(h:PE X e (qZ i)):PE X e (lift K (wH i)):=aV h cL
theorem PC{v:V}{d:D}(hv:∀F,Da K F v d)(h:PE X e (tC v)):PE X e (lift K (dC d)):=aV h (tP hv)
theorem vL{r:R2}{f:D->D->(Sl->Prop)->Prop}(ok:VQ K (DY r) (o2 f))(h:PE X e (FB r (pQ K a) (pQ K b))):PE X e (lift K (SZ [a,b] (o2 f))):=aV h λq=>Vv (xH ok q)
theorem xP{r:V->Hp->VK->Prop}{f:D->(Sl->Prop)->Prop}(ok:VQ K (WO r) (o1 f))(h:PE X e (RO r (pQ K a))):PE X e (lift K (SZ [a] (o1 f))):=aV h λq=>ax (xH ok q)
theorem YO{r:List V->Hp->VK->Prop}{f:List D->(Sl->Prop)->Prop}(ok:VQ K r f)(h:PE X e (sI r (tQ (as.map (pQ K))))):PE X e (lift K (SZ as f)):=aV h λq=>xH ok q
theorem QC(T:Ki)(h:PE X e (sI (iz K) (uY (pQ K a) (uY (tC (.ty T.nm)) bW)))):PE X e (lift K (SZ [a] (o1 (BC T)))):=aV h λq=>ax (P:=λx H1=>iz K [x,.ty T.nm] H1 _) (xH CC q)
theorem RC(hl:as.length<=1000)(h:PE X e (IB (tQ (as.map (pQ K))))):PE X e (lift K (zU as KH)):=aV h (qL hl)
theorem SC(hl:as.length<=1000)(h:PE X e (iH (tQ (as.map (pQ K))))):PE X e (lift K (zU as BD)):=aV h (rL hl)
theorem Gx{p q:Int->Int->Bool}(h:PE X e (LG (tY λi j=>.bl (p i j)) (tY λi j=>.bl (q i j)) (pQ K a) (pQ K b) (pQ K c))):PE X e (lift K (lF p q a b c)):=aV h dy
theorem TC(h:PE X e (gj (lift K td) (lift K te))):PE X e (lift K (cx td te)):=aV h mC
theorem UC(h:PE X e (kj (lift K td))):PE X e (lift K (fx td)):=aV h nC
theorem wL{con:Con}{E:XK}(h:PE X e (vY (eQ K con) [] E (tQ (as.map (pQ K))))):PE X e (lift K (EH con as)):=aV h xC
theorem VC{con:Con}{E:XK}{i:Nat}(h:PE X e (vY (eQ K con) [] E (tQ ((Sum.inl i :: as).map (pQ K))))):PE X e (lift K (yU con i as)):=aV h ay
theorem QN{i:Nat}{r:V->List V->Hp->VK->Prop}{f:List D->List D->(D->D->Prop)->Prop}(ok:FC K r f)(h:PE X e (VM K "list" r (qZ i) (tQ (as.map (pQ K))))):PE X e (lift K (LH i as f)):=aV h λq=>by
 obtain⟨a,xs,e1,sq,w⟩:=GC ok q
 exact ⟨_,e1,.inl ⟨rfl,xs,sq⟩,w⟩
theorem yP{r:R2}{f:D->D->(Sl->Prop)->Prop}(ok:VQ K (DY r) (o2 f))(h:PT X e (wj (FB r (pQ K a) (pQ K b)))):PT X e (MQ K (iF (SZ [a,b] (o2 f)))):=NN h λq=>Uu (λz=>Vv (xH ok z)) q
theorem WC(h:PT X e (tB (lift K td))):PT X e (MQ K (iF td)):=NN h λq=>Uu (λz=>z) q
theorem XC(h:PT X e (uB (MQ K tc))):PT X e (MQ K (lC tc)):=NN h eL
theorem xL(h:PW X e (yN (MQ K tc) (MQ K td'))):PW X e (MQ K (XM tc td')):=wP h IN
variable {st:Stmt}{sts:List Stmt}{t u:qK}
theorem qy(h:PSs X sts lj):PSs X sts (sQ K vD):=MC h oC
theorem YC(h:PSs X sts (cV (sQ K t) (sQ K u))):PSs X sts (sQ K (sW t u)):=MC h gL
theorem ZC(h:PS X st (Jq (lift K td))):PS X st (sQ K (gx td)):=Fx h iL
theorem sy{i:Nat}(h:PS X st (Jq (qZ i))):PS X st (sQ K (NV i)):=Fx h qC
theorem uy{i j:Nat}(h:PS X st (dJ (qZ j) (JX i))):PS X st (sQ K (zH i j)):=Fx h rC
theorem vy(h:PS X st (sY (lift K td))):PS X st (sQ K (jx td)):=Fx h pC
theorem yL(h:PS X st (AB (MQ K tc) (sQ K t) (sQ K u))):PS X st (sQ K (Wv tc t u)):=Fx h jL
theorem aE{i:Nat}(h:PS X st (dJ (lift K td) (JX i))):PS X st (sQ K (xU i td)):=Fx h Vu
theorem zL{j:Nat}(h:PS X st (dJ (lift K td) (DB (qZ j) (pQ K a) iD))):PS X st (sQ K (mF j a td)):=Fx h jy
theorem bE{j:Nat}(h:PS X st (Fj (qZ j) (pQ K a) (lift K td))):PS X st (sQ K (EJ j a td)):=Fx h Ex
noncomputable def Hx(g:WZ)(a:TD):qK:=λE ρ=>a ρ λr ρ'=>g r.d ρ' E.nx
theorem cE{g:WZ}{E:Ends}{σ:L2.St}{H:Hp}(h:sQ K (Hx g td) E σ H):dJ (lift K td) (RQ K g) E σ H:=by
 obtain⟨G,F,ρ,D,R,w,n,r,b,c⟩:=h
 refine ⟨G,F,ρ,_,R,w,λv H' F' x ρ' s R' r' q=>?_⟩
 obtain⟨F2,s2,R2,d2⟩:=r'.frz R'
 exact ⟨G,F2,ρ',x.d,_,R2,d2,q,λσ3 ρ3 R3 w3=>n σ3 H' F2 ρ3 (s.trans s2) R3 w3⟩
theorem wy{g:WZ}(h:PS X st (dJ (lift K td) (RQ K g))):PS X st (sQ K (Hx g td)):=Fx h cE
theorem yy{i:Nat}(h:PG X e (JX i)):PG X e (RQ K (sC i)):=ON h JN
theorem dE{n:Nat}{gs:List WZ}(h:PG X e (Kq K n (CY (gs.map (RQ K)))))(hn:gs.length=n:=by rfl):PG X e (RQ K (ZM gs)):=ON h (KN hn)
theorem Ix{es:List Expr}{g:WZ}{gs:List WZ}(h1:PG X e (RQ K g))(h2:cv X es (CY (gs.map (RQ K))))(hs:(assignEach (e :: es) X.env).map (·.2)=assign e X.env :: (assignEach es X.env).map (·.2):=by rfl):cv X (e :: es) (CY ((g :: gs).map (RQ K))):=ZY h1 h2 hs
theorem zy:Mj X [] (MQ K yH):=PN ZB fL
variable {tg:Expr}
theorem Ay{l:Expr}{tl:TE}(hK:X.K=K)(hl:PE X l tl):PI X tg l (sL K tl):=by
 subst hK
 intro pins s σ H R I h
 refine gX (hl pins s σ H _ I h) λv s1 ⟨x,H1,I1,r1,q1⟩=>?_
 obtain⟨a,e,q1⟩:=q1
 subst e
 cases r1
 rcases q1 with⟨⟨xs,hq⟩,q⟩|⟨⟨xs,hq⟩,q⟩
 ·obtain⟨its,rv,p,hz⟩:=I1.list hq
  refine wpAny_pyIter_list p.isList ?_
  refine ⟨s1.heap.objs.size,[s1.heap.objs.size],_,_,H1,rfl,I1.kept (t':=s1.toks) λb o e=>g0 _ e,Lq a _,⟨_,J0 _ rfl,rfl,rfl⟩,λb hb=>?_,q⟩
  have e:b=s1.heap.objs.size:=by simpa using hb
  subst e
  exact I1.fpOk (G0 _) (I1.hok.fresh (G0 _))
 ·obtain⟨its,rv,p,hz⟩:=I1.tuple hq
  refine wpAny_pyIter_tuple (show s1.heap.IsTuple a its.toArray from p) ?_
  refine ⟨s1.heap.objs.size,[s1.heap.objs.size],_,_,H1,rfl,I1.kept (t':=s1.toks) λb o e=>g0 _ e,JG a _,⟨_,J0 _ rfl,rfl,rfl⟩,λb hb=>?_,q⟩
  have e:b=s1.heap.objs.size:=by simpa using hb
  subst e
  exact I1.fpOk (G0 _) (I1.hok.fresh (G0 _))
theorem eE{l:Expr}(hK:X.K=K)(hl:PE X l (lift K td)):PI X tg l (UQ K (NH td)):=NC (Ay hK hl) HC
theorem By{l:Expr}(h:PI X tg l (nj (tQ ([a].map (pQ K))))):PI X tg l (UQ K (AU a)):=NC h IC
theorem Cy{l:Expr}(h:PI X tg l (oj (tQ ([a,b].map (pQ K))))):PI X tg l (UQ K (oF a b)):=NC h JC
theorem Dy{l:Expr}(h:PI X tg l (nD K (tQ ([a,b].map (pQ K))))):PI X tg l (UQ K (qF a b)):=NC h KC
theorem Ey{l:Expr}(h:PI X tg l (qD K (tQ ([a,b,c].map (pQ K))))):PI X tg l (UQ K (tF a b c)):=NC h LC
theorem fE{l:Expr}(h:PI X tg l (jC K (tQ ([a].map (pQ K))))):PI X tg l (UQ K (Ax a)):=NC h tL
noncomputable def Gz(_ j:Int):Prop:=0 < j
theorem op_catB:OpR X (binaryOp .Add) xx:=by
 intro pins s σ H x y v u Q I rx ry h
 obtain⟨a,b,xs,ys,rfl,rfl,ha,hb,hz,q1,q2,q3⟩:=h
 have ha':SqT X.K H a xs:=SqT.of ha
 have hb':SqT X.K H b ys:=SqT.of hb
 by_cases hx:xs=[]
 ·subst hx
  cases rx
  cases ry
  obtain⟨its,r1,p1,_⟩:=I.tuple ha'
  obtain⟨its2,r2,p2,_⟩:=I.tuple hb'
  cases r1
  exact Vj p1 p2 ⟨.ref b,H,I,rfl,q1 rfl⟩
 ·exact zv pins s σ H (.ref a) (.ref b) v u Q I rx ry ⟨a,b,xs,ys,rfl,rfl,ha',hb',hx,hz,λe=>q2 hx e,λe p hp=>q3 hx e p hp⟩
theorem CQ:OpR X (binaryOp .Add) (vK (tY λi j=>.int (i+j)) (vK xx PB)):=op_add.or (op_catB.or QB)
theorem xX:OpR X (binaryOp .Mult) (vK (rI CMul λi j=>.int (i * j)) RB):=op_mul.or SB
theorem FZ:VQ K (DY (tY λi j=>.int (i - j))) (o2 (dj λi j=>.int (i - j))):=IH λ_ _ _=>.int _
theorem QY:VQ K (DY (rI sj λi j=>.int (i / j))) (o2 (fI sj λi j=>.int (i / j))):=yC λ_ _ _=>.int _
theorem rJ:VQ K (DY (rI (λ_ j=>0 < j) λi j=>.int (i % j))) (o2 (fI Gz λi j=>.int (i % j))):=yC (C:=Gz) λ_ _ _=>.int _
theorem Jx:VQ K (DY (rI lv λi j=>.int (i ^ j.toNat))) (o2 (fI lv λi j=>.int (i ^ j.toNat))):=yC λ_ _ _=>.int _
theorem RV:VQ K (DY (tY λi j=>.bl (decide (i < j)))) (o2 (dj λi j=>.bool (decide (i < j)))):=IH λ_ _ _=>.bl _
theorem Wu:VQ K (DY (tY λi j=>.bl (decide (i<=j)))) (o2 (dj λi j=>.bool (decide (i<=j)))):=IH λ_ _ _=>.bl _
theorem ED:VQ K (DY (tY λi j=>.bl (decide (j < i)))) (o2 (dj λi j=>.bool (decide (j < i)))):=IH λ_ _ _=>.bl _
theorem AL:VQ K (DY (tY λi j=>.bl (decide (j<=i)))) (o2 (dj λi j=>.bool (decide (j<=i)))):=IH λ_ _ _=>.bl _
theorem Fy(hK:X.K=K):IxR X (vK (Av K) (Bv K)):=(Sj hK).or (Pv hK)
end
mutual
noncomputable def WQ:D->Bool
 | .none=>true
 | .bool _=>true
 | .int _=>true
 | .str _=>true
 | .list xs=>plainAll xs
 | .tuple xs=>plainAll xs
 | .dict _=>false
noncomputable def plainAll:List D->Bool
 | []=>true
 | x :: xs=>WQ x&&plainAll xs
end
section
variable {K:Fg}{F H:Hp}
mutual
theorem Da.is(s:Sub F H):∀{v:V}{d:D},Da K F v d->WQ d=true->Is K H v d
 | _,_,.non,_=>.non
 | _,_,.bl b,_=>.bl b
 | _,_,.int i,_=>.int i
 | _,_,.str x,_=>.str x
 | _,_,.lst e t,z=>.lst (SqL.of (s _ _ e)) (DaAll.is s t (by simpa [WQ]using z))
 | _,_,.tup e t,z=>.tup (SqT.of (s _ _ e)) (DaAll.is s t (by simpa [WQ]using z))
 | _,_,.dk _ _,z=>by simp[WQ]at z
 | _,_,.dt _ _,z=>by simp[WQ]at z
 | _,_,.scr _,z=>by simp[WQ,pK]at z
 | _,_,.exc _,z=>by simp[WQ,bL]at z
theorem DaAll.is(s:Sub F H):∀{xs:List V}{ds:List D},DaAll K F xs ds->plainAll ds=true->IsAll K H xs ds
 | _,_,.nil,_=>.nil
 | _,_,.cons a t,z=>by
  simp[plainAll]at z
  exact .cons (Da.is s a z.1) (DaAll.is s t z.2)
end
theorem At.is{v:V}{d:D}(s:Sub F H)(h:At K F H v d)(p:WQ d=true):Is K H v d:=by
 rcases h with h|⟨a,o,rfl,_,e,h⟩
 ·exact h.is s p
 ·cases o<;>cases d<;>first|exact h.elim|(simp[WQ]at p)|skip
  ·rename_i xs ds
   exact .lst (SqL.of e) (DaAll.is s h (by simpa [WQ]using p))
end
noncomputable def Gy(x y:D)(Q:Sl->Prop):Prop:=WQ x=true/\WQ y=true/\SeqAt.shaped x=true/\SeqAt.shaped y=true/\SeqAt.noMix x y=true/\Q (.fz (.bool (same x y)))
noncomputable def Iy(x y:D)(Q:Sl->Prop):Prop:=WQ x=true/\WQ y=true/\SeqAt.shaped x=true/\SeqAt.shaped y=true/\SeqAt.noMix x y=true/\Q (.fz (.bool (!same x y)))
noncomputable def ZO:D->D->(Sl->Prop)->Prop
 | .int i,.int j,Q=>Q (.fz (.bool (decide (i=j))))
 | .list xs,y,Q=>Gy (.list xs) y Q
 | .tuple xs,y,Q=>Gy (.tuple xs) y Q
 | .str x,.str y,Q=>Q (.fz (.bool (decide (x=y))))
 | x,y,Q=>Gy x y Q
noncomputable def aP:D->D->(Sl->Prop)->Prop
 | .int i,.int j,Q=>Q (.fz (.bool (!decide (i=j))))
 | .list xs,y,Q=>Iy (.list xs) y Q
 | .tuple xs,y,Q=>Iy (.tuple xs) y Q
 | .str x,.str y,Q=>Q (.fz (.bool (!decide (x=y))))
 | x,y,Q=>Iy x y Q
theorem SH{K:Fg}:VQ K (DY (vK TM (mV K false))) (o2 ZO):=ux λG F σ H ρ x y d e Q Qd R h1 h2 w k=>by
 have gen:Gy d e Qd->vK TM (mV K false) x y H Q:=λ⟨p1,p2,p3,p4,p5,w⟩=>.inr ⟨d,e,h1.is R.sub p1,h2.is R.sub p2,p3,p4,p5,k _ H F (.fz _) (Sub.refl _) R (Da.bl _) w⟩
 unfold ZO at w
 split at w
 ·rename_i i j
  cases h1.int
  cases h2.int
  refine .inl ⟨rfl,k _ H F (.fz _) (Sub.refl _) R (Da.bl _) ?_⟩
  have e:decide (V.int i=V.int j)=decide (i=j):=by rw[IY,B6]
  rw[e];exact w
 ·exact gen w
 ·exact gen w
 ·rename_i i j
  cases h1.str
  cases h2.str
  refine .inl ⟨rfl,k _ H F (.fz _) (Sub.refl _) R (Da.bl _) ?_⟩
  have e:decide (V.str i=V.str j)=decide (i=j):=by rw[JY,B6]
  rw[e];exact w
 ·exact gen w
theorem sJ{K:Fg}:VQ K (DY (vK UM (mV K true))) (o2 aP):=ux λG F σ H ρ x y d e Q Qd R h1 h2 w k=>by
 have gen:Iy d e Qd->vK UM (mV K true) x y H Q:=λ⟨p1,p2,p3,p4,p5,w⟩=>.inr ⟨d,e,h1.is R.sub p1,h2.is R.sub p2,p3,p4,p5,k _ H F (.fz _) (Sub.refl _) R (Da.bl _) w⟩
 unfold aP at w
 split at w
 ·rename_i i j
  cases h1.int
  cases h2.int
  refine .inl ⟨rfl,k _ H F (.fz _) (Sub.refl _) R (Da.bl _) ?_⟩
  have e:decide (V.int i=V.int j)=decide (i=j):=by rw[IY,B6]
  rw[e];exact w
 ·exact gen w
 ·exact gen w
 ·rename_i i j
  cases h1.str
  cases h2.str
  refine .inl ⟨rfl,k _ H F (.fz _) (Sub.refl _) R (Da.bl _) ?_⟩
  have e:decide (V.str i=V.str j)=decide (i=j):=by rw[JY,B6]
  rw[e];exact w
 ·exact gen w
theorem zW{X:Cx}{K:Fg}(hK:X.K=K)(hu:X.A.units+64 < cLine):OpR X (compareOp .Eq) (vK TM (mV K false)):=op_eq.or (Rv hK hu)
theorem uZ{X:Cx}{K:Fg}(hK:X.K=K)(hu:X.A.units+64 < cLine):OpR X (compareOp .NotEq) (vK UM (mV K true)):=op_ne.or (Sv hK hu)
section
variable {P:Program}{w:World}{K:Fg}{mg:Str->Option Value}{base:Heap}
theorem zP{x qual:Str}{st:Stmt}{f:Addr}{fd:FuncData}{N ps:List Str}{k:Nat}{con:Con}{ts:qK}(F:Fun K x qual st f fd)(S:FnScope N ps (fQ st))
  (hb:∀(cdv:Value) (A:Around) (outer:List Env) (s:Shared) (H:Hp) (E:XK),Room k (A.deeper (envOfC qual (fQ st) s.heap.objs.size f cdv))->PSs (jH fZ P w K mg base N qual (fQ st) f cdv A outer s H E).nox (YX st) (sQ K ts))
  (hl:∀args Qd,con args Qd->args.length=ps.length) (hc:∀args Qd,con args Qd->(∀s∈args,∀d,s≠.ow d)/\ts (TZ args Qd) (yW N.length args)):FnOk P w K mg base fZ (k+1) f fd ps (eQ K con):=by
 refine F.ok S (λvs H Q E h=>?_) (λcdv A outer s H vs Q E hr h=>⟨_,hb cdv A outer s H E hr,kL hc h⟩)
 obtain⟨G,F',args,Qd,R,w',_⟩:=h
 have h1:=hl args Qd w'
 have h2:=R.len
 rw[i0,i0]at h2
 rw[h2,h1]
end
noncomputable def BL:List Sl->Bool
 | []=>true
 | .ow _ :: _=>false
 | _ :: as=>BL as
theorem qQ:∀{as:List Sl},BL as=true->∀s∈as,∀d,s≠.ow d
 | .fz _ :: as,h,s,hs,d,z=>by
  rcases B2.mp hs with e|e
  ·subst e;cases z
  ·exact qQ (as:=as) h s e d z
 | .io _ :: as,h,s,hs,d,z=>by
  rcases B2.mp hs with e|e
  ·subst e;cases z
  ·exact qQ (as:=as) h s e d z
noncomputable def CL(K:Fg):List V->Hp->VK->Prop:=λxs H Q=>∃(a:Addr) (ns:List Int),xs=[.ref a]/\(SqL K H a (ns.map V.int)\/SqT K H a (ns.map V.int))/\Q (.int ns.sum) H
theorem SV{X:Cx}{K:Fg}(hK:X.K=K)(hc:X.calm=true):hX X (.builtin "sum") (CL K):=by
 subst hK
 intro pins s σ H xs us Q I r h
 obtain⟨a,ns,rfl,hq,q⟩:=h
 obtain⟨u,rfl,ru⟩:=VZ r
 cases ru
 have hh:=I.ok.hd hc
 rcases hq with hq|hq
 ·obtain⟨its,rv,p,hz⟩:=I.list hq
  have hi:IntsAre its ns:=tX rv
  obtain⟨zs,hx⟩:=hi.allInts.items
  have hl':s.heap.IsList a (intItems zs):=hx ▸ p.isList
  refine sum_intListG hh hl' λh' tk t' hk=>?_
  have e1:ns=zs.toList.map (·.1):=by
   rw[<- nums_intItems,<- hx]
   exact (show numsOf its.toArray.toList=ns from hi.numsOf).symm
  have e2:preSum (numAt zs) zs.size=ns.sum:=by
   rw[preSum_eq,E4 (by simp),e1]
  rw[e2]
  exact ⟨.int ns.sum,H,I.kept hk,⟨t',rfl⟩,q⟩
 ·obtain⟨its,rv,p,hz⟩:=I.tuple hq
  have hi:IntsAre its ns:=tX rv
  obtain⟨zs,hx⟩:=hi.allInts.items
  have hl':s.heap.IsTuple a (intItems zs):=hx ▸ p
  refine PySem.W.ktm_sumG hh hl' λh' tk t' hk=>?_
  have e1:ns=zs.toList.map (·.1):=by
   rw[<- nums_intItems,<- hx]
   exact (show numsOf its.toArray.toList=ns from hi.numsOf).symm
  have e2:preSum (numAt zs) zs.size=ns.sum:=by
   rw[preSum_eq,E4 (by simp),e1]
  rw[e2]
  exact ⟨.int ns.sum,H,I.kept hk,⟨t',rfl⟩,q⟩
noncomputable def RN:D->(Sl->Prop)->Prop
 | .list ds,Q=>∃ns:List Int,ds=ns.map n0/\Q (.fz (.int ns.sum))
 | .tuple ds,Q=>∃ns:List Int,ds=ns.map n0/\Q (.fz (.int ns.sum))
 | _,_=>False
theorem DaAll.intsV{K:Fg}{F:Hp}:∀{xs:List V}{ns:List Int},DaAll K F xs (ns.map n0)->xs=ns.map V.int
 | [],[],_=>rfl
 | x :: xs,b :: bs,.cons h t=>by cases h;simp[DaAll.intsV t]
theorem Kx{K:Fg}:VQ K (CL K) (o1 RN):=vx λG F σ H ρ x d Q Qd R h1 w k=>by
 match d,h1,w with
 | .list ds,h1,⟨ns,e,w⟩ =>
  subst e
  obtain⟨a,us,rfl,e1,d1⟩:=h1.list R.sub
  have:=d1.intsV
  subst this
  exact ⟨a,ns,rfl,.inl (SqL.of e1),k _ H F (.fz _) (Sub.refl _) R (Da.int _) w⟩
 | .tuple ds,h1,⟨ns,e,w⟩ =>
  subst e
  obtain⟨a,us,rfl,_,e1,d1⟩:=h1.tuple R.sub
  have:=d1.intsV
  subst this
  exact ⟨a,ns,rfl,.inr (SqT.of e1),k _ H F (.fz _) (Sub.refl _) R (Da.int _) w⟩
noncomputable def DL(i j:Int):Prop:=-(2 ^ 62)<=i/\i < 2 ^ 62/\-(2 ^ 62)<=j/\j < 2 ^ 62
noncomputable def iE:List V->Hp->VK->Prop:=λxs H Q=>∃i j:Int,(xs=[.int i,.int j]\/(xs=[.int j]/\i=0))/\∀p,H p=none->Q (.ref p) (HQ H p (.rng i j))
theorem Lx{X:Cx}:hX X (.type "range") iE:=by
 intro pins s σ H xs us Q I r h
 obtain⟨i,j,hx,q⟩:=h
 have lay:∀(t u v:Tok) (tk:Nat),EP X pins σ Q (.ref s.heap.objs.size) { s with heap:=s.heap.push { cls:=.type "range",data:=.fields #[.int i t,.int j u,.int 1 v] },toks:=tk }:=λt u v tk =>
  ⟨.ref s.heap.objs.size,_,I.laid (t':=tk) (o:=.rng i j) (λb o e=>g0 _ e) (G0 _) ⟨t,u,v,J0 _ rfl⟩,rfl,q _ (I.hok.fresh (G0 _))⟩
 rcases hx with rfl|⟨rfl,rfl⟩
 ·obtain⟨u,w,rfl,ru,rw'⟩:=KJ r
  obtain⟨t,rfl⟩:=ru
  obtain⟨t',rfl⟩:=rw'
  exact call_range_2 (lay _ _ _ _)
 ·obtain⟨u,rfl,ru⟩:=VZ r
  obtain⟨t,rfl⟩:=ru
  exact call_range_1 (lay _ _ _ _)
noncomputable def DU:List V->Hp->VK->Prop:=λxs H Q=>∃(p:Addr) (i j:Int),xs=[.ref p]/\H p=some (.rng i j)/\DL i j/\(j - i).toNat<=2 ^ 24/\∀l,H l=none->Q (.ref l) (HQ H l (.lst ((V0 (j - i).toNat).map λ(n:Nat)=>V.int (i+n))))
theorem TH{X:Cx}(hc:X.calm=true):hX X (.type "list") DU:=by
 intro pins s σ H xs us Q I r h
 obtain⟨p,i,j,rfl,hp,⟨b1,b2,b3,b4⟩,hz,q⟩:=h
 obtain⟨u,rfl,ru⟩:=VZ r
 cases ru
 obtain⟨t,u,v,e⟩:=I.hok p _ hp
 have hn:x8 i j 1=((j - i).toNat:Int):=by rw[rangeSize_one];split<;>omega
 refine call_list_range (I.ok.hd hc) e (small_one b1 b2 b3 b4) hn hz λh' tk acc' c' hk hS hacc=>?_
 refine ⟨.ref s.heap.objs.size,_,I.laid (t':=tk) (o:=.lst ((V0 (j - i).toNat).map λ(n:Nat)=>V.int (i+n))) hk (G0 _) ?_,rfl,q _ (I.hok.fresh (G0 _))⟩
 refine ⟨by rw[i0,B4];exact hz,acc'.toList,c',?_,by simpa using hS⟩
 have gen:∀(n:Nat) (ys:List Value),ys.length=n->(∀(k:Nat) (y:Value),ys[k]?=some y->∃t,y=.int (i+k * 1) t)->Vals ((V0 n).map λ(n:Nat)=>V.int (i+n)) ys:=by
  intro n
  induction n with
  | zero=>intro ys hl _;cases ys with|nil=>exact .nil|cons=>simp at hl
  | succ n ih =>
   intro ys hl hy
   rcases R8 ys with rfl|⟨zs,z,rfl⟩
   ·simp at hl
   ·rw[List.concat_eq_append]at hl hy ⊢
    have hl':zs.length=n:=by simpa using hl
    rw[i5,T2]
    refine Vals.append (ih zs hl' λk y e=>hy k y (by rw[X1 (oX e)];exact e)) ?_
    obtain⟨t,rfl⟩:=hy n z (by rw[<- hl'];simp)
    exact .cons ⟨t,by simp⟩ .nil
 refine gen _ _ (by rw[U0];exact hacc.1) λk y e=>?_
 exact hacc.2 k y (by simpa using e)
noncomputable def EL:D->D->(Sl->Prop)->Prop
 | .int i,.int j,Q=>DL i j/\(j - i).toNat<=2 ^ 24/\Q (.ow (.list (AQ i (j - i).toNat)))
 | _,_,_=>False
theorem FL{K:Fg}:VQ K (λvs H Q=>iE vs H λv H1=>DU [v] H1 Q) (o2 EL):=by
 intro G F σ H ρ vs ds Q Qd R a w k
 match ds,a,w with
 | [d,e],a,w =>
  obtain⟨v,u,rfl,h1,h2⟩:=a.two
  have w:EL d e Qd:=w
  unfold EL at w
  split at w
  rotate_left
  ·exact w.elim
  rename_i i j w
  cases h1.int
  cases h2.int
  refine ⟨i,j,.inl rfl,λp hp=>⟨p,i,j,rfl,iQ,w.1,w.2.1,λl hl=>?_⟩⟩
  have R1:Rel K G F σ (HQ H p (.rng i j)) ρ:=R.laid hp
  have da:DaAll K F ((V0 (j - i).toNat).map λ(n:Nat)=>V.int (i+n)) (AQ i (j - i).toNat):=by
   have:=DaAll.ints (K:=K) (F:=F) ((V0 (j - i).toNat).map λ(n:Nat)=>i+(n:Int))
   simpa [AQ,P0,Function.comp_def]using this
  obtain⟨R',r'⟩:=R1.newOw (o:=.lst _) (d:=.list (AQ i (j - i).toNat)) hl da
  exact k _ _ F _ (Sub.refl _) R' r' w.2.2
section
variable {X:Cx}{K:Fg}{e:Expr}{a b:AD}
theorem GL(h:PE X e (sI DU (uY (sI iE (tQ ([a,b].map (pQ K)))) bW))):PE X e (lift K (SZ [a,b] (o2 EL))):=aV h λq=>xH FL q
end
noncomputable def AW(ρ:Ev):List (GQ×Sum Nat D)->(List (D×D)->Prop)->Prop
 | [],k=>k []
 | (c,.inr d) :: r,k=>AW ρ r λes=>k ((YK c,d) :: es)
 | (c,.inl i) :: r,k=>match ρ[i]? with
  | some (some (.fz d))=>AW ρ r λes=>k ((YK c,d) :: es)
  | _=>False
noncomputable def Xu(its:List (GQ×Sum Nat D)):TD:=λρ Q=>AW ρ its λes=>Q (.ow (.dict es)) ρ
noncomputable def SN:Sum Nat D->TE
 | .inl i=>qZ i
 | .inr (.int n)=>tC (.int n)
 | .inr _=>λ_ _ _=>False
theorem EU{K:Fg}{G:Gh}{F H H1:Hp}{σ:L2.St}{ρ:Ev}(R:Rel K G F σ H ρ):∀{its:List (GQ×Sum Nat D)}{kk:List (D×D)->Prop}{Qp:List (V×V)->Hp->Prop},(∀p∈its,∀d,p.2=.inr d->∃n,d=.int n)->AW ρ its kk ->
  (∀kvs es,DaKV K F kvs es->kvs.map (·.1)=its.map (·.1)->kk es->Qp (kvs.map λkv=>(kV kv.1,kv.2)) H1)->qU (its.map λp=>(tC (kV p.1),SN p.2)) σ H1 Qp
 | [],kk,Qp,_,w,k=>k [] [] .nil rfl w
 | (c,.inr d) :: r,kk,Qp,hc,w,k=>by
  obtain⟨n,rfl⟩:=hc (c,.inr d) A0 d rfl
  refine EU R (its:=r) (λp hp=>hc p (u0 _ hp)) w λkvs es da e q=>?_
  exact k ((c,.int n) :: kvs) _ (.cons (.int n) da) (by simp[e]) q
 | (c,.inl i) :: r,kk,Qp,hc,w,k=>by
  unfold AW at w
  split at w
  ·rename_i d ed
   obtain⟨v,ev,dv⟩:=R.fz i d ed
   refine ⟨v,ev,EU R (its:=r) (λp hp=>hc p (u0 _ hp)) w λkvs es da e q=>?_⟩
   exact k ((c,v) :: kvs) _ (.cons dv da) (by simp[e]) q
  ·exact w.elim
theorem yK:∀(kvs acc:List (GQ×V)),((acc++kvs).map (·.1)).Nodup->OZ acc kvs=acc++kvs
 | [],acc,_=>by simp[OZ]
 | (c,v) :: r,acc,h=>by
  have hn:wX acc c=none:=by
   unfold wX
   rw[List.find?_eq_none.mpr ?_];rfl
   intro x hx
   simp only[decide_eq_true_eq]
   intro z
   simp only[T2,Z0,List.nodup_append]at h
   exact h.2.2 x.1 (N7 hx) c A0 z
  have e:aZ acc c v=acc++[(c,v)]:=nH v hn
  show OZ (aZ acc c v) r=_
  rw[e,yK r (acc++[(c,v)]) (by simpa using h)]
  simp
theorem Jy{X:Cx}{K:Fg}{e:Expr}(its:List (GQ×Sum Nat D))(hn:(its.map (·.1)).Nodup)(hl:its.length<=15)(hc:∀p∈its,∀d,p.2=.inr d->∃n,d=.int n)(h:PE X e (lD (its.map λp=>(tC (kV p.1),SN p.2)))):PE X e (lift K (Xu its)):=aV h λ{σ H Q} q=>by
 obtain⟨G,F,ρ,Qd,R,w,k⟩:=q
 intro p hp
 refine EU R hc w λkvs es da ek q=>⟨iQ,kvs,rfl,?_,?_⟩
 ·have:=congrArg U4 ek;simp at this;omega
 ·rw[yK kvs [] (by simpa [ek]using hn),Ww]
  obtain⟨R',r'⟩:=R.newOw (o:=.dK ([]++kvs)) (d:=.dict es) hp (by rw[K8];exact da)
  exact k _ _ F _ ρ (Sub.refl _) R' r' q
noncomputable def clean1(ρ:Ev)(i:Nat):Ev:=match ρ[i]? with
 | some (some (.io _))=>ρ
 | some _=>ρ.set i none
 | none=>ρ
noncomputable def clean(ks:List Nat)(ρ:Ev):Ev:=match ks with
 | []=>ρ
 | i :: r=>clean r (clean1 ρ i)
section
variable {K:Fg}{G:Gh}{F H:Hp}{σ:L2.St}{ρ:Ev}
theorem Rel.drop(R:Rel K G F σ H ρ){i:Nat}(hn:∀d,ρ[i]?≠some (some (Sl.io d))):Rel K G F σ H (ρ.set i none):=by
 refine ⟨by rw[i4];exact R.len,R.sub,R.sub0,R.fn,R.keep,λj d e=>?_,λj t e wt=>?_,λj d b e eb=>?_,λj b e=>?_,λj d e=>?_,λj k t u b e1 w1 e2 w2 e3 e4=>?_⟩
 ·rcases oQ e with⟨rfl,z⟩|⟨n,z⟩
  ·cases z
  ·exact R.fz j d z
 ·rcases oQ e with⟨rfl,z⟩|⟨n,z⟩
  ·cases z
  ·exact R.ow j t z wt
 ·rcases oQ e with⟨rfl,z⟩|⟨n,z⟩
  ·cases z
  ·exact R.new j d b z eb
 ·obtain⟨d',e1,e2⟩:=R.io j b e
  have n:i≠j:=λz=>by subst z;exact hn _ e1
  exact ⟨d',by rw[O0 n];exact e1,e2⟩
 ·rcases oQ e with⟨rfl,z⟩|⟨n,z⟩
  ·cases z
  ·exact R.ioi j d z
 ·rcases oQ e1 with⟨rfl,z⟩|⟨n,z⟩
  ·cases z
  ·rcases oQ e2 with⟨rfl,z'⟩|⟨n',z'⟩
   ·cases z'
   ·exact R.ap j k t u b z w1 z' w2 e3 e4
theorem Rel.clean1(R:Rel K G F σ H ρ)(i:Nat):Rel K G F σ H (clean1 ρ i):=by
 unfold L3.clean1
 split
 ·exact R
 ·rename_i e1 e2
  exact R.drop λd z=>by rw[e2]at z;cases z;exact e1 _ rfl
 ·exact R
theorem Rel.clean(ks:List Nat):∀{ρ:Ev},Rel K G F σ H ρ->Rel K G F σ H (clean ks ρ):=by
 induction ks with
 | nil=>intro ρ R;exact R
 | cons i r ih=>intro ρ R;exact ih (R.clean1 i)
end
noncomputable def tJ(ks:List Nat)(g:WZ)(tb:qK)(E:DE):List D->Ev->Prop
 | [],ρ=>E.nx ρ
 | d :: ds,ρ=>g d ρ λρ'=>tb { nx:=λρ2=>tJ ks g tb E ds (clean ks ρ2),rt:=E.rt,bk:=λρ2=>E.nx (clean ks ρ2),ct:=λρ2=>tJ ks g tb E ds (clean ks ρ2) } ρ'
noncomputable def FD(ks:List Nat)(ti:AH)(g:WZ)(tb:qK):qK:=λE ρ=>ti ρ λds ρ'=>tJ ks g tb E ds (clean ks ρ')
theorem jE{K:Fg}{ks:List Nat}{ti:AH}{g:WZ}{tb:qK}{E:Ends}{σ:L2.St}{H:Hp}(h:sQ K (FD ks ti g tb) E σ H):Oq (UQ K ti) (RQ K g) (sQ K tb) E σ H:=by
 obtain⟨G,F,ρ,D,R,w,n,r,b,c⟩:=h
 refine ⟨G,F,ρ,_,R,w,λJ H1 F1 ds ρ1 s1 R1 wk w1=>?_⟩
 refine ⟨λi m σ H=>m=ds.length - i/\i<=ds.length/\∃F' ρ',Sub F1 F'/\Rel K G F' σ H ρ'/\tJ ks g tb D (ds.drop i) ρ',⟨ds.length,rfl,u4 _,F1,_,Sub.refl _,R1.clean ks,w1⟩,?_⟩
 rintro i m σ H ⟨rfl,hi,F',ρ',s',R',w'⟩
 obtain⟨hgo,hst⟩:=wk i H F' s' R'.sub
 cases e:ds[i]? with
 | none =>
  have hl:ds.length<=i:=M4.mp e
  refine .inl ⟨hst (by omega),?_⟩
  rw[Z6 hl]at w'
  exact n σ H F' ρ' (s1.trans s') R' w'
 | some d =>
  obtain⟨go,yl⟩:=hgo d e
  have hl:=oX e
  rw[BH e]at w'
  refine .inr ⟨go,λσ2 H2=>∃F2 ρ2,Sub F1 F2/\Rel K G F2 σ2 H2 ρ2/\tJ ks g tb D (ds.drop (i+1)) ρ2,λσ2 H2 ⟨F2,ρ2,z1,z2,z3⟩=>⟨ds.length - (i+1),by omega,rfl,hl,F2,ρ2,z1,z2,z3⟩,λx H2 y=>?_⟩
  obtain⟨F2,t1,t2,t3,t4,t5⟩:=yl x H2 y
  have R2:=R'.turn t1 t2 t3 t4
  refine ⟨G,F2,ρ',d,_,R2,t5,w',λσ3 ρ3 R3 w3=>?_⟩
  refine ⟨G,F2,ρ3,_,R3,w3,λσ4 H4 F4 ρ4 s4 R4 q=>?_,λv σ4 H4 F4 x4 ρ4 s4 R4 r4 q=>?_,λσ4 H4 F4 ρ4 s4 R4 q=>?_,λσ4 H4 F4 ρ4 s4 R4 q=>?_⟩
  ·exact ⟨F4,_,s'.trans (t1.trans s4),R4.clean ks,q⟩
  ·exact r v σ4 H4 F4 x4 ρ4 (s1.trans (s'.trans (t1.trans s4))) R4 r4 q
  ·exact n σ4 H4 F4 _ (s1.trans (s'.trans (t1.trans s4))) (R4.clean ks) q
  ·exact ⟨F4,_,s'.trans (t1.trans s4),R4.clean ks,q⟩
theorem Ky{X:Cx}{K:Fg}{st:Stmt}{t:qK}(ks:List Nat){ti:AH}{g:WZ}(h:PS X st (Oq (UQ K ti) (RQ K g) (sQ K t))):PS X st (sQ K (FD ks ti g t)):=Fx h jE
theorem PX{ks:List Nat}{g:WZ}{tb:qK}{E:DE}(J:List D->Ev->Prop)
  (hs:∀d ds ρ,J (d :: ds) ρ->∀N:Ev->Prop,(∀ρ2,J ds ρ2->N ρ2)->g d ρ λρ'=>tb { nx:=λρ2=>N (clean ks ρ2),rt:=E.rt,bk:=λρ2=>E.nx (clean ks ρ2),ct:=λρ2=>N (clean ks ρ2) } ρ')
  (hd:∀ρ,J [] ρ->E.nx ρ):∀{ds:List D}{ρ:Ev},J ds ρ->tJ ks g tb E ds ρ
 | [],ρ,h=>hd ρ h
 | d :: ds,ρ,h=>hs d ds ρ h _ λρ2 h2=>PX J hs hd h2
noncomputable def iZ(n:Nat)(g:WZ)(tc:pV)(te:TD):List D->List D->Ev->(List D->Ev->Prop)->Prop
 | [],acc,τ,Q=>Q acc τ
 | d :: ds,acc,τ,Q=>g d τ λτ1=>tc τ1 λb τ2=>if b=true then te τ2 λr τ3=>iZ n g tc te ds (acc++[r.d]) (clean (V0 n) τ3) Q else iZ n g tc te ds acc (clean (V0 n) τ2) Q
noncomputable def WJ(ti:AH)(own:List Str)(fr:List Nat)(g:WZ)(tc:pV)(te:TD):TD:=λρ Q=>ti ρ λds ρ1=>ds.length<=sizeLine/\iZ own.length g tc te ds [] (tW own fr ρ1) λys τ=>Q (.ow (.list ys)) (aY fr (τ.drop own.length) 0 ρ1)
theorem GD{K:Fg}{ti:AH}{own:List Str}{fr:List Nat}{g:WZ}{tc:pV}{te:TD}(nd:fr.Nodup){σ:L2.St}{H:Hp}{Q:VK}(h:lift K (WJ ti own fr g tc te) σ H Q):qW (UQ K ti) own fr (RQ K g) (MQ K tc) (lift K te) σ H Q:=by
 obtain⟨G,F,ρ,Qd,R,w,k⟩:=h
 refine ⟨G,F,ρ,_,R,w,λJ H1 F1 ds ρ1 s1 R1 wk ⟨hz,w1⟩=>?_⟩
 have Ri:=R1.inner (own:=own) nd
 refine ⟨λi m ys τ H=>m=ds.length - i/\i<=ds.length/\∃F' ρ' acc,Rel K (Tw own fr F1 H1 σ ρ1) F' τ H ρ'/\DaAll K F' ys acc/\acc.length<=i/\iZ own.length g tc te (ds.drop i) acc ρ' (λys τ=>Qd (.ow (.list ys)) (aY fr (τ.drop own.length) 0 ρ1)),
   ⟨ds.length,rfl,u4 _,F1,_,[],Ri,.nil,u4 _,w1⟩,?_⟩
 rintro i m ys τ H' ⟨rfl,hi,F',ρ',acc,R',da,hl,w'⟩
 obtain⟨hgo,hst⟩:=wk i H' F' R'.sub0 R'.sub
 cases e:ds[i]? with
 | none =>
  have hl':ds.length<=i:=M4.mp e
  refine .inl ⟨hst (by omega),λDd hD=>?_⟩
  rw[Z6 hl']at w'
  have Ro:=R1.outer R' nd
  obtain⟨Rn,rn⟩:=Ro.newOw (o:=.lst ys) (d:=.list acc) hD da
  exact k _ _ F' _ _ (s1.trans R'.sub0) Rn rn w'
 | some d =>
  obtain⟨go,yl⟩:=hgo d e
  have hlt:=oX e
  rw[BH e]at w'
  refine .inr ⟨go,by rw[da.length];omega,λys2 τ2 H2=>∃F2 ρ2 acc2,Rel K (Tw own fr F1 H1 σ ρ1) F2 τ2 H2 ρ2/\DaAll K F2 ys2 acc2/\acc2.length<=i+1/\iZ own.length g tc te (ds.drop (i+1)) acc2 ρ2 (λys τ=>Qd (.ow (.list ys)) (aY fr (τ.drop own.length) 0 ρ1)),
    λys2 τ2 H2 ⟨F2,ρ2,acc2,z1,z2,z3,z4⟩=>⟨ds.length - (i+1),by omega,rfl,hlt,F2,ρ2,acc2,z1,z2,z3,z4⟩,λx H2 y=>?_⟩
  obtain⟨F2,t1,t2,t3,t4,t5⟩:=yl x H2 y
  have R2:=R'.turn t1 t2 t3 t4
  refine ⟨_,F2,ρ',d,_,R2,t5,w',λτ3 ρ3 R3 w3=>?_⟩
  refine ⟨_,F2,ρ3,_,R3,w3,λb H4 F4 ρ4 s4 R4 w4=>?_⟩
  cases b with
  | false=>exact ⟨F4,_,acc,R4.clean _,da.mono (t1.trans s4),by omega,w4⟩
  | true =>
   refine ⟨_,F4,ρ4,_,R4,w4,λv H5 F5 r ρ5 s5 R5 r5 w5=>?_⟩
   obtain⟨F6,s6,R6,d6⟩:=r5.frz R5
   exact ⟨F6,_,acc++[r.d],R6.clean _,(da.mono (t1.trans (s4.trans (s5.trans s6)))).append (.cons d6 .nil),by simp;omega,w5⟩
section
variable {X:Cx}{K:Fg}{e:Expr}{st:Stmt}{ti:AH}{own:List Str}{fr:List Nat}{g:WZ}{tc:pV}{te:TD}
theorem Mx(nd:fr.Nodup)(h:PE X e (qW (UQ K ti) own fr (RQ K g) (MQ K tc) (lift K te))):PE X e (lift K (WJ ti own fr g tc te)):=aV h (GD nd)
theorem Nx{i:Nat}(nd:fr.Nodup)(h:PS X st (dJ (qW (UQ K ti) own fr (RQ K g) (MQ K tc) (lift K te)) (JX i))):PS X st (sQ K (xU i (WJ ti own fr g tc te))):=Fx h λq=>GD nd (Vu q)
end
theorem Ox{n:Nat}{g:WZ}{tc:pV}{te:TD}{Q:List D->Ev->Prop}(J:List D->List D->Ev->Prop)
  (hs:∀d ds acc τ,J (d :: ds) acc τ->∀N:List D->Ev->Prop,(∀acc2 τ2,J ds acc2 τ2->N acc2 τ2)->g d τ λτ1=>tc τ1 λb τ2=>if b=true then te τ2 λr τ3=>N (acc++[r.d]) (clean (V0 n) τ3) else N acc (clean (V0 n) τ2))
  (hd:∀acc τ,J [] acc τ->Q acc τ):∀{ds acc:List D}{τ:Ev},J ds acc τ->iZ n g tc te ds acc τ Q
 | [],acc,τ,h=>hd acc τ h
 | d :: ds,acc,τ,h=>hs d ds acc τ h _ λacc2 τ2 h2=>Ox J hs hd h2
theorem HD{n:Nat}{g:WZ}{te:TD}{Q:List D->Ev->Prop}(J:List D->List D->Ev->Prop)
  (hs:∀d ds acc τ,J (d :: ds) acc τ->∀N:List D->Ev->Prop,(∀acc2 τ2,J ds acc2 τ2->N acc2 τ2)->g d τ λτ1=>te τ1 λr τ3=>N (acc++[r.d]) (clean (V0 n) τ3))
  (hd:∀acc τ,J [] acc τ->Q acc τ) {ds acc:List D}{τ:Ev} (h:J ds acc τ):iZ n g yH te ds acc τ Q :=
 Ox J (λd ds acc τ h N hN=>by
   have q:=hs d ds acc τ h N hN
   have e:(λτ1=>te τ1 λr τ3=>N (acc++[r.d]) (clean (V0 n) τ3))=λτ1=>yH τ1 λb τ2=>if b=true then te τ2 (λr τ3=>N (acc++[r.d]) (clean (V0 n) τ3)) else N acc (clean (V0 n) τ2):=by
     funext τ1
     show _=(if true=true then te τ1 (λr τ3=>N (acc++[r.d]) (clean (V0 n) τ3)) else N acc (clean (V0 n) τ1))
     rw[if_pos rfl]
   rw[<- e]
   exact q) hd h
theorem bJ{n:Nat}{g:WZ}{te:TD}{Q:List D->Ev->Prop}(f:D->D){τ:Ev}{ds:List D}
  (hs:∀d∈ds,∀N:D->Ev->Prop,N (f d) τ->g d τ λτ1=>te τ1 λr τ3=>N r.d (clean (V0 n) τ3))
  (hd:Q (ds.map f) τ):iZ n g yH te ds [] τ Q:=by
 refine HD (λrest acc τ'=>τ'=τ/\∃pre,ds=pre++rest/\acc=pre.map f) ?_ ?_ ⟨rfl,[],rfl,rfl⟩
 ·rintro d ds' acc τ' ⟨rfl,pre,e,rfl⟩ N hN
  exact hs d (by rw[e];simp) (λx τ3=>N (pre.map f++[x]) τ3) (hN _ _ ⟨rfl,pre++[d],by rw[e];simp,by simp⟩)
 ·rintro acc τ' ⟨rfl,pre,e,rfl⟩
  rw[P2]at e
  subst e
  exact hd
theorem HL{n:Nat}{g:WZ}{tc:pV}{te:TD}{Q:List D->Ev->Prop}(p:D->Bool)(f:D->D){τ:Ev}{ds:List D}
  (hs:∀d∈ds,∀(N:D->Ev->Prop) (M:Ev->Prop),(p d=true->N (f d) τ)->(p d=false->M τ)->g d τ λτ1=>tc τ1 λb τ2=>if b=true then te τ2 λr τ3=>N r.d (clean (V0 n) τ3) else M (clean (V0 n) τ2))
  (hd:Q ((ds.filter p).map f) τ):iZ n g tc te ds [] τ Q:=by
 refine Ox (λrest acc τ'=>τ'=τ/\∃pre,ds=pre++rest/\acc=(pre.filter p).map f) ?_ ?_ ⟨rfl,[],rfl,rfl⟩
 ·rintro d ds' acc τ' ⟨rfl,pre,e,rfl⟩ N hN
  exact hs d (by rw[e];simp) (λx τ3=>N ((pre.filter p).map f++[x]) τ3) (λτ3=>N ((pre.filter p).map f) τ3) (λhp=>hN _ _ ⟨rfl,pre++[d],by rw[e];simp,by simp[hp]⟩)
   (λhp=>hN _ _ ⟨rfl,pre++[d],by rw[e];simp,by simp[hp]⟩)
 ·rintro acc τ' ⟨rfl,pre,e,rfl⟩
  rw[P2]at e
  subst e
  exact hd
structure WE(X:Cx)(e:Expr)(t:TE):Prop where
 h:PE X e t
structure WA(X:Cx)(es:List Expr)(t:TA):Prop where
 h:PA X es t
structure WT(X:Cx)(e:Expr)(t:TT):Prop where
 h:PT X e t
structure WW(X:Cx)(e:Expr)(t:TT):Prop where
 h:PW X e t
structure WS(X:Cx)(s:Stmt)(t:TS):Prop where
 h:PS X s t
structure WSs(X:Cx)(s:List Stmt)(t:TS):Prop where
 h:PSs X s t
structure WG(X:Cx)(e:Expr)(t:TG):Prop where
 h:PG X e t
structure WGs(X:Cx)(es:List Expr)(t:cj):Prop where
 h:cv X es t
structure WI(X:Cx)(g e:Expr)(t:TI):Prop where
 h:PI X g e t
structure WIf(X:Cx)(es:List Expr)(t:TT):Prop where
 h:Mj X es t
section
variable {X:Cx}{K:Fg}{e e1 e2 e3:Expr}{es:List Expr}{a b c:AD}{as:List AD}{td te tf:TD}{tc tc':pV}{st:Stmt}{sts:List Stmt}{t u:qK}{p pos pos' p2 apos cpos tpos:Pos}{x:Str}{tg:Expr}
theorem wn(i:Nat)(hN:X.N[i]?=some x:=by rfl)(hv:qI X.env.scope x:=by first|exact Or.inl rfl|exact Or.inr (Or.inl rfl)|exact Or.inr (Or.inr rfl))(hd:(x==("__debug__":Str))=false:=by decide)
  (hcd:(x==("__classdict__":Str))=false:=by decide):WE X (.Name x pos) (pQ K (.inl i)):=⟨HG hN hv hd hcd⟩
theorem wv(i:Nat)(hN:X.N[i]?=some x:=by rfl)(hv:qI X.env.scope x:=by first|exact Or.inl rfl|exact Or.inr (Or.inl rfl)|exact Or.inr (Or.inr rfl))(hd:(x==("__debug__":Str))=false:=by decide)
  (hcd:(x==("__classdict__":Str))=false:=by decide):WE X (.Name x pos) (lift K (wH i)):=⟨OC (HG hN hv hd hcd)⟩
theorem wx(h:WE X e (lift K td)):WE X e (pQ K (.inr td)):=⟨h.h⟩
theorem bQ:WA X [] (tQ (([]:List AD).map (pQ K))):=⟨fJ⟩
theorem aQ(ha:WE X e (pQ K a))(hr:WA X es (tQ (as.map (pQ K))))(hs:wQ e=true:=by rfl):WA X (e :: es) (tQ ((a :: as).map (pQ K))):=⟨oy ha.h hr.h (mQ hs)⟩
theorem gQ{i:Int}{k:Nat}:WE X (.Constant (.int i) k pos) (lift K (dC (.int i))):=⟨PC (λ_=>.int _) SJ⟩
theorem cJ{b:Bool}{k:Nat}:WE X (.Constant (.bool b) k pos) (lift K (dC (.bool b))):=⟨PC (λ_=>.bl _) BI⟩
theorem xY{z:Str}{k:Nat}:WE X (.Constant (.str z) k pos) (lift K (dC (.str z))):=⟨PC (λ_=>.str _) iU⟩
theorem w_bin{op:Operator}{r:R2}{f:D->D->(Sl->Prop)->Prop}(ok:VQ K (DY r) (o2 f))(ho:OpR X (binaryOp op) r)(ha:WE X e1 (pQ K a))(hb:WE X e2 (pQ K b)):WE X (.BinOp e1 op e2 pos) (lift K (SZ [a,b] (o2 f))):=⟨vL ok (rj ho ha.h hb.h)⟩
theorem BW(ha:WE X e1 (pQ K a)):WE X (.UnaryOp .USub e1 pos) (lift K (SZ [a] (o1 pL))):=⟨xP EC (GI HB ha.h)⟩
theorem Px{op:CmpOp}{r:R2}{f:D->D->(Sl->Prop)->Prop}(ok:VQ K (DY r) (o2 f))(ho:OpR X (compareOp op) r)(ha:WE X e1 (pQ K a))(hb:WE X e2 (pQ K b))(hm:op≠.In:=by decide)(hm2:op≠.NotIn:=by decide):WE X (.Compare e1 [op] [e2] pos) (lift K (SZ [a,b] (o2 f))):=⟨vL ok (cD ho ha.h hb.h (vj _ hm hm2))⟩
theorem ID{op op':CmpOp}{p q:Int->Int->Bool}(ho:OpR X (compareOp op) (tY λi j=>.bl (p i j)))(ho':OpR X (compareOp op') (tY λi j=>.bl (q i j)))(ha:WE X e1 (pQ K a))(hb:WE X e2 (pQ K b))(hc:WE X e3 (pQ K c))
  (hm:lastMarks [op,op'] [e2,e3]=false:=by with_unfolding_all rfl):WE X (.Compare e1 [op,op'] [e2,e3] pos) (lift K (lF p q a b c)):=⟨Gx (xj ho ho' ha.h hb.h hc.h hm)⟩
theorem Qx{op:BoolOp}{tr:TE}(h:WE X e tr):WE X (.BoolOp op [e] pos) tr:=⟨xB h.h⟩
theorem JD{rest:List Expr}(ha:WE X e1 (lift K td))(hb:WE X (.BoolOp .And (e2 :: rest) pos) (lift K te)):WE X (.BoolOp .And (e1 :: e2 :: rest) pos) (lift K (cx td te)):=⟨TC (yB ha.h hb.h)⟩
theorem w_not(ha:WE X e1 (lift K td)):WE X (.UnaryOp .Not e1 pos) (lift K (fx td)):=⟨UC (zB ha.h)⟩
theorem QQ{k:Nat}{ps:List Str}{con:Con}(C:Cal X.prog X.w X.K X.mg X.base k x ps (eQ K con))(hr:Room k X.A)(ha:WA X (e :: es) (tQ (as.map (pQ K))))(hg:Gl X x:=by rfl)(hdb:(x==("__debug__":Str))=false:=by decide)
  (he:wQ e=true:=by rfl) (hpl:es.all wQ=true:=by rfl):WE X (.Call (.Name x p) (e :: es) [] pos) (lift K (EH con as)):=⟨wL (sD C hr ha.h hg hdb (mQ he) (cX hpl))⟩
theorem iX{k i:Nat}{ps:List Str}{con:Con}(C:Cal X.prog X.w X.K X.mg X.base k x ps (eQ K con))(hr:Room k X.A)(ha:WA X (e :: es) (tQ ((Sum.inl i :: as).map (pQ K))))(hg:Gl X x:=by rfl)(hdb:(x==("__debug__":Str))=false:=by decide)
  (he:wQ e=true:=by rfl) (hpl:es.all wQ=true:=by rfl):WE X (.Call (.Name x p) (e :: es) [] pos) (lift K (yU con i as)):=⟨VC (sD C hr ha.h hg hdb (mQ he) (cX hpl))⟩
theorem xQ{id:String}{r:List V->Hp->VK->Prop}{f:List D->(Sl->Prop)->Prop}(ok:VQ K r f)(hc:hX X (.builtin id) r)(hm:X.mg x=none)(hv:bootBuiltins x=some (.builtin id))(ha:WA X (e :: es) (tQ (as.map (pQ K))))(hg:Gl X x:=by rfl)(hn:x ≠ "__name__":=by decide)(hdb:(x==("__debug__":Str))=false:=by decide)
  (he:wQ e=true:=by rfl) (hpl:es.all wQ=true:=by rfl):WE X (.Call (.Name x p) (e :: es) [] pos) (lift K (SZ as f)):=⟨YO ok (kH hc hg hm hv ha.h hn hdb (mQ he) (cX hpl))⟩
theorem ZX{T:String}{r:List V->Hp->VK->Prop}{f:List D->(Sl->Prop)->Prop}(ok:VQ K r f)(hc:hX X (.type T) r)(hm:X.mg x=none)(hv:bootBuiltins x=some (.type T))(ha:WA X (e :: es) (tQ (as.map (pQ K))))(hg:Gl X x:=by rfl)(hn:x ≠ "__name__":=by decide)(hdb:(x==("__debug__":Str))=false:=by decide)
  (he:wQ e=true:=by rfl) (hpl:es.all wQ=true:=by rfl):WE X (.Call (.Name x p) (e :: es) [] pos) (lift K (SZ as f)):=⟨YO ok (SK hc hg hm hv ha.h hn hdb (mQ he) (cX hpl))⟩
theorem TV(T:Ki)(hK:X.K=K)(hm:X.mg "isinstance"=none){y:Str}(hm2:X.mg y=none)(hv2:bootBuiltins y=some (.type T.nm))(ha:WE X e1 (pQ K a))(hg:Gl X "isinstance":=by rfl)(hg2:Gl X y:=by rfl)(hy:y ≠ "__name__":=by decide)(hy2:(y==("__debug__":Str))=false:=by decide)(he:wQ e1=true:=by rfl) :
  WE X (.Call (.Name "isinstance" p) [e1,.Name y p2] [] pos) (lift K (SZ [a] (o1 (BC T)))):=⟨QC T (kH (mz hK) hg hm boot_isinstance (CJ ha.h (CJ (av hg2 hm2 hv2 (v:=.ty T.nm) rfl hy hy2) fJ (mQ rfl)) (mQ he)) (by decide) (by decide) (mQ he) (cX rfl))⟩
theorem TN(hc:X.calm=true)(hm:X.mg "list"=none)(hm2:X.mg "range"=none)(ha:WA X [e1,e2] (tQ ([a,b].map (pQ K))))(hg:Gl X "list":=by rfl)(hg2:Gl X "range":=by rfl)(he:wQ e1=true:=by rfl)(he2:wQ e2=true:=by rfl) :
  WE X (.Call (.Name "list" p) [.Call (.Name "range" p2) [e1,e2] [] pos'] [] pos) (lift K (SZ [a,b] (o2 EL))) :=
 ⟨GL (SK (TH hc) hg hm boot_list (CJ (SK Lx hg2 hm2 boot_range ha.h (by decide) (by decide) (mQ he) (cX (by simp[he2]))) fJ (mQ rfl)) (by decide) (by decide) (mQ rfl) (cX rfl))⟩
theorem BX(hK:X.K=K)(ha:WE X e1 (pQ K a))(hb:WE X e2 (pQ K b))(hs:gD e2:=by exact λ_ _=>rfl):WE X (.Subscript e1 e2 pos) (lift K (SZ [a,b] (o2 XO))):=⟨vL mL (OI (Fy hK) ha.h hb.h hs)⟩
theorem CW(hu:X.A.units+1 < cLine)(ha:WE X e1 (pQ K a))(hb:WE X e2 (pQ K b))(hs:UB e2:=by exact λ_ _=>rfl):WE X (.Subscript e1 e2 pos) (lift K (SZ [a,b] (o2 QV))):=⟨vL ny (Gv hu ha.h hb.h hs)⟩
theorem EX{k:Nat}(h:WA X es (tQ (as.map (pQ K))))(hl:as.length<=1000:=by decide):WE X (.Tuple es k pos) (lift K (zU as KH)):=⟨RC hl (JB h.h)⟩
theorem zX(h:WA X es (tQ (as.map (pQ K))))(hl:as.length<=1000:=by decide):WE X (.List es pos) (lift K (zU as BD)):=⟨SC hl (cW h.h)⟩
theorem kE(its:List (GQ×Sum Nat D))(hn:(its.map (·.1)).Nodup)(hl:its.length<=15)(hc:∀p∈its,∀d,p.2=.inr d->∃n,d=.int n)(h:PE X e (lD (its.map λp=>(tC (kV p.1),SN p.2)))):WE X e (lift K (Xu its)):=⟨Jy its hn hl hc h⟩
theorem fX{elt iter:Expr}{ifs:List Expr}{sc:Scope}{own:List Str}{fr:List Nat}{ti:AH}{g:WZ}(hc:X.calm=true)(S:uU X.env.scope X.N fr sc=true)(hi:WI X tg iter (UQ K ti))(hg:∀C s H ex,WG (BQ X own fr sc C s H ex) tg (RQ K g))
  (hif:∀C s H ex,WIf (BQ X own fr sc C s H ex) ifs (MQ K tc)) (he:∀C s H ex,WE (BQ X own fr sc C s H ex) elt (lift K te)) (nd:fr.Nodup:=by decide) (hs:CU iter=true:=by rfl):WE X (.ListComp elt [⟨tg,iter,ifs,0⟩] sc pos) (lift K (WJ ti own fr g tc te)) :=
 ⟨Mx nd (Rj hc (LV S) hi.h (λC s H ex=>(hg C s H ex).h) (λC s H ex=>(hif C s H ex).h) (λC s H ex=>(he C s H ex).h) (cY hs))⟩
theorem Ly{name:Str}{id:String}{i:Nat}{r:V->List V->Hp->VK->Prop}{f:List D->List D->(D->D->Prop)->Prop}(ok:FC K r f)(hK:X.K=K)(slot:Slot "list" name id)(hty:typeOf (.builtin id)=pure (.type "method_descriptor"))(hm:DN X id r)(ho:WE X (.Name x p) (pQ K (.inl i)))(ha:WA X (e :: es) (tQ (as.map (pQ K))))
  (hbase:attributeBase (.Name x p) name X.env (eval (.Name x p) X.env)=eval (.Name x p) X.env:=by rfl)
  (hfew:((backTo cpos (starEach (e :: es) X.env)).all (λx=>!x.1)&&(backToKw cpos (keywordEach [] X.env)).all (λx=>x.1.isSome)&&decide ((e :: es).length+([]:List Keyword).length+(if ([]:List Keyword).isEmpty then 0 else 1) < 30))=true:=by rfl)
  (hline:(apos.endLine==cpos.line)=true:=by rfl) (he:wQ e=true:=by rfl) (hpl:es.all wQ=true:=by rfl):WE X (.Call (.Attribute (.Name x p) name apos) (e :: es) [] cpos) (lift K (LH i as f)):=by
 subst hK
 exact ⟨QN ok (Ru PySem.F.plainAttrs_list slot hty hm ho.h ha.h hbase hfew hline (mQ he) (cX hpl))⟩
theorem dX{op:CmpOp}{r:R2}{f:D->D->(Sl->Prop)->Prop}(ok:VQ K (DY r) (o2 f))(ho:OpR X (compareOp op) r)(ha:WE X e1 (pQ K a))(hb:WE X e2 (pQ K b))(hm:op≠.In:=by decide)(hm2:op≠.NotIn:=by decide):WT X (.Compare e1 [op] [e2] pos) (MQ K (iF (SZ [a,b] (o2 f)))):=⟨yP ok (nv ho ha.h hb.h (vj _ hm hm2))⟩
theorem zK(h:WT X e (MQ K tc)):WT X (.UnaryOp .Not e pos) (MQ K (lC tc)):=⟨XC (wB h.h)⟩
theorem PJ(h:WT X e (MQ K tc)):WW X (.BoolOp .Or [e] pos) (MQ K tc):=⟨vB h.h⟩
theorem dY{rest:List Expr}(ha:WT X e1 (MQ K tc))(hb:WW X (.BoolOp .Or (e2 :: rest) pos) (MQ K tc')):WW X (.BoolOp .Or (e1 :: e2 :: rest) pos) (MQ K (XM tc tc')):=⟨xL (CI ha.h hb.h)⟩
theorem Uw{tt:TT}(h:WW X e tt):WT X e tt:=⟨h.h.pt⟩
theorem QJ(h:WE X e (lift K td))(he:∀whole,isTrue e X.env whole=(do let v<-whole;standAt e.pos;holding [v] (truthy v)):=by intro _;rfl):WT X e (MQ K (iF td)):=⟨WC (sB h.h he)⟩
theorem lQ{i:Nat}(hN:X.N.Nodup)(hi:X.N[i]?=some x)(hx:rB X.env.scope x)(hf:X.fn x=true\/X.env.scope.names.lookup x=some .local:=by first|exact .inl rfl|exact .inr rfl|assumption):WG X (.Name x pos) (RQ K (sC i)):=⟨yy (lU hN hi hx hf)⟩
theorem DX:WGs X [] (CY (([]:List WZ).map (RQ K))):=⟨YF⟩
theorem uQ{g:WZ}{gs:List WZ}(h1:WG X e (RQ K g))(h2:WGs X es (CY (gs.map (RQ K))))(hs:(assignEach (e :: es) X.env).map (·.2)=assign e X.env :: (assignEach es X.env).map (·.2):=by rfl):WGs X (e :: es) (CY ((g :: gs).map (RQ K))):=⟨Ix h1.h h2.h hs⟩
theorem BZ{gs:List WZ}{k:Nat}(hK:X.K=K)(hc:X.calm=true)(hh:WGs X es (CY (gs.map (RQ K))))(hn:(assignEach es X.env).length=gs.length:=by rfl)(hst:(assignEach es X.env).findIdx? (·.1)=none:=by rfl):WG X (.Tuple es k pos) (RQ K (ZM gs)):=⟨dE (uD hK hc hh.h hn hst) rfl⟩
theorem qV:WIf X [] (MQ K yH):=⟨zy⟩
theorem bP(h:WT X e (MQ K tc)):WIf X [e] (MQ K tc):=⟨aC h.h⟩
theorem nX(hK:X.K=K)(hl:WE X e (lift K td)):WI X tg e (UQ K (NH td)):=⟨eE hK hl.h⟩
theorem eY(hm:X.mg "range"=none)(ha:WA X [e1] (tQ ([a].map (pQ K))))(hg:Gl X "range":=by rfl)(he:wQ e1=true:=by rfl):WI X tg (.Call (.Name "range" p) [e1] [] pos) (UQ K (AU a)):=⟨By (Mq hg hm ha.h (by rw[mQ he];rfl))⟩
theorem lE(hm:X.mg "range"=none)(ha:WA X [e1,e2] (tQ ([a,b].map (pQ K))))(hg:Gl X "range":=by rfl)(he:wQ e1=true:=by rfl)(he2:wQ e2=true:=by rfl):WI X tg (.Call (.Name "range" p) [e1,e2] [] pos) (UQ K (oF a b)):=⟨Cy (Nq hg hm ha.h (by rw[mQ he,mQ he2];rfl) (by rw[mQ he2];rfl))⟩
theorem XJ{ts:List Expr}{kk:Nat}(hK:X.K=K)(hm:X.mg "zip"=none)(ha:WA X [e1,e2] (tQ ([a,b].map (pQ K))))(hg:Gl X "zip":=by rfl)(he:wQ e1=true:=by rfl)(hpl:[e2].all wQ=true:=by rfl):WI X (.Tuple ts kk tpos) (.Call (.Name "zip" p) [e1,e2] [] pos) (UQ K (qF a b)):=⟨Dy (Tj hK hg hm ha.h (mQ he) (cX hpl))⟩
theorem mE{ts:List Expr}{kk:Nat}(hK:X.K=K)(hm:X.mg "zip"=none)(ha:WA X [e1,e2,e3] (tQ ([a,b,c].map (pQ K))))(hg:Gl X "zip":=by rfl)(he:wQ e1=true:=by rfl)(hpl:[e2,e3].all wQ=true:=by rfl):WI X (.Tuple ts kk tpos) (.Call (.Name "zip" p) [e1,e2,e3] [] pos) (UQ K (tF a b c)):=⟨Ey (Uj hK hg hm ha.h (mQ he) (cX hpl))⟩
theorem IL(hK:X.K=K)(hm:X.mg "reversed"=none)(ha:WA X [e1] (tQ ([a].map (pQ K))))(hg:Gl X "reversed":=by rfl)(he:wQ e1=true:=by rfl):WI X tg (.Call (.Name "reversed" p) [e1] [] pos) (UQ K (Ax a)):=⟨fE (kC hK hg hm ha.h (by rw[mQ he];rfl))⟩
theorem rX:WSs X [] (sQ K vD):=⟨qy bv⟩
theorem nQ{tr:TS}(h:WS X st tr):WSs X [st] tr:=⟨jU h.h⟩
theorem dQ(h:WS X st (sQ K t))(h2:WSs X sts (sQ K u)):WSs X (st :: sts) (sQ K (sW t u)):=⟨YC (sZ h.h h2.h)⟩
theorem yQ(h:WE X e (lift K td)):WS X (.Return (some e) pos) (sQ K (gx td)):=⟨ZC (IG h.h)⟩
theorem fY{i:Nat}(h:WE X e (pQ K (.inl i))):WS X (.Return (some e) pos) (sQ K (NV i)):=⟨sy (IG h.h)⟩
theorem uJ(h:WE X e (lift K td))(hs:wK e=true:=by rfl):WS X (.Expr e pos) (sQ K (jx td)):=⟨vy (kU h.h (xK hs))⟩
theorem jZ{sa sb:List Stmt}(hc:WT X e (MQ K tc))(ha:WSs X sa (sQ K t))(hb:WSs X sb (sQ K u)):WS X (.If e sa sb pos) (sQ K (Wv tc t u)):=⟨yL (DI hc.h ha.h hb.h)⟩
theorem RX{iter:Expr}{body:List Stmt}(ks:List Nat){ti:AH}{g:WZ}(hp:PassesOwn (model X.prog X.w) X.A X.env X.xe)(hc:X.calm=true)(hi:WI X tg iter (UQ K ti))(hg:WG X tg (RQ K g))(hb:WSs X body (sQ K t))(hs:CU iter=true:=by rfl):WS X (.For tg iter body [] pos) (sQ K (FD ks ti g t)):=⟨Ky ks (qj hp hc hi.h hg.h hb.h (cY hs))⟩
theorem vQ{i:Nat}(hN:X.N.Nodup)(hi:X.N[i]?=some x)(hx:rB X.env.scope x)(he:WE X e (lift K td))(hs:wK e=true:=by rfl)(hf:X.fn x=true\/X.env.scope.names.lookup x=some .local:=by first|exact .inl rfl|exact .inr rfl|assumption):WS X (.Assign [.Name x pos'] e pos) (sQ K (xU i td)):=⟨aE (QK hN hi hx he.h (xK hs) hf)⟩
theorem xF{i j:Nat}(hN:X.N.Nodup)(hi:X.N[i]?=some x)(hx:rB X.env.scope x)(he:WE X e (pQ K (.inl j)))(hs:wK e=true:=by rfl)(hf:X.fn x=true\/X.env.scope.names.lookup x=some .local:=by first|exact .inl rfl|exact .inr rfl|assumption):WS X (.Assign [.Name x pos'] e pos) (sQ K (zH i j)):=⟨uy (QK hN hi hx he.h (xK hs) hf)⟩
theorem yF{elt iter:Expr}{ifs:List Expr}{sc:Scope}{own:List Str}{fr:List Nat}{ti:AH}{g:WZ}{i:Nat}(hN:X.N.Nodup)(hy:X.N[i]?=some x)(hl:X.env.scope.names.lookup x=some .local)(hc:X.calm=true)(S:uU X.env.scope X.N fr sc=true)(hi:WI X tg iter (UQ K ti))(hg:∀C s H ex,WG (BQ X own fr sc C s H ex) tg (RQ K g))
  (hif:∀C s H ex,WIf (BQ X own fr sc C s H ex) ifs (MQ K tc)) (he:∀C s H ex,WE (BQ X own fr sc C s H ex) elt (lift K te)) (nd:fr.Nodup:=by decide) (hs:CU iter=true:=by rfl) (hsw:swapsWith (.ListComp elt [⟨tg,iter,ifs,0⟩] sc p) (some (.Name x pos')) pos.line X.env=pure true:=by rfl) :
  WS X (.Assign [.Name x pos'] (.ListComp elt [⟨tg,iter,ifs,0⟩] sc p) pos) (sQ K (xU i (WJ ti own fr g tc te))) :=
 ⟨Nx nd (tH hN hy hl hc (LV S) hi.h (λC s H ex=>(hg C s H ex).h) (λC s H ex=>(hif C s H ex).h) (λC s H ex=>(he C s H ex).h) hsw (cY hs))⟩
theorem JL{j:Nat}(he:WE X e (lift K td))(ho:WE X e1 (pQ K (.inl j)))(hi:WE X e2 (pQ K a))(hs:swapsWithSole [.Subscript e1 e2 pos'] e pos.line X.env=pure false:=by rfl)(hw:swappedStores [.Subscript e1 e2 pos'] e X.env=pure none:=by rfl)
  (ha:∀v,assign (.Subscript e1 e2 pos') X.env v=(do
    let ov<-holding [v] (eval e1 X.env)
    let iv<-holding [v,ov] (eval e2 X.env)
    standAt pos'
    holding [v,ov,iv] (setItem ov iv v)
    release [v,ov,iv] []):=by intro _;rfl) (h1:(assignEach [.Subscript e1 e2 pos'] X.env).map (·.2)=[assign (.Subscript e1 e2 pos') X.env]:=by rfl):WS X (.Assign [.Subscript e1 e2 pos'] e pos) (sQ K (mF j a td)):=⟨zL (mj he.h (EB ho.h hi.h Dj ha) hs hw h1)⟩
theorem Rx{j:Nat}(hu:X.A.units+1 < cLine)(ho:WE X e1 (pQ K (.inl j)))(hi:WE X e2 (pQ K a))(hv:WE X e (lift K td))(hs:wK e=true:=by rfl):WS X (.Assign [.Subscript e1 e2 pos'] e pos) (sQ K (EJ j a td)):=⟨bE (Hv hu ho.h hi.h hv.h (xK hs))⟩
theorem zF{g:WZ}(he:WE X e (lift K td))(hg:WG X tg (RQ K g))(hs:swapsWithSole [tg] e pos.line X.env=pure false:=by rfl)(hw:swappedStores [tg] e X.env=pure none:=by rfl)(h1:(assignEach [tg] X.env).map (·.2)=[assign tg X.env]:=by rfl):WS X (.Assign [tg] e pos) (sQ K (Hx g td)):=⟨wy (mj he.h hg.h hs hw h1)⟩
end
section
variable {P:Program}{w:World}{K:Fg}{mg:Str->Option Value}{base:Heap}
theorem YZ{x qual:Str}{st:Stmt}{f:Addr}{fd:FuncData}{N ps:List Str}{k:Nat}{con:Con}{ts:qK}(F:Fun K x qual st f fd)(S:FnScope N ps (fQ st))
  (hb:∀(cdv:Value) (A:Around) (outer:List Env) (s:Shared) (H:Hp) (E:XK),Room k (A.deeper (envOfC qual (fQ st) s.heap.objs.size f cdv))->WSs (jH fZ P w K mg base N qual (fQ st) f cdv A outer s H E).nox (YX st) (sQ K ts))
  (hl:∀args Qd,con args Qd->args.length=ps.length) (hc:∀args Qd,con args Qd->(∀s∈args,∀d,s≠.ow d)/\ts (TZ args Qd) (yW N.length args)):FnOk P w K mg base fZ (k+1) f fd ps (eQ K con) :=
 zP F S (λcdv A outer s H E hr=>(hb cdv A outer s H E hr).h) hl hc
end
end L3
namespace L2
open PySem PySem.Spec PyProof.Rows
theorem Vals.getV:∀{xs:List V}{us:List Value}{i:Nat}{u:Value},Vals xs us->us[i]?=some u->∃x,xs[i]?=some x/\RelV x u
 | _,_,0,_,.cons r _,e=>⟨_,rfl,by cases e;exact r⟩
 | _,_,i+1,_,.cons _ t,e=>Vals.getV (i:=i) t e
section
variable {X:Cx}
end
noncomputable abbrev YJ(h:Heap)(z TI TO T:Addr)(fl:Bool):Prop :=
 h.get? z=some { cls:=.type "zip",dict:=none,data:=.fields #[rawInt T,.bool fl,.bool false,.ref TI,.ref TO],slots:=#[] }
section
variable {prog:Program}{w:World}{A:Around}{E:Value->Shared->Prop}{s:Shared}
theorem KL{a:Addr}{o:Obj}{Q:Option Obj->Shared->Prop}(ho:s.heap.get? a=some o)(h:Q (some o) s):wpAny (model prog w) A (loadIfAlive a) Q E s:=λΓ p _=>by
 show Sem.wp _ Γ (.loadIfAlive a λx=>.pure x) _ _ p s
 rw[Sem.wp_loadIfAlive,ho]
 exact h
theorem KD{z TI TO T:Addr}{fl:Bool}{ot:Obj}{Q:Bool->Shared->Prop}(hz:YJ s.heap z TI TO T fl)(hT:s.heap.get? T=some ot)
  (h:∀h₁,YJ h₁ z TI TO T true->o5 z s.heap h₁->Q false { s with heap:=h₁ }):wpAny (model prog w) A (Y0 (.ref z)) Q E s:=by
 unfold Y0
 refine wpAny_bind (wpAny_field hz rfl (x:=rawInt T) rfl ?_)
 show wpAny _ _ (loadIfAlive T >>= _) _ _ _
 refine wpAny_bind (KL hT ?_)
 rw[if_neg (show ¬((some ot).isNone=true) from G1)]
 refine wpAny_bind (wpAny_field hz rfl (x:=.bool fl) rfl ?_)
 cases fl with
 | true =>
  rw[if_neg (by decide)]
  exact wpAny_pure (h s.heap hz ⟨rfl,λ_ _=>rfl⟩)
 | false =>
  rw[if_pos (by decide)]
  exact wpAny_bind (wpAny_setField_rec hz (by simp) λh₁ hz₁ hs₁=>wpAny_pure (h h₁ hz₁ hs₁))
theorem AF{z TI TO T i1 i2 l1 l2:Addr}{fl:Bool}{k:Nat}{k1:Kd}{k2:Kd}{xs1 xs2:Array Value}{ot:Obj}{x1 x2:Value}{Q:Value->Shared->Prop}(D:ZAp2 z TI TO i1 i2 l1 l2)
  (hz:YJ s.heap z TI TO T fl) (hTI:zQ s.heap TI (.ref i1) (.ref i2)) (hT:s.heap.get? T=some ot)
  (h1:ItAt k1 s.heap i1 l1 k) (h2:ItAt k2 s.heap i2 l2 k) (hl1:SqAt k1 s.heap l1 xs1) (hl2:SqAt k2 s.heap l2 xs2) (hx1:xs1[k]?=some x1) (hx2:xs2[k]?=some x2)
  (hQ:∀h',YJ h' z TI TO T true->ItAt k1 h' i1 l1 (k+1)->ItAt k2 h' i2 l2 (k+1)->zQ h' s.heap.objs.size x1 x2->h'.objs.size=s.heap.objs.size+1 ->
    (∀c o,c≠z->c≠i1->c≠i2->s.heap.get? c=some o->h'.get? c=some o)->Q (.ref s.heap.objs.size) { s with heap:=h' }) :
  wpAny (model prog w) A (Builtin.«zip.__next__» ⟨[.ref z],[]⟩) (λfin s'=>∃v,fin=.done (.ret v)/\Q v s') E s:=by
 show wpAny _ _ (field (.ref z) 2 >>= _) _ _ _
 refine wpAny_bind (wpAny_field hz rfl (x:=.bool false) rfl ?_)
 show wpAny _ _ (field (.ref z) 3 >>= _) _ _ _
 refine wpAny_bind (wpAny_field hz rfl (x:=.ref TI) rfl ?_)
 refine wpAny_bind (wpAny_seqItems hTI rfl ?_)
 show wpAny _ _ (Y0 (.ref z) >>= _) _ _ _
 refine wpAny_bind (KD hz hT λh₁ hz₁ hs₁=>?_)
 simp only[G3,if_false]
 rw[x9]
 simp only[O5,j6]
 refine wpAny_bind (wpAny_bind (wpAny_bind (wpAny_holding ?_)))
 show wpAny _ _ (T0 (.ref i1) >>= _) _ _ _
 refine wpAny_bind (IQ (h1.at λo e=>hs₁.extBut _ o D.i1z e) (hl1.at λo e=>hs₁.extBut _ o D.l1z e) hx1 λha1 hi1 hsa1=>wpAny_pure (wpAny_pure ?_))
 refine wpAny_bind (wpAny_bind (wpAny_holding ?_))
 show wpAny _ _ (T0 (.ref i2) >>= _) _ _ _
 refine wpAny_bind (IQ ((h2.at λo e=>hs₁.extBut _ o D.i2z e).at λo e=>hsa1.extBut _ o D.i2i1 e) ((hl2.at λo e=>hs₁.extBut _ o D.l2z e).at λo e=>hsa1.extBut _ o D.l2i1 e) hx2 λha2 hi2 hsa2=>wpAny_pure (wpAny_pure (wpAny_pure ?_)))
 refine wpAny_bind (wpAny_newTuple (hsz:=by show 2<=sizeLine;decide) ?_)
 have hsz:ha2.objs.size=s.heap.objs.size:=by rw[hsa2.1,hsa1.1,hs₁.1]
 have hzG:YJ ha2 z TI TO T true:=hsa2.extBut _ _ D.i2z.symm (hsa1.extBut _ _ D.i1z.symm hz₁)
 refine wpAny_pure ⟨_,rfl,?_⟩
 show Q (.ref ha2.objs.size) _
 rw[hsz]
 refine hQ _ (g0 _ hzG) ((hi1.at λo e=>hsa2.extBut _ o D.i2i1.symm e).at λo e=>g0 _ e) (hi2.at λo e=>g0 _ e) ?_ ?_ λc o c1 d1 d2 e=>g0 _ (hsa2.extBut _ _ d2 (hsa1.extBut _ _ d1 (hs₁.extBut _ _ c1 e)))
 ·rw[<- hsz];exact J0 _ rfl
 ·rw[W1,hsz]
theorem rV{z TI TO T i1 i2 l1 l2:Addr}{fl:Bool}{k:Nat}{k1:Kd}{k2:Kd}{xs1 xs2:Array Value}{ot:Obj}{Q:Fin->Shared->Prop}(hh:A.handled=none)(D:ZAp2 z TI TO i1 i2 l1 l2)
  (hz:YJ s.heap z TI TO T fl) (hTI:zQ s.heap TI (.ref i1) (.ref i2)) (hT:s.heap.get? T=some ot)
  (h1:ItAt k1 s.heap i1 l1 k) (h2:ItAt k2 s.heap i2 l2 k) (hl1:SqAt k1 s.heap l1 xs1) (hl2:SqAt k2 s.heap l2 xs2) (hend:xs1[k]?=none\/xs2[k]?=none)
  (hE:∀h' e,(∀c o,c≠z->c≠i1->c≠i2->s.heap.get? c=some o->h'.get? c=some o)->(∃o,h'.get? e=some o/\o.cls=.type "StopIteration")->E (.ref e) { s with heap:=h' }) :
  wpAny (model prog w) A (Builtin.«zip.__next__» ⟨[.ref z],[]⟩) Q E s:=by
 show wpAny _ _ (field (.ref z) 2 >>= _) _ _ _
 refine wpAny_bind (wpAny_field hz rfl (x:=.bool false) rfl ?_)
 show wpAny _ _ (field (.ref z) 3 >>= _) _ _ _
 refine wpAny_bind (wpAny_field hz rfl (x:=.ref TI) rfl ?_)
 refine wpAny_bind (wpAny_seqItems hTI rfl ?_)
 show wpAny _ _ (Y0 (.ref z) >>= _) _ _ _
 refine wpAny_bind (KD hz hT λh₁ hz₁ hs₁=>?_)
 simp only[G3,if_false]
 rw[x9]
 simp only[O5,j6]
 refine wpAny_bind (wpAny_bind (wpAny_bind (wpAny_holding ?_)))
 show wpAny _ _ (T0 (.ref i1) >>= _) _ _ _
 cases hx1:xs1[k]? with
 | none =>
  exact wpAny_bind (kX hh (h1.at λo e=>hs₁.extBut _ o D.i1z e) (hl1.at λo e=>hs₁.extBut _ o D.l1z e) hx1 λhq e hsq he=>hE hq e (λc o c1 d1 d2 x=>hsq _ _ d1 (hs₁.extBut _ _ c1 x)) he)
 | some x1 =>
  have hx2:xs2[k]?=none:=by
   rcases hend with h|h
   ·rw[hx1]at h;cases h
   ·exact h
  refine wpAny_bind (IQ (h1.at λo e=>hs₁.extBut _ o D.i1z e) (hl1.at λo e=>hs₁.extBut _ o D.l1z e) hx1 λha1 hi1 hsa1=>wpAny_pure (wpAny_pure ?_))
  refine wpAny_bind (wpAny_bind (wpAny_holding ?_))
  show wpAny _ _ (T0 (.ref i2) >>= _) _ _ _
  exact wpAny_bind (kX hh ((h2.at λo e=>hs₁.extBut _ o D.i2z e).at λo e=>hsa1.extBut _ o D.i2i1 e) ((hl2.at λo e=>hs₁.extBut _ o D.l2z e).at λo e=>hsa1.extBut _ o D.l2i1 e) hx2 λhq e hsq he=>hE hq e (λc o c1 d1 d2 x=>hsq _ _ d2 (hsa1.extBut _ _ d1 (hs₁.extBut _ _ c1 x))) he)
end
section
variable {prog:Program}{w:World}{A:Around}{E:Value->Shared->Prop}{s:Shared}
noncomputable def ZSt(h:Heap)(z TI TO S i1 i2 l1 l2:Addr)(k1 k2:Kd)(i:Nat):Prop :=
 zQ h TI (.ref i1) (.ref i2)/\ItAt k1 h i1 l1 i/\ItAt k2 h i2 l2 i /\
  ((IsZip h z TI TO .none/\∃a1 a2,zQ h TO a1 a2)\/∃T fl ot,YJ h z TI TO T fl/\h.get? T=some ot/\T≠z/\T≠i1/\T≠i2/\T≠S)
theorem BF{z TI TO S i1 i2 l1 l2:Addr}{k:Nat}{k1 k2:Kd}{xs1 xs2:Array Value}{x1 x2:Value}{Q:Option Value->Shared->Prop}(D:ZAp2 z TI TO i1 i2 l1 l2)(hS:S < s.heap.objs.size)
  (st:ZSt s.heap z TI TO S i1 i2 l1 l2 k1 k2 k) (hl1:SqAt k1 s.heap l1 xs1) (hl2:SqAt k2 s.heap l2 xs2) (hx1:xs1[k]?=some x1) (hx2:xs2[k]?=some x2)
  (hQ:∀h',ZSt h' z TI TO S i1 i2 l1 l2 k1 k2 (k+1)->zQ h' s.heap.objs.size x1 x2->h'.objs.size=s.heap.objs.size+1 ->
    (∀c o,c≠z->c≠TO->c≠i1->c≠i2->s.heap.get? c=some o->h'.get? c=some o)->Q (some (.ref s.heap.objs.size)) { s with heap:=h' }) :
  wpAny (model prog w) A (pyNext (.ref z)) Q E s:=by
 obtain⟨hTI,h1,h2,hz⟩:=st
 have gz:∀{b:Addr}{o:Obj},s.heap.get? b=some o->s.heap.objs.size≠b:=λe=>J1 (B0 e)
 obtain⟨o1,g1,_⟩:=h1.obj
 obtain⟨o2,g2,_⟩:=h2.obj
 rcases hz with⟨hz,a1,a2,hTO⟩|⟨T,fl,ot,hz,hT,t1,t2,t3,t4⟩
 ·refine lJ D hz hTI hTO h1 h2 hl1 hl2 hx1 hx2 λh' b1 b2 c1 c2 b5 b6 b7=>hQ h' ⟨b7 TI _ D.TIz (L1 D.TOTI) (L1 D.i1TI) (L1 D.i2TI) hTI,c1,c2,.inr ⟨s.heap.objs.size,false,_,b1,b5,gz hz,gz g1,gz g2,J1 hS⟩⟩ b5 b6 b7
 ·have hTy:s.TypeIs (.ref z) "zip":=⟨_,hz,rfl⟩
  unfold pyNext
  exact wpAny_bind (wpAny_attempt (wpAny_callSpecial?_slot (name:=Str.ofString "__next__") hTy F.slot_zip_next
    (wpAny_call_entry F.slot_zip_next hTy F.entry_zip_next (wpAny_mono (AF (Q:=λv s'=>Q (some v) s') D hz hTI hT h1 h2 hl1 hl2 hx1 hx2 λh' b1 c1 c2 b5 b6 b7=>hQ h' ⟨b7 TI _ D.TIz (L1 D.i1TI) (L1 D.i2TI) hTI,c1,c2,.inr ⟨T,true,ot,b1,b7 T _ t1 t2 t3 hT,t1,t2,t3,t4⟩⟩ b5 b6 λc o d1 _ d3 d4 e=>b7 c o d1 d3 d4 e) (λfin s' z=>by obtain⟨v,rfl,z⟩:=z;exact ⟨_,rfl,wpAny_pure z⟩) λ_ _ z=>z) (F.args_zip_next_1 _))))
theorem sV{z TI TO S i1 i2 l1 l2:Addr}{k:Nat}{k1 k2:Kd}{xs1 xs2:Array Value}{Q:Option Value->Shared->Prop}(hh:A.handled=none)(D:ZAp2 z TI TO i1 i2 l1 l2)
  (st:ZSt s.heap z TI TO S i1 i2 l1 l2 k1 k2 k) (hl1:SqAt k1 s.heap l1 xs1) (hl2:SqAt k2 s.heap l2 xs2) (hend:xs1[k]?=none\/xs2[k]?=none)
  (hQ:∀h',(∀c o,c≠z->c≠TO->c≠i1->c≠i2->s.heap.get? c=some o->h'.get? c=some o)->Q none { s with heap:=h' }):wpAny (model prog w) A (pyNext (.ref z)) Q E s:=by
 obtain⟨hTI,h1,h2,hz⟩:=st
 rcases hz with⟨hz,a1,a2,hTO⟩|⟨T,fl,ot,hz,hT,t1,t2,t3,t4⟩
 ·exact MJ hh D hz hTI hTO h1 h2 hl1 hl2 hend hQ
 ·have hTy:s.TypeIs (.ref z) "zip":=⟨_,hz,rfl⟩
  unfold pyNext
  refine wpAny_bind (wpAny_attempt (wpAny_callSpecial?_slot (name:=Str.ofString "__next__") hTy F.slot_zip_next
    (wpAny_call_entry F.slot_zip_next hTy F.entry_zip_next (rV hh D hz hTI hT h1 h2 hl1 hl2 hend λh' e hk he=>?_) (F.args_zip_next_1 _))))
  obtain⟨o,ho,hc⟩:=he
  refine wpAny_bind (wpAny_isInstance (T:="StopIteration") (b:=true) ⟨o,ho,hc⟩ isSubtype_stop ?_)
  exact wpAny_pure (hQ _ λc o d1 _ d3 d4 e=>hk c o d1 d3 d4 e)
theorem ZSt.keep{h h':Heap}{z TI TO S i1 i2 l1 l2:Addr}{k1 k2:Kd}{i:Nat}(x:ZSt h z TI TO S i1 i2 l1 l2 k1 k2 i)(hk:∀b o,b≠S->h.get? b=some o->h'.get? b=some o)(n1:z≠S)(n2:TI≠S)(n3:TO≠S)(n4:i1≠S)(n5:i2≠S) :
  ZSt h' z TI TO S i1 i2 l1 l2 k1 k2 i:=by
 obtain⟨hTI,h1,h2,hz⟩:=x
 refine ⟨hk _ _ n2 hTI,h1.at λo e=>hk _ _ n4 e,h2.at λo e=>hk _ _ n5 e,?_⟩
 rcases hz with⟨hz,a1,a2,hTO⟩|⟨T,fl,ot,hz,hT,t1,t2,t3,t4⟩
 ·exact .inl ⟨hk _ _ n1 hz,a1,a2,hk _ _ n3 hTO⟩
 ·exact .inr ⟨T,fl,ot,hk _ _ n1 hz,hk _ _ t4 hT,t1,t2,t3,t4⟩
end
structure ZG(xs1 xs2:Array Value)(lo:Addr)(h:Heap)(as:List Addr):Prop where
 rise:as.Pairwise (· < ·)
 above:∀a∈as,lo < a
 pairs:∀(j:Nat) (a:Addr),as[j]?=some a->∃x y,xs1[j]?=some x/\xs2[j]?=some y/\zQ h a x y
theorem ZG.there{xs1 xs2:Array Value}{lo:Addr}{h:Heap}{as:List Addr}(g:ZG xs1 xs2 lo h as){a:Addr}(ha:a∈as):a < h.objs.size:=by
 obtain⟨j,hj⟩:=G5.mp ha
 obtain⟨_,_,_,_,e⟩:=g.pairs j a hj
 exact B0 e
section
variable {prog:Program}{w:World}{A:Around}{s:Shared}{R:Result->Shared->Prop}
theorem Ux{z TI TO S i1 i2 l1 l2:Addr}{k1 k2:Kd}{xs1 xs2:Array Value}{n:Nat}(hh:A.handled=none)(D:ZAp2 z TI TO i1 i2 l1 l2)(n1:z < S)(n2:TI < S)(n3:TO < S)(n4:i1 < S)(n5:i2 < S)(n6:l1≠S)(n7:l2≠S)
  (hn1:n<=xs1.size) (hn2:n<=xs2.size) (hend:xs1[n]?=none\/xs2[n]?=none) (hn:n<=sizeLine) (res:Value) {h₁:Heap}
  (hR:∀h' tk acc c as,(∀b o,b≠S->b≠z->b≠TO->b≠i1->b≠i2->h₁.get? b=some o->h'.get? b=some o)->h'.get? S=some { cls:=.type "list",dict:=none,data:=.seq acc c,slots:=#[] }->as.length=n->ZG xs1 xs2 S h' as ->
    acc.toList=as.map U1->R (.ok (.ret res)) { s with heap:=h',toks:=tk }) :
  ∀(k i:Nat) (h:Heap) (tk c:Nat) (acc:Array Value) (as:List Addr),n - i=k->i<=n->ZSt h z TI TO S i1 i2 l1 l2 k1 k2 i->SqAt k1 h l1 xs1->SqAt k2 h l2 xs2->(∀b o,b≠S->b≠z->b≠TO->b≠i1->b≠i2->h₁.get? b=some o->h.get? b=some o) ->
   h.get? S=some { cls:=.type "list",dict:=none,data:=.seq acc c,slots:=#[] }->acc.toList=as.map U1->as.length=i->ZG xs1 xs2 S h as ->
   codeAny (model prog w) A (.builtin "list.extend.loop" ⟨[.ref S,.ref z,res],[]⟩) R { s with heap:=h,toks:=tk }:=by
 have m1:z≠S:=R0 n1
 have m2:TI≠S:=R0 n2
 have m3:TO≠S:=R0 n3
 have m4:i1≠S:=R0 n4
 have m5:i2≠S:=R0 n5
 have far:∀{a:Addr},S < a->a≠S/\a≠z/\a≠TO/\a≠i1/\a≠i2:=λh=>⟨J1 h,J1 (P7 n1 h),J1 (P7 n3 h),J1 (P7 n4 h),J1 (P7 n5 h)⟩
 intro k
 induction k with
 | zero =>
  intro i h tk c acc as hk hi hst q1 q2 hkeep hS hacc hal hG
  have hin:i=n:=by omega
  subst hin
  refine codeAny_builtin PySem.F.entry_extend_loop ?_
  rw[Around.under_plainId PySem.F.plain_extend_loop _]
  show wpAny _ A.in1 (pyNext (.ref z) >>= _) _ _ _
  refine wpAny_bind (sV (s:={ s with heap:=h,toks:=tk }) (A:=A.in1) hh D hst q1 q2 hend λh' he=>?_)
  refine wpAny_pure (hR h' tk acc c as (λb o c1 c2 c3 c4 c5 e=>he b o c2 c3 c4 c5 (hkeep b o c1 c2 c3 c4 c5 e)) (he S _ (L1 m1) (L1 m3) (L1 m4) (L1 m5) hS) hal ⟨hG.rise,hG.above,λj a hj=>?_⟩ hacc)
  obtain⟨x,y,e1,e2,e3⟩:=hG.pairs j a hj
  obtain⟨_,f2,f3,f4,f5⟩:=far (hG.above a (Y1 hj))
  exact ⟨x,y,e1,e2,he a _ f2 f3 f4 f5 e3⟩
 | succ k ih =>
  intro i h tk c acc as hk hi hst q1 q2 hkeep hS hacc hal hG
  have hlt:i < n:=by omega
  obtain⟨x,hx⟩:∃p,xs1[i]?=some p:=⟨xs1[i],M5 (by omega)⟩
  obtain⟨y,hy⟩:∃p,xs2[i]?=some p:=⟨xs2[i],M5 (by omega)⟩
  have hsz:acc.size=i:=by rw[<- U0,hacc,i0,hal]
  have hSl:S < h.objs.size:=B0 hS
  refine codeAny_builtin PySem.F.entry_extend_loop ?_
  rw[Around.under_plainId PySem.F.plain_extend_loop _]
  show wpAny _ A.in1 (pyNext (.ref z) >>= _) _ _ _
  refine wpAny_bind (BF (s:={ s with heap:=h,toks:=tk }) (S:=S) D hSl hst q1 q2 hx hy λh' hst' ht hz hkp=>?_)
  dsimp only at ht hz hkp ⊢
  have hS':=hkp S _ (L1 m1) (L1 m3) (L1 m4) (L1 m5) hS
  have up:∀b o,b≠S->h'.get? b=some o->(h'.update S (S2 (·.push (U1 h.objs.size)))).get? b=some o:=λb o hb e=>(V3 _ _ (L1 hb)).trans e
  show wpAny _ A.in1 (updateSeq S (·.push (U1 h.objs.size)) >>= _) _ _ _
  refine wpAny_bind ?_
  refine wpAny_updateSeq hS' rfl (wpAny_pure ⟨plainId_quiet PySem.F.plain_extend_loop _,ih (i+1) _ tk _ (acc.push (U1 h.objs.size)) (as++[h.objs.size]) (by omega) hlt (hst'.keep up m1 m2 m3 m4 m5)
    (q1.at λo e=>up _ o n6 (hkp _ o D.l1z D.l1TO D.l1i1 D.l1i2 e)) (q2.at λo e=>up _ o n7 (hkp _ o D.l2z D.l2TO D.l2i1 D.l2i2 e))
    (λb o c1 c2 c3 c4 c5 e=>up b o c1 (hkp b o c2 c3 c4 c5 (hkeep b o c1 c2 c3 c4 c5 e))) (V2 _ hS' rfl) (by rw[U6,hacc,T2];rfl) (by rw[M0,hal];rfl) ⟨?_,?_,?_⟩⟩) (by rw[hsz];omega) (by show (acc.push (U1 h.objs.size)).size<=sizeLine+1;rw[Array.size_push,hsz];omega)
  ·refine X5.mpr ⟨hG.rise,t6 _ _,λa ha b hb=>?_⟩
   rw[K2.mp hb]
   exact hG.there ha
  ·intro a ha
   rcases O2.mp ha with ha|ha
   ·exact hG.above a ha
   ·rw[K2.mp ha];exact hSl
  ·intro j b hj
   rcases Nat.lt_trichotomy j as.length with g|g|g
   ·rw[X1 g]at hj
    obtain⟨x',y',e1,e2,e3⟩:=hG.pairs j b hj
    obtain⟨f1,f2,f3,f4,f5⟩:=far (hG.above b (Y1 hj))
    exact ⟨x',y',e1,e2,up b _ f1 (hkp b _ f2 f3 f4 f5 e3)⟩
   ·subst g
    have hb:h.objs.size=b:=by simpa using hj
    subst hb
    exact ⟨x,y,by rw[hal];exact hx,by rw[hal];exact hy,up _ _ (J1 hSl) ht⟩
   ·have hnone:(as++[h.objs.size])[j]?=none:=List.getElem?_eq_none (by rw[M0,E1];omega)
    rw[hnone]at hj;cases hj
end
theorem CF:typeLookup (.type "zip") "__len__"=pure none:=by rw[typeLookup_type,builtinLookup_eq_fast];kernel_rfl
theorem UH:typeLookup (.type "zip") "__length_hint__"=pure none:=by rw[typeLookup_type,builtinLookup_eq_fast];kernel_rfl
section
variable {prog:Program}{w:World}{A:Around}{s:Shared}{R:Result->Shared->Prop}
theorem DF{z TI TO S i1 i2 l1 l2:Addr}{k1 k2:Kd}{xs1 xs2:Array Value}{n:Nat}(hh:A.handled=none)(D:ZAp2 z TI TO i1 i2 l1 l2)(n1:z < S)(n2:TI < S)(n3:TO < S)(n4:i1 < S)(n5:i2 < S)(n6:l1≠S)(n7:l2≠S)
  (hn1:n<=xs1.size) (hn2:n<=xs2.size) (hend:xs1[n]?=none\/xs2[n]?=none) (hn:n<=sizeLine) (res:Value) (c₀:Nat) {a1 a2:Value}
  (hz:IsZip s.heap z TI TO .none) (hTI:zQ s.heap TI (.ref i1) (.ref i2)) (hTO:zQ s.heap TO a1 a2) (h1:ItAt k1 s.heap i1 l1 0) (h2:ItAt k2 s.heap i2 l2 0) (hl1:SqAt k1 s.heap l1 xs1) (hl2:SqAt k2 s.heap l2 xs2)
  (hS:s.heap.get? S=some { cls:=.type "list",data:=.seq #[] c₀ })
  (hR:∀h' tk acc c as,(∀b o,b≠S->b≠z->b≠TO->b≠i1->b≠i2->s.heap.get? b=some o->h'.get? b=some o)->h'.get? S=some { cls:=.type "list",dict:=none,data:=.seq acc c,slots:=#[] }->as.length=n->ZG xs1 xs2 S h' as ->
    acc.toList=as.map U1->R (.ok (.ret res)) { s with heap:=h',toks:=tk }) :
  wpAny (model prog w) A.in1 (u5 (.ref S) (.ref z) res)
   (λfin s'=>match fin with | .done f=>R (.ok f) s' | .again c'=>c'.quiet=true/\codeAny (model prog w) A c' R s') (λe s'=>R (.error e) s') s:=by
 have m1:z≠S:=R0 n1
 have hTy:s.TypeIs (.ref z) "zip":=⟨_,hz,rfl⟩
 unfold u5
 refine wpAny_bind (wpAny_typeOf hTy ?_)
 have e1:o8 (.ref S) (.ref z)=false:=by simp[o8,L1 m1]
 have e2:(G6 "zip"==G6 "list")=false:=by decide
 have e3:(G6 "zip"==G6 "tuple")=false:=by decide
 simp only[e1,e2,e3,Bool.or_false,G3,if_false]
 refine wpAny_bind (wpAny_pyIter_zip hz ?_)
 refine wpAny_bind (wpAny_holding ?_)
 unfold Builtin.List.listLengthHint
 refine wpAny_bind (wpAny_specialOf hTy CF ?_)
 show wpAny _ A.in1 (specialOf (U1 z) (Str.ofString "__length_hint__") >>= _) _ _ _
 refine wpAny_bind (wpAny_specialOf hTy UH ?_)
 refine wpAny_pure ?_
 show wpAny _ A.in1 (rule "list.extend.makes-room" >>= λ_=>Builtin.List.listTouch (.ref S) >>= λ_ =>
   again (.builtin "list.extend.loop" ⟨[.ref S,.ref z,res],[]⟩)) _ _ _
 refine wpAny_bind (wpAny_rule ?_)
 refine wpAny_bind ?_
 show wpAny _ A.in1 (updateSeq S (·.push .none) >>= λ_=>updateSeq S (·.pop)) _ _ _
 refine wpAny_bind (wpAny_updateSeq hS rfl ?_)
 have hS₂:=V2 (S2 (·.push x6)) hS rfl
 refine wpAny_updateSeq (hz:=by seq_fits) hS₂ rfl ?_
 have hS₃:=V2 (S2 (·.pop)) hS₂ rfl
 have oth:∀b o,b≠S->s.heap.get? b=some o->((s.heap.update S (S2 (·.push x6))).update S (S2 (·.pop))).get? b=some o :=
  λb o hb e=>(V3 _ _ (L1 hb)).trans ((V3 _ _ (L1 hb)).trans e)
 refine wpAny_pure ⟨plainId_quiet F.plain_extend_loop _,Ux (s:=s) (h₁:=s.heap) hh D n1 n2 n3 n4 n5 n6 n7 hn1 hn2 hend hn res hR n 0 _ s.toks _ #[] [] rfl (u4 _)
   ⟨oth _ _ (R0 n2) hTI,h1.at λo e=>oth _ _ (R0 n4) e,h2.at λo e=>oth _ _ (R0 n5) e,.inl ⟨oth _ _ m1 hz,a1,a2,oth _ _ (R0 n3) hTO⟩⟩
   (hl1.at λo e=>oth _ _ n6 e) (hl2.at λo e=>oth _ _ n7 e) (λb o c1 _ _ _ _ e=>oth b o c1 e) hS₃ rfl rfl ⟨List.Pairwise.nil,(λ_ ha=>nomatch ha),(λj a hj=>by simp at hj)⟩⟩
end
section
variable {prog:Program}{w:World}{A:Around}{E:Value->Shared->Prop}{s:Shared}
theorem DW{z TI TO i1 i2 l1 l2:Addr}{k1 k2:Kd}{xs1 xs2:Array Value}{n:Nat}{Q:Value->Shared->Prop}(hh:A.handled=none)(D:ZAp2 z TI TO i1 i2 l1 l2)
  (hn1:n<=xs1.size) (hn2:n<=xs2.size) (hend:xs1[n]?=none\/xs2[n]?=none) (hn:n<=sizeLine) {a1 a2:Value}
  (hz:IsZip s.heap z TI TO .none) (hTI:zQ s.heap TI (.ref i1) (.ref i2)) (hTO:zQ s.heap TO a1 a2) (h1:ItAt k1 s.heap i1 l1 0) (h2:ItAt k2 s.heap i2 l2 0) (hl1:SqAt k1 s.heap l1 xs1) (hl2:SqAt k2 s.heap l2 xs2)
  (b1:l1 < s.heap.objs.size) (b2:l2 < s.heap.objs.size)
  (hQ:∀h' tk acc c as,(∀b o,b≠z->b≠TO->b≠i1->b≠i2->s.heap.get? b=some o->h'.get? b=some o)->h'.get? s.heap.objs.size=some { cls:=.type "list",dict:=none,data:=.seq acc c,slots:=#[] }->as.length=n->ZG xs1 xs2 s.heap.objs.size h' as ->
    acc.toList=as.map U1->Q (.ref s.heap.objs.size) { s with heap:=h',toks:=tk }) :
  wpAny (model prog w) A (call (.type "list") [.ref z]) Q E s:=by
 refine callType_codes (Q₁:=λobj s₁=>obj=.ref s.heap.objs.size/\s₁={ s with heap:=s.heap.push { cls:=.type "list",data:=.seq #[] } }) PySem.F.called_list (PySem.F.typeCall_list_1 _) PySem.F.entry_list_init
  (code_list_new _ ⟨rfl,rfl⟩) λobj s₁ h₁=>?_
 obtain⟨rfl,rfl⟩:=h₁
 have hS:(s.heap.push { cls:=.type "list",data:=.seq #[] }).get? s.heap.objs.size=some { cls:=.type "list",data:=.seq #[] }:=J0 _ rfl
 refine ⟨⟨_,hS,rfl⟩,PySem.F.args_list_init_2 _ _,?_⟩
 show wpAny _ _ (do let old<-G8 (.ref s.heap.objs.size);Builtin.List.listUpdate (.ref s.heap.objs.size) (λ_=>#[]);letGo old.toList.reverse;u5 (.ref s.heap.objs.size) (.ref z) .none) _ _ _
 refine wpAny_bind ?_
 unfold G8
 refine wpAny_bind (wpAny_seqItems hS rfl (wpAny_pure ?_))
 show wpAny _ _ (updateSeq s.heap.objs.size (λ_=>#[]) >>= λ_=>letGo (#[]:Array Value).toList.reverse >>= λ_=>u5 (.ref s.heap.objs.size) (.ref z) .none) _ _ _
 refine wpAny_bind (wpAny_updateSeq hS rfl ?_)
 have hS₂:=V2 (S2 (λ_=>(#[]:Array Value))) hS rfl
 have oth:∀b o,s.heap.get? b=some o->((s.heap.push { cls:=.type "list",data:=.seq #[] }).update s.heap.objs.size (S2 (λ_=>(#[]:Array Value)))).get? b=some o :=
  λb o e=>(V3 _ _ (J1 (B0 e))).trans (g0 _ e)
 refine wpAny_bind (wpAny_letGo ?_)
 obtain⟨o1,g1,_⟩:=h1.obj
 obtain⟨o2,g2,_⟩:=h2.obj
 refine DF (A:=A.in1) hh D (B0 hz) (B0 hTI) (B0 hTO) (B0 g1) (B0 g2) (R0 b1) (R0 b2) hn1 hn2 hend hn .none _ (oth _ _ hz) (oth _ _ hTI) (oth _ _ hTO) (h1.at λo e=>oth _ _ e) (h2.at λo e=>oth _ _ e) (hl1.at λo e=>oth _ _ e) (hl2.at λo e=>oth _ _ e) hS₂ λh' tk acc c as hk hS' hl hG hacc=>?_
 exact ⟨rfl,hQ h' tk acc c as (λb o c2 c3 c4 c5 e=>hk b o (R0 (B0 e)) c2 c3 c4 c5 (oth b o e)) hS' hl hG hacc⟩
end
noncomputable def FY:Hp->List (Addr×List V)->Hp
 | H,[]=>H
 | H,(a,xs) :: r=>FY (HQ H a (.tup xs)) r
theorem VH:∀{ps:List (Addr×List V)}{H:Hp}{b:Addr}{o:HO},(ps.map (·.1)).Nodup->(∀p∈ps,H p.1=none)->H b=some o->FY H ps b=some o
 | [],_,_,_,_,_,e=>e
 | (a,xs) :: r,H,b,o,nd,hn,e=>by
  have nd:=Z4.mp nd
  show FY (HQ H a (.tup xs)) r b=some o
  refine VH nd.2 (λp hp=>?_) ?_
  ·rw[cQ (λq=>nd.1 (K0.mpr ⟨p,hp,q⟩))]
   exact hn p (u0 _ hp)
  ·rw[cQ (jQ e (hn _ (.head _)))];exact e
theorem AK:∀{ps:List (Addr×List V)}{H:Hp}{b:Addr}{o:HO},FY H ps b=some o->H b=some o\/∃xs,(b,xs)∈ps/\o=.tup xs
 | [],_,_,_,e=>.inl e
 | (a,xs) :: r,H,b,o,e=>by
  rcases AK (ps:=r) e with e|⟨ys,m,q⟩
  ·by_cases hb:b=a
   ·subst hb
    rw[iQ]at e
    cases e
    exact .inr ⟨xs,.head _,rfl⟩
   ·rw[cQ hb]at e
    exact .inl e
  ·exact .inr ⟨ys,u0 _ m,q⟩
section
variable {X:Cx}{pins:List (Addr×Obj)}{σ:St}{H H':Hp}{s:Shared}{h':Heap}
theorem Inv.lays{t':Nat}(I:Inv X pins σ H s)(k:∀b u,s.heap.get? b=some u->h'.get? b=some u)(sub:∀b o,H b=some o->H' b=some o)
  (new:∀b o,H' b=some o->H b=some o\/(s.heap.objs.size<=b/\ObjOk X.prog X.w H' h' b o)):Inv X pins σ H' { s with heap:=h',toks:=t' }:=by
 refine I.un ⟨λb u q _ _ _=>k b u q,λb u q _ _ _=>⟨u.slots,k b u q⟩,λb u q n _=>?_,λb u q _=>⟨u,k b u q⟩,λb xs q=>sub _ _ q,λb u xs q=>sub _ _ q,λb ps q=>⟨#[],by rw[sub _ _ q];simp⟩⟩ λb o e=>?_
 ·cases e:H' b with
  | none=>rfl
  | some o =>
   rcases new b o e with z|⟨z,_⟩
   ·rw[n]at z;cases z
   ·exact absurd (N0 (B0 q) z) (A3 _)
 ·rcases new b o e with z|⟨_,z⟩
  ·exact (I.hok b o z).stay (λc v _ q=>k c v q) (λc q=>sub _ _ q) λc xs q=>sub _ _ q
  ·exact z
end
noncomputable def eX:List V->List V->List (List V)
 | x :: xs,y :: ys=>[x,y] :: eX xs ys
 | _,_=>[]
theorem UV:∀(xs ys:List V),(eX xs ys).length=min xs.length ys.length
 | [],_=>by simp[eX]
 | _ :: _,[]=>by simp[eX]
 | _ :: xs,_ :: ys=>by simp only[eX,K1,UV xs ys];omega
theorem WV:∀{xs ys:List V}{j:Nat}{x y:V},xs[j]?=some x->ys[j]?=some y->(eX xs ys)[j]?=some [x,y]
 | _ :: _,_ :: _,0,_,_,e,q=>by cases e;cases q;rfl
 | _ :: xs,_ :: ys,j+1,_,_,e,q=>WV (xs:=xs) (ys:=ys) (j:=j) e q
 | [],_,_,_,_,e,_=>by simp at e
 | _ :: _,[],_,_,_,_,q=>by simp at q
noncomputable def BP(K:q0)(ta:TA):TE:=λσ H Q=>ta σ H λvs H1=>∃(k1:Kd) (l1:Addr) (ys1:List V) (k2:Kd) (l2:Addr) (ys2:List V),vs=[.ref l1,.ref l2]/\Sq k1 K H1 l1 ys1/\Sq k2 K H1 l2 ys2 /\
 ∀(ps:List (Addr×List V)) (S:Addr),(ps.map (·.1)).Nodup->(∀p∈ps,H1 p.1=none)->H1 S=none->S∉ps.map (·.1)->ps.map (·.2)=eX ys1 ys2->Q (.ref S) (HQ (FY H1 ps) S (.lst (ps.map λp=>V.ref p.1)))
theorem LL{X:Cx}{a b:Expr}{ta:TA}{p pos p0 pos0:Pos}(hcm:X.calm=true)(hg0:Gl X "list")(hm0:X.mg "list"=none)(hg:Gl X "zip")(hm:X.mg "zip"=none)(ha:PA X [a,b] ta)
  (hs:starEach [a,b] X.env=(false,eval a X.env) :: starEach [b] X.env:=by rfl) (hpl:(backTo pos (starEach [b] X.env)).any (·.1)=false:=by rfl)
  (hs0:starEach [.Call (.Name "zip" p) [a,b] [] pos] X.env=(false,eval (.Call (.Name "zip" p) [a,b] [] pos) X.env) :: starEach [] X.env:=by rfl) (hpl0:(backTo pos0 (starEach [] X.env)).any (·.1)=false:=by rfl) :
  PE X (.Call (.Name "list" p0) [.Call (.Name "zip" p) [a,b] [] pos] [] pos0) (BP X.K ta):=by
 intro pins s σ H Q I h
 refine wpAny_Call_Name_kw (rZ I hg0 hm0 boot_list ?_ (by decide) (by decide))
 refine J2 ?_ hs0 hpl0
 rw[hs0]
 show wpAny _ _ (spliced ((false,eval (.Call (.Name "zip" p) [a,b] [] pos) X.env) :: backTo pos0 (starEach [] X.env))) _ _ s
 refine Calls.spliced_cons ?_
 refine Call_ (rZ I hg hm boot_zip (J2 (gX (ha pos pins s σ H _ I h) λus s1 ⟨vs,H1,I1,r1,q1⟩=>?_) hs hpl))
 obtain⟨k1,l1,ys1,k2,l2,ys2,e,q1,q2,q⟩:=q1
 subst e
 obtain rfl:us=[.ref l1,.ref l2]:=by
  cases r1 with|cons r rr=>cases r;cases rr with|cons r rr=>cases r;cases rr;rfl
 obtain⟨its1,rv1,p1,z1⟩:=I1.sq q1
 obtain⟨its2,rv2,p2,z2⟩:=I1.sq q2
 have lt:∀{k:Kd}{l:Addr}{xs:Array Value},SqAt k s1.heap l xs->l < s1.heap.objs.size:=λ{k l xs} p=>by
  cases k with
  | l=>obtain⟨o,e,_⟩:=p;exact B0 e
  | t=>obtain⟨o,e,_⟩:=p;exact B0 e
 refine callType_new F.called_zip (by decide) (F.typeCall_zip_2 _ _) (F.newCall_zip_2 _ _) (λobj=>F.args_object_init_3 obj _ _) F.entry_zip_new (rH k1 k2 l1 l2 its1.toArray its2.toArray) ⟨p1,p2,?_⟩
 have zI:(az s1.heap k1 k2 l1 l2).objs.size=s1.heap.objs.size+2:=by simp[W1]
 have zT:(bz s1.heap k1 k2 l1 l2).objs.size=s1.heap.objs.size+3:=by simp[W1]
 have zO:(cz s1.heap k1 k2 l1 l2).objs.size=s1.heap.objs.size+4:=by simp[W1]
 have zZ:(aJ s1.heap k1 k2 l1 l2).objs.size=s1.heap.objs.size+5:=by simp[W1]
 have gZ:(aJ s1.heap k1 k2 l1 l2).get? (cz s1.heap k1 k2 l1 l2).objs.size=some _:=J0 _ rfl
 have gO:(aJ s1.heap k1 k2 l1 l2).get? (bz s1.heap k1 k2 l1 l2).objs.size=some _:=g0 _ (J0 _ rfl)
 have gT:(aJ s1.heap k1 k2 l1 l2).get? (az s1.heap k1 k2 l1 l2).objs.size=some _:=g0 _ (g0 _ (J0 _ rfl))
 have g1:(aJ s1.heap k1 k2 l1 l2).get? s1.heap.objs.size=some (KQ k1 l1):=g0 _ (g0 _ (g0 _ (g0 _ (J0 _ (by cases k1<;>rfl)))))
 have g2:(aJ s1.heap k1 k2 l1 l2).get? (s1.heap.push (KQ k1 l1)).objs.size=some (KQ k2 l2):=g0 _ (g0 _ (g0 _ (J0 _ (by cases k2<;>rfl))))
 have zz2:(s1.heap.push (KQ k1 l1)).objs.size=s1.heap.objs.size+1:=by simp[W1]
 rw[zO,zT,zI]at gZ
 rw[zI,zz2]at gT
 rw[zT]at gO
 rw[zz2]at g2
 show _/\_
 rw[zO]
 have kp:∀b o,s1.heap.get? b=some o->(aJ s1.heap k1 k2 l1 l2).get? b=some o:=λb o e=>g0 _ (g0 _ (g0 _ (g0 _ (g0 _ (e)))))
 refine ⟨⟨_,gZ,rfl⟩,Calls.spliced_nil ?_⟩
 have len1:=rv1.length
 have len2:=rv2.length
 have D:=XI s1.heap.objs.size l1 l2 (lt p1) (lt p2)
 refine DW (s:={ s1 with heap:=aJ s1.heap k1 k2 l1 l2 }) (xs1:=its1.toArray) (xs2:=its2.toArray) (n:=min ys1.length ys2.length) (I1.ok.hd hcm) D (by simp only[Q0];omega) (by simp only[Q0];omega) ?_ (by omega) gZ gT gO (ItAt.new k1 g1) (ItAt.new k2 g2)
  (p1.at λo e=>kp _ _ e) (p2.at λo e=>kp _ _ e) (by show l1 < (aJ s1.heap k1 k2 l1 l2).objs.size;rw[zZ];exact N0 (lt p1) (E3 _ _)) (by show l2 < (aJ s1.heap k1 k2 l1 l2).objs.size;rw[zZ];exact N0 (lt p2) (E3 _ _)) ?_
 ·rcases Nat.le_total ys1.length ys2.length with g|g
  ·exact .inl (by rw[Nat.min_eq_left g];simp;omega)
  ·exact .inr (by rw[Nat.min_eq_right g];simp;omega)
 intro h' tk acc c as hk hS hl hG hacc
 dsimp only at hk hS hG ⊢
 rw[zZ]at hS hG ⊢
 have hk':∀b o,s1.heap.get? b=some o->h'.get? b=some o:=λb o e=>by
  have hb:=B0 e
  exact hk b o (R0 (N0 hb (E3 _ _))) (R0 (N0 hb (E3 _ _))) (R0 hb) (R0 (N0 hb (E3 _ _))) (kp b o e)
 have hps:as.length=(eX ys1 ys2).length:=by rw[UV];exact hl
 have ps1:(as.zip (eX ys1 ys2)).map (·.1)=as:=List.map_fst_zip (by omega)
 have ps2:(as.zip (eX ys1 ys2)).map (·.2)=eX ys1 ys2:=List.map_snd_zip (by omega)
 have nd:as.Nodup:=hG.rise.imp λh=>R0 h
 have ab:∀a∈as,s1.heap.objs.size<=a:=λa m=>j5 (o4 (E3 _ 5) (hG.above a m))
 have hn:∀p∈as.zip (eX ys1 ys2),H1 p.1=none:=λp m=>I1.hok.fresh (ab _ (K4 (a:=p.1) (b:=p.2) m).1)
 have nd':((as.zip (eX ys1 ys2)).map (·.1)).Nodup:=by rw[ps1];exact nd
 have hSn:H1 (s1.heap.objs.size+5)=none:=I1.hok.fresh (E3 _ _)
 have hSa:s1.heap.objs.size+5∉(as.zip (eX ys1 ys2)).map (·.1):=by rw[ps1];exact λm=>A3 _ (hG.above _ m)
 refine ⟨.ref (s1.heap.objs.size+5),_,?_,rfl,q (as.zip (eX ys1 ys2)) _ nd' hn hSn hSa ps2⟩
 have hLS:FY H1 (as.zip (eX ys1 ys2)) (s1.heap.objs.size+5)=none:=by
  cases e:FY H1 (as.zip (eX ys1 ys2)) (s1.heap.objs.size+5) with
  | none=>rfl
  | some o =>
   rcases AK e with z|⟨xs,m,_⟩
   ·rw[hSn]at z;cases z
   ·exact absurd (K0.mpr ⟨_,m,rfl⟩) hSa
 have sub:∀b o,H1 b=some o->HQ (FY H1 (as.zip (eX ys1 ys2))) (s1.heap.objs.size+5) (.lst ((as.zip (eX ys1 ys2)).map λp=>V.ref p.1)) b=some o:=λb o e=>by
  rw[cQ (jQ e hSn)]
  exact VH nd' hn e
 refine I1.lays (t':=tk) hk' sub λb o e=>?_
 by_cases hb:b=s1.heap.objs.size+5
 ·subst hb
  rw[iQ]at e
  cases e
  refine .inr ⟨E3 _ _,?_,acc.toList,c,?_,by simpa using hS⟩
  ·rw[i0,<- i0 (f:=(·.1)),ps1];omega
  ·have hV:((as.zip (eX ys1 ys2)).map λp=>V.ref p.1)=as.map V.ref:=by
    have e:((as.zip (eX ys1 ys2)).map λp=>V.ref p.1)=((as.zip (eX ys1 ys2)).map (·.1)).map V.ref:=by rw[P0];rfl
    rw[e,ps1]
   rw[hacc,hV]
   have:∀l:List Addr,Vals (l.map V.ref) (l.map U1):=λl=>by
    induction l with
    | nil=>exact .nil
    | cons a l ih=>exact .cons rfl ih
   exact this as
 ·rw[cQ hb]at e
  rcases AK e with z|⟨xs,m,rfl⟩
  ·exact .inl z
  ·obtain⟨j,hj⟩:=G5.mp m
   obtain⟨ha',hp'⟩:=L5.mp hj
   obtain⟨x,y,e1,e2,e3⟩:=hG.pairs j b ha'
   obtain⟨x',f1,r1'⟩:=rv1.getV (by simpa using e1)
   obtain⟨y',f2,r2'⟩:=rv2.getV (by simpa using e2)
   have:=WV f1 f2
   rw[hp']at this
   cases this
   exact .inr ⟨ab _ (Y1 ha'),by show 2<=sizeLine;decide,[x,y],.cons r1' (.cons r2' .nil),_,e3,rfl,_,rfl,rfl⟩
end L2
namespace L3
open PySem PySem.Spec L2
theorem Vx{A:Around}{k:Nat}(hr:Room k A):A.units+2 < cLine:=o4 (g9 (by decide:2<=64) _) hr.units
noncomputable def UN:D->Option (List D)
 | .list ds=>some ds
 | .tuple ds=>some ds
 | _=>none
section
variable {K:Fg}{F H:Hp}
theorem At.seq{v:V}{d:D}{ds:List D}(s:Sub F H)(h:At K F H v d)(e:UN d=some ds):∃k a xs,v=.ref a/\Sq k K H a xs/\DaAll K F xs ds:=by
 cases d<;>first|cases e|skip
 ·obtain⟨a,xs,rfl,e1,d1⟩:=h.list s
  exact ⟨.l,a,xs,rfl,SqL.of e1,d1⟩
 ·obtain⟨a,xs,rfl,_,e1,d1⟩:=h.tuple s
  exact ⟨.t,a,xs,rfl,SqT.of e1,d1⟩
theorem WH{G:Gh}{σ:St}{ρ:Ev}:∀{ps:List (Addr×List V)}{ys1 ys2:List V}{ds es:List D}{F H:Hp},Rel K G F σ H ρ->(ps.map (·.1)).Nodup->(∀p∈ps,H p.1=none)->ps.map (·.2)=eX ys1 ys2->DaAll K F ys1 ds->DaAll K F ys2 es ->
  ∃F',Sub F F'/\Rel K G F' σ (FY H ps) ρ/\DaAll K F' (ps.map λp=>V.ref p.1) ((ds.zip es).map λp=>Z1 [p.1,p.2])
 | [],ys1,ys2,ds,es,F,H,R,_,_,e,d1,d2=>by
  refine ⟨F,Sub.refl _,R,?_⟩
  have:(ds.zip es)=[]:=by
   cases d1 with
   | nil=>rfl
   | cons _ _=>cases d2 with
    | nil=>simp
    | cons _ _=>simp[eX]at e
  rw[this]
  exact .nil
 | (a,xs) :: r,ys1,ys2,ds,es,F,H,R,nd,hn,e,d1,d2=>by
  cases d1 with
  | nil=>simp[eX]at e
  | @cons x ys1 d ds h1 t1 =>
   cases d2 with
   | nil=>simp[eX]at e
   | @cons y ys2 d' es h2 t2 =>
    simp only[eX,Z0,List.cons.injEq]at e
    obtain⟨e0,e⟩:=e
    have e0:xs=[x,y]:=e0
    subst e0
    have nd:=Z4.mp nd
    obtain⟨sb,R1,da⟩:=R.newTup (a:=a) (xs:=[x,y]) (ds:=[d,d']) (hn _ (.head _)) (.cons h1 (.cons h2 .nil))
    obtain⟨F',sb',R',da'⟩:=WH (ps:=r) R1 nd.2 (λp hp=>by
      rw[cQ (λq=>nd.1 (K0.mpr ⟨p,hp,q⟩))]
      exact hn p (u0 _ hp)) e (t1.mono sb) (t2.mono sb)
    exact ⟨F',sb.trans sb',R',.cons (da.mono sb') da'⟩
end
noncomputable def CP(K:Fg):List V->Hp->VK->Prop:=λvs H1 Q=>∃(k1:Kd) (l1:Addr) (ys1:List V) (k2:Kd) (l2:Addr) (ys2:List V),vs=[.ref l1,.ref l2]/\Sq k1 K H1 l1 ys1/\Sq k2 K H1 l2 ys2 /\
 ∀(ps:List (Addr×List V)) (S:Addr),(ps.map (·.1)).Nodup->(∀p∈ps,H1 p.1=none)->H1 S=none->S∉ps.map (·.1)->ps.map (·.2)=eX ys1 ys2->Q (.ref S) (HQ (FY H1 ps) S (.lst (ps.map λp=>V.ref p.1)))
noncomputable def cP:D->D->(Sl->Prop)->Prop:=λd e Q=>∃ds es,UN d=some ds/\UN e=some es/\Q (.ow (.list ((ds.zip es).map λp=>Z1 [p.1,p.2])))
theorem ML{K:Fg}:VQ K (CP K) (o2 cP):=by
 intro G F σ H ρ vs ds Q Qd R ha w k
 rcases ds with _|⟨d,_|⟨e,_|⟨e3,ds⟩⟩⟩<;>first|exact w.elim|skip
 ·obtain⟨v1,v2,rfl,h1,h2⟩:=ha.two
  obtain⟨ds,es,e1,e2,w⟩:=w
  obtain⟨k1,l1,ys1,rfl,q1,d1⟩:=h1.seq R.sub e1
  obtain⟨k2,l2,ys2,rfl,q2,d2⟩:=h2.seq R.sub e2
  refine ⟨k1,l1,ys1,k2,l2,ys2,rfl,q1,q2,λps S nd hn hS hSp hp=>?_⟩
  obtain⟨F',sb,R',da⟩:=WH R nd hn hp d1 d2
  have hS':FY H ps S=none:=by
   cases e:FY H ps S with
   | none=>rfl
   | some o =>
    rcases AK e with z|⟨xs,m,_⟩
    ·rw[hS]at z;cases z
    ·exact absurd (K0.mpr ⟨_,m,rfl⟩) hSp
  obtain⟨R2,r2⟩:=R'.newOw (o:=.lst _) (d:=.list _) hS' da
  exact k _ _ F' _ sb R2 r2 w
section
variable {X:Cx}{K:Fg}{e e1 e2:Expr}{a b:AD}{p pos pos' p2:Pos}
theorem VN(hK:X.K=K)(hc:X.calm=true)(hm:X.mg "list"=none)(hm2:X.mg "zip"=none)(ha:WA X [e1,e2] (tQ ([a,b].map (pQ K))))(hg:Gl X "list":=by rfl)(hg2:Gl X "zip":=by rfl)(he:wQ e1=true:=by rfl)(he2:wQ e2=true:=by rfl) :
  WE X (.Call (.Name "list" p) [.Call (.Name "zip" p2) [e1,e2] [] pos'] [] pos) (lift K (SZ [a,b] (o2 cP))):=by
 subst hK
 exact ⟨aV (LL hc hg hm hg2 hm2 ha.h (mQ he) (cX (by simp[he2])) (mQ rfl) (cX rfl)) λq=>xH ML q⟩
end
mutual
theorem ZJ:∀d:D,WQ d=true->SeqAt.noMix d d=true
 | .none,_=>by simp[SeqAt.noMix]
 | .bool _,_=>by simp[SeqAt.noMix]
 | .int _,_=>by simp[SeqAt.noMix]
 | .str _,_=>by simp[SeqAt.noMix]
 | .list xs,h=>by simp[SeqAt.noMix];exact noMixAll_self xs (by simpa [WQ]using h)
 | .tuple xs,h=>by simp[SeqAt.noMix];exact noMixAll_self xs (by simpa [WQ]using h)
 | .dict _,h=>by simp[WQ]at h
theorem noMixAll_self:∀xs:List D,plainAll xs=true->SeqAt.noMixAll xs xs=true
 | [],_=>by simp[SeqAt.noMixAll]
 | x :: xs,h=>by
  simp[plainAll]at h
  simp[SeqAt.noMixAll]
  exact ⟨ZJ x h.1,noMixAll_self xs h.2⟩
end
structure Nice(n:Nat)(d:D):Prop where
 p:WQ d=true
 c:d.canLay0=true
 d:d.depth<=n
theorem Nice.int(n:Nat)(i:Int):Nice n (.int i):=⟨rfl,by simp[S8],by simp[B9]⟩
theorem EW{n:Nat}:∀{l:List D},(∀d∈l,Nice n d)->plainAll l=true/\g8 l=true/\M8 l<=n
 | [],_=>⟨rfl,by simp[g8],by simp[M8]⟩
 | x :: l,h=>by
  have h1:=h x A0
  have h2:=EW (l:=l) λd hd=>h d (u0 _ hd)
  refine ⟨by simp[plainAll,h1.p,h2.1],by simp[g8,h1.c,h2.2.1],?_⟩
  have:=h1.d
  have:=h2.2.2
  simp[M8]
  omega
theorem Nice.list{n:Nat}{l:List D}(h:∀d∈l,Nice n d):Nice (n+1) (.list l):=by
 obtain⟨a,b,c⟩:=EW h
 exact ⟨by simp[WQ,a],by simp[S8,b],by simp[B9];omega⟩
theorem Nice.tuple{n:Nat}{l:List D}(h:∀d∈l,Nice n d):Nice (n+1) (.tuple l):=by
 obtain⟨a,b,c⟩:=EW h
 exact ⟨by simp[WQ,a],by simp[S8,b],by simp[B9];omega⟩
theorem Nice.tup(l:List Int):Nice 1 (.tuple (l.map n0)):=.tuple λd hd=>by
 obtain⟨i,_,rfl⟩:=K0.mp hd
 exact .int 0 i
theorem Nice.sh{n:Nat}{d:D}(h:Nice n d)(k:n<=64):SeqAt.shaped d=true:=by
 have:=h.d
 unfold SeqAt.shaped
 rw[h.c]
 simp
 omega
end L3
namespace L2
open PySem PySem.Spec PyProof.Rows
inductive PrsT (H:Hp):List (V×V)->List (List GQ×V)->Prop
 | nil:PrsT H [] []
 | cons {b ks v ps kvs}:H b=some (.tup (ks.map kV))->PrsT H ps kvs->PrsT H ((.ref b,v) :: ps) ((ks,v) :: kvs)
section
variable {X:Cx}{pins:List (Addr×Obj)}{σ:St}{a:Addr}{E:Value->Shared->Prop}
end
end L2
namespace L3
open PySem PySem.Spec PyProof.Rows L2
noncomputable def Yu(K:Fg):R2:=λx y H Q=>∃j,y=.int j/\MI K x none (some j) H Q
noncomputable def Zu:D->D->(Sl->Prop)->Prop
 | .tuple ds,.int j,Q=>(if j < 0 then 1<=ds.length else j < ds.length)/\Q (.fz (.tuple (ds.take (if j < 0 then (j+ds.length).toNat else j.toNat))))
 | _,_,_=>False
theorem My{K:Fg}:VQ K (DY (Yu K)) (o2 Zu):=ux λG F σ H ρ x y d e Q Qd R h1 h2 w k=>by
 match d,e,h1,h2,w with
 | .tuple ds,.int j,h1,h2,w =>
  cases h2.int
  obtain⟨a,us,rfl,f1,e1,d1⟩:=h1.tuple R.sub
  have hl:=d1.length
  have hs:HT.sIx us.length us.length (some j)=if j < 0 then (j+ds.length).toNat else j.toNat:=by
   show (if j < 0 then (j+(us.length:Int)).toNat else min j.toNat us.length)=_
   have:=w.1
   split at this<;>split<;>omega
  refine ⟨j,rfl,a,us,rfl,SqT.of e1,λz=>?_,λp hp=>?_⟩
  ·have z2:=z.2
   rw[hs]at z2
   have:=w.1
   split at this<;>split at z2<;>omega
  ·have e3:Rq us none (some j)=us.take (if j < 0 then (j+ds.length).toNat else j.toNat):=by
    unfold Rq
    rw[hs]
    rfl
   rw[e3]
   obtain⟨sb,R',dd⟩:=R.newTup hp (d1.take (if j < 0 then (j+ds.length).toNat else j.toNat))
   exact k _ _ _ (.fz _) sb R' dd w.2
section
variable {X:Cx}{K:Fg}{e e1 e2:Expr}{a b:AD}{ta tb:TD}{st:Stmt}{p pos p2 pos' px py pt:Pos}{x y:Str}
theorem FU(hK:X.K=K)(ha:WE X e1 (pQ K a))(hb:WE X e2 (pQ K b)):WE X (.Subscript e1 (.Slice none (some e2) none p2) pos) (lift K (SZ [a,b] (o2 Zu))):=by
 subst hK
 exact ⟨aV (Cj MB ha.h uv (vv hb.h)) λq=>Vv (P:=λx y H=>Yu X.K x y H _) (xH My q)⟩
end
end L3
namespace L2
open PySem PySem.Spec PyProof.Rows
section
variable {X:Cx}
theorem gY:OpR X (compareOp .IsNot) (λx y H Q=>∃c d,x=.bl c/\y=.bl d/\Q (.bl (!(c==d))) H):=by
 intro pins s σ H x y v u Q I rx ry h
 obtain⟨c,d,rfl,rfl,q⟩:=h
 cases rx
 cases ry
 exact isnot_bool ⟨.bl _,H,I,rfl,q⟩
end
end L2
namespace L3
open PySem PySem.Spec PyProof.Rows L2
noncomputable def DP:D->D->(Sl->Prop)->Prop
 | .bool c,.bool d,Q=>Q (.fz (.bool (c==d)))
 | _,_,_=>False
noncomputable def NL:D->D->(Sl->Prop)->Prop
 | .bool c,.bool d,Q=>Q (.fz (.bool (!(c==d))))
 | _,_,_=>False
theorem GU{K:Fg}:VQ K (DY λx y H Q=>∃c d,x=.bl c/\y=.bl d/\Q (.bl (!(c==d))) H) (o2 NL):=ux λG F σ H ρ x y d e Q Qd R h1 h2 w k=>by
 cases d<;>first|exact w.elim|skip
 cases e<;>first|exact w.elim|skip
 case bool.bool c d =>
  cases h1.bool
  cases h2.bool
  exact ⟨c,d,rfl,rfl,k _ H F (.fz _) (Sub.refl _) R (Da.bl _) w⟩
section
variable {X:Cx}{K:Fg}{x:Str}{pos:Pos}
end
end L3
namespace L2
open PySem PySem.Spec PyProof.Rows
noncomputable def WN:V->Int
 | .int i=>i
 | _=>0
theorem FW(l:List Int):(l.map V.int).map WN=l:=by rw[P0];exact M9 l
theorem Wx{l m:List Int}(e:l.map V.int=m.map V.int):l=m:=by rw[<- FW l,<- FW m,e]
noncomputable def KP(H:Hp)(p:List Int)(y:Value):Bool:=@decide (∃c,y=.ref c/\H c=some (.tup (p.map V.int))) (Classical.propDecidable _)
theorem vJ{ns:List Int}{us:List Value}(r:Vals (ns.map V.int) us){k:Nat}(h:k < us.length):∃t,us[k]=.int (ns.getD k 0) t:=by
 have hl:=r.length
 rw[i0]at hl
 have hk:k < ns.length:=by omega
 obtain⟨u,hu,ru⟩:=r.get (i:=k) (x:=.int ns[k]) (by rw[X0,L0 hk];rfl)
 obtain⟨t,e⟩:=ru
 rw[L0 h]at hu
 have hu:=S1 hu
 refine ⟨t,?_⟩
 rw[hu,e,B1,L0 hk]
 rfl
end L2
namespace L3
open PySem PySem.Spec PyProof.Rows L2
theorem Xx{H:Hp}{a:Addr}{o:HO}(e:H a=some o):HQ H a o=H:=by
 funext c;unfold HQ;split
 ·rename_i z;rw[z,e]
 ·rfl
theorem DaAll.ints_of{K:Fg}{F:Hp}{ys:List V}{p:List Int}(h:DaAll K F ys (p.map n0)):ys=p.map V.int:=by
 have e:p.map n0=(p.map λn=>(.inl n:GQ)).map YK:=by rw[P0];rfl
 rw[e]at h
 have:=h.keys
 rw[this,P0];rfl
end L3
namespace L2
open PySem PySem.Spec PyProof.Rows
noncomputable def EF(K:q0):List V->Hp->VK->Prop:=λxs H Q=>∃(a:Addr) (ns:List Int),xs=[.ref a]/\SqL K H a (ns.map V.int)/\ns.length < 64 /\
 ∀(p:Addr) (ns':List Int),H p=none->ns'.Perm ns->ns'.Pairwise (·<=·)->Q (.ref p) (HQ H p (.lst (ns'.map V.int)))
theorem BK:∀{vs:List Value}{ns:List Int},IntsAre vs ns->Vals (ns.map V.int) vs
 | _,_,.nil=>.nil
 | _,_,.cons n t r=>.cons ⟨t,rfl⟩ (BK r)
theorem FF{X:Cx}:hX X (.builtin "sorted") (EF X.K):=by
 intro pins s σ H xs us Q I r h
 obtain⟨a,ns,rfl,hs,h64,q⟩:=h
 obtain⟨u,rfl,ru⟩:=VZ r
 cases ru
 obtain⟨its,rv,⟨o,n,e,c,d1,d2⟩,hz⟩:=I.list hs
 have hl:=rv.length
 rw[i0]at hl
 refine sorted_ints (vs:=its) (ns:=ns) ⟨o,e,c,n,by first|exact d2|exact d1⟩ (tX rv) (by omega) λout ns' hI hp hw=>?_
 obtain⟨ep,he⟩:=sortedAll_at s.heap its out
 have hn:H (s.heap.objs.size+1)=none:=I.hok.fresh (Z7 _)
 have hl2:ns'.length=ns.length:=hp.length_eq
 refine ⟨.ref (s.heap.objs.size+1),HQ H (s.heap.objs.size+1) (.lst (ns'.map V.int)),I.laid (t':=s.toks) (λb u e=>sortedAll_old e) (Z7 _) ?_,rfl,q _ ns' hn hp hw⟩
 exact ⟨by rw[i0,sizeLine_eq];omega,out.toList,ep,BK hI,by rw[he]⟩
end L2
namespace L3
open PySem PySem.Spec PyProof.Rows L2
noncomputable def nE:D->(Sl->Prop)->Prop
 | .list ds,Q=>∃ns:List Int,ds=ns.map n0/\ns.length < 64/\∀ns':List Int,ns'.Perm ns->ns'.Pairwise (·<=·)->Q (.ow (.list (ns'.map n0)))
 | _,_=>False
theorem Yx{K:Fg}:VQ K (EF K) (o1 nE):=vx λG F σ H ρ x d Q Qd R h1 w k=>by
 match d,h1,w with
 | .list ds,h1,⟨ns,e,h64,w⟩ =>
  subst e
  obtain⟨a,us,rfl,e1,d1⟩:=h1.list R.sub
  have:=d1.ints_of
  subst this
  refine ⟨a,ns,rfl,SqL.of e1,h64,λp ns' hp h2 h3=>?_⟩
  obtain⟨R',r'⟩:=R.newOw (o:=.lst (ns'.map V.int)) (d:=.list (ns'.map n0)) hp (DaAll.ints ns')
  exact k _ _ F _ (Sub.refl _) R' r' (w ns' h2 h3)
theorem XH{X:Cx}{K:Fg}(h:X.K=K):hX X (.builtin "sorted") (EF K):=by subst h;exact FF
end L3
namespace L2
open PySem PySem.Spec PyProof.Rows
section
variable {prog:Program}{w:World}{A:Around}{E:Value->Shared->Prop}{s:Shared}
theorem GW{it t:Addr}{items:Array Value}(hne:t≠it):∀(n i:Nat) (s:Shared) (Q:List Value->Shared->Prop),s.heap.IsListIter it t i->s.heap.IsList t items->i+n<=items.size ->
  (∀h',h'.IsListIter it t (i+n)->h'.IsList t items->E7 it s.heap h'->Q ((items.toList.drop i).take n) { s with heap:=h' })->wpAny (model prog w) A (draw (.ref it) n) Q E s
 | 0,i,s,Q,hit,ht,_,hQ=>by
  show wpAny _ _ (pure []) Q E s
  exact wpAny_pure (by simpa using hQ s.heap hit ht (λ_ _ _ e=>e))
 | n+1,i,s,Q,hit,ht,hle,hQ=>by
  have hlt:i < items.size:=by omega
  show wpAny _ _ (pyNext (.ref it) >>= _) Q E s
  refine wpAny_bind (wpAny_pyNext_list_item hit ht (x:=items[i]) (by simp[hlt]) λh₁ hit₁ hs₁=>?_)
  have ht1:=ht.extBut hs₁.extBut hne
  refine wpAny_bind (wpAny_holding (GW hne n (i+1) _ _ hit₁ ht1 (by omega) λh₂ hit₂ ht2 hs₂=>wpAny_pure ?_))
  have hd:items.toList.drop i=items[i] :: items.toList.drop (i+1):=by simp[Y2,hlt]
  have:=hQ h₂ (by rw[show i+(n+1)=i+1+n by omega];exact hit₂) ht2 (λb o hb e=>hs₂ b o hb (hs₁.extBut b o hb e))
  rw[hd,i9]at this
  exact this
theorem CK{t:Addr}{items:Array Value}{Q:List Value->Shared->Prop}(hh:A.handled=none)(ht:s.heap.IsList t items)
  (hQ:∀h',E7 s.heap.objs.size s.heap h'->Q items.toList { s with heap:=h' }):wpAny (model prog w) A (unpackItems (.ref t) items.size none) Q E s:=by
 have hlt:t≠s.heap.objs.size:=by obtain⟨o,ho,_⟩:=ht;exact R0 (B0 ho)
 unfold unpackItems
 refine wpAny_bind ?_
 ·unfold notIterableAtAll
  refine wpAny_bind (wpAny_specialOf ht.typeIs slot_list_iter.lookup ?_)
  refine wpAny_pure ?_
  simp only[G3,if_false]
  refine wpAny_bind (wpAny_holding (wpAny_pyIter_list ht ?_))
  refine wpAny_bind (wpAny_holding (GW hlt items.size 0 _ _ ⟨_,J0 _ rfl,rfl,rfl⟩ (ht.push _) (by omega) λh₁ hit₁ ht₁ hs₁=>?_))
  have hall:List.take items.size (List.drop 0 items.toList)=items.toList:=by
   rw[T8];exact E4 (by simp)
  rw[hall]
  rw[if_neg (by simp)]
  refine wpAny_bind (wpAny_holding (wpAny_pyNext_list_end hh hit₁ ht₁ (by simp) λh₂ he₂=>?_))
  simp only[Option.isSome_none,G3,if_false]
  refine wpAny_pure (hQ h₂ λb o hb e=>he₂ b o hb (hs₁ b o hb (g0 _ e)))
theorem aK{env:Env}{elts:List Expr}{x1}{pos:Pos}{t:Addr}{items:Array Value}{Q:Unit->Shared->Prop}(hh:A.handled=none)(ht:s.heap.IsList t items)
  (hn:(assignEach elts env).length=items.size) (hstar:(assignEach elts env).findIdx? (·.1)=none)
  (h:∀h',E7 s.heap.objs.size s.heap h'->wpAny (model prog w) A (assignInOrder ((assignEach elts env).map (·.2)) items.toList) Q E { s with heap:=h' }) :
  wpAny (model prog w) A (assign (.Tuple elts x1 pos) env (.ref t)) Q E s:=by
 rw[arm_assign_Tuple]
 refine wpAny_bind (wpAny_standAt ?_)
 unfold unpack
 rw[hn,hstar]
 exact wpAny_bind (wpAny_holding (CK hh ht h))
theorem Zx{l:Addr}{xs:Array (Int×Tok)}{Q:Value->Shared->Prop}(hh:A.handled=none)(ht:s.heap.IsTuple l (intItems xs))(hne:0 < xs.size)
  (h:∀v h' tk,(intItems xs)[argBest (λi j=>decide (numAt xs i > numAt xs j)) (xs.size - 1)]?=some v->(∀b o,s.heap.get? b=some o->h'.get? b=some o)->Q v { s with heap:=h',toks:=tk }) :
  wpAny (model prog w) A (call (.builtin "max") [.ref l]) Q E s:=by
 obtain⟨o,ho,hc,n,hd⟩:=id ht
 have hn:l≠s.heap.objs.size:=R0 (B0 ho)
 refine call_max_walk (wpAny_pyIter_tuple ht ?_)
 refine ⟨s.heap.objs.size,_,_,_,_,_,_,rfl,Walks.tuple (A:=A.in1) hh _ l hn (intItems xs),⟨⟨_,J0 _ rfl,rfl,rfl⟩,ht.push _⟩,λb hb=>?_,by simpa [intItems]using hne,CmpOf.ints_gt (numAt xs) (λ_ _=>intItems_at),λv h' tk hP hk=>?_⟩
 ·rcases B2.mp hb with rfl|hb
  ·exact B0 (J0 _ rfl)
  ·obtain rfl:=K2.mp hb
   exact B0 (g0 _ ho)
 ·exact h v h' tk (by simpa [intItems]using hP) λb o e=>hk b o (λhb=>absurd (B0 e) ((K2.mp hb) ▸ A3 _)) (g0 _ e)
end
noncomputable def OL(K:q0)(n:Nat)(t:cj):TG:=λv σ H Q=>∃a xs,v=.ref a/\SqL K H a xs/\xs.length=n/\t xs σ H Q
theorem oE{X:Cx}{pos:Pos}{es:List Expr}{k:Nat}{t:cj}{n:Nat}(hc:X.calm=true)(h:cv X es t)
  (hn:(assignEach es X.env).length=n:=by rfl) (hst:(assignEach es X.env).findIdx? (·.1)=none:=by rfl):PG X (.Tuple es k pos) (OL X.K n t):=by
 intro pins s σ H v u Q I r hw
 obtain⟨a,xs,e1,hq,hl,hw⟩:=hw
 subst e1
 cases r
 obtain⟨its,rv,p,hz⟩:=I.list hq
 refine aK (I.ok.hd hc) p.isList (by simp[hn,<- hl,rv.length]) hst λh' hx=>?_
 have I1:Inv X pins σ H { s with heap:=h' }:=I.kept (t':=s.toks) λb o e=>hx b o (R0 (B0 e)) e
 exact h pins _ σ H xs _ Q I1 (by simpa using rv) hw
noncomputable def PL(K:q0):List V->Hp->VK->Prop:=λxs H Q=>∃(a:Addr) (ns:List Int),xs=[.ref a]/\(SqL K H a (ns.map V.int)\/SqT K H a (ns.map V.int))/\0 < ns.length/\∀M,M∈ns->(∀y∈ns,y<=M)->Q (.int M) H
theorem ck{X:Cx}{K:q0}(hK:X.K=K)(hc:X.calm=true):hX X (.builtin "max") (PL K):=by
 subst hK
 intro pins s σ H xs us Q I r h
 obtain⟨a,ns,rfl,hq,hp,q⟩:=h
 obtain⟨u,rfl,ru⟩:=VZ r
 cases ru
 have hh:=I.ok.hd hc
 have fin:∀{its:List Value}{zs:Array (Int×Tok)},Vals (ns.map V.int) its->its.toArray=intItems zs->0 < zs.size/\∀(v:Value) (h':Heap) (tk:Nat),(intItems zs)[argBest (λi j=>decide (numAt zs i > numAt zs j)) (zs.size - 1)]?=some v->(∀b o,s.heap.get? b=some o->h'.get? b=some o)->EP X pins σ Q v { s with heap:=h',toks:=tk }:=by
  intro its zs rv e
  have hi:IntsAre its ns:=tX rv
  have hns:ns=zs.toList.map (·.1):=by rw[<- nums_intItems,<- e];exact (show numsOf its.toArray.toList=ns from hi.numsOf).symm
  have hsz:0 < zs.size:=by have h3:=hp;rw[hns,i0,U0]at h3;exact h3
  refine ⟨hsz,λv h' tk hv hk=>?_⟩
  obtain⟨t,rfl⟩:=intItems_at hv
  obtain⟨h1,h2⟩:=argBest_gt (numAt zs) (zs.size - 1)
  refine ⟨.int _,H,I.kept hk,⟨t,rfl⟩,q _ ?_ λy hy=>?_⟩
  ·rw[hns,numAt_eq];exact getD_mem (by rw[i0,U0];omega)
  ·rw[hns]at hy
   obtain⟨j,hj,rfl⟩:=mem_getD hy
   rw[i0,U0]at hj
   rw[<- numAt_eq];exact h2 j (by omega)
 rcases hq with hq|hq
 ·obtain⟨its,rv,p,hz⟩:=I.list hq
  obtain⟨zs,hx⟩:=(tX rv).allInts.items
  obtain⟨hs,f⟩:=fin rv hx
  exact max_intList hh (hx ▸ p.isList) hs f
 ·obtain⟨its,rv,p,hz⟩:=I.tuple hq
  obtain⟨zs,hx⟩:=(tX rv).allInts.items
  obtain⟨hs,f⟩:=fin rv hx
  exact Zx hh (show s.heap.IsTuple a (intItems zs) from hx ▸ p) hs f
end L2
namespace L3
open PySem PySem.Spec PyProof.Rows L2
noncomputable def XN(gs:List WZ):WZ:=λd ρ Q=>match d with
 | .list ds=>ds.length=gs.length/\YM gs ds ρ Q
 | _=>False
section
variable {K:Fg}{σ:L2.St}{H:Hp}{v:V}{Q:L2.St->Hp->Prop}
theorem YN{gs:List WZ}{n:Nat}(hn:gs.length=n)(h:RQ K (XN gs) v σ H Q):OL K n (CY (gs.map (RQ K))) v σ H Q:=by
 obtain⟨G,F,ρ,d,Qd,R,hd,w,k⟩:=h
 unfold XN at w
 split at w
 ·cases hd with
  | lst e t=>exact ⟨_,_,rfl,SqL.of (R.sub _ _ e),by rw[t.length,w.1,hn],uC R t w.2 k⟩
 ·exact w.elim
end
theorem QL{X:Cx}{K:Fg}{es:List Expr}{pos:Pos}{gs:List WZ}{k:Nat}(hK:X.K=K)(hc:X.calm=true)(hh:WGs X es (CY (gs.map (RQ K))))(hn:(assignEach es X.env).length=gs.length:=by rfl)(hst:(assignEach es X.env).findIdx? (·.1)=none:=by rfl):WG X (.Tuple es k pos) (RQ K (XN gs)):=by
 subst hK
 exact ⟨ON (oE hc hh.h hn hst) (YN rfl)⟩
noncomputable def FP:D->(Sl->Prop)->Prop
 | .list ds,Q=>∃ns:List Int,ds=ns.map n0/\0 < ns.length/\∀M,M∈ns->(∀y∈ns,M<=y)->Q (.fz (.int M))
 | .tuple ds,Q=>∃ns:List Int,ds=ns.map n0/\0 < ns.length/\∀M,M∈ns->(∀y∈ns,M<=y)->Q (.fz (.int M))
 | _,_=>False
noncomputable def ZN:D->(Sl->Prop)->Prop
 | .list ds,Q=>∃ns:List Int,ds=ns.map n0/\0 < ns.length/\∀M,M∈ns->(∀y∈ns,y<=M)->Q (.fz (.int M))
 | .tuple ds,Q=>∃ns:List Int,ds=ns.map n0/\0 < ns.length/\∀M,M∈ns->(∀y∈ns,y<=M)->Q (.fz (.int M))
 | _,_=>False
theorem pE{K:Fg}:VQ K (PL K) (o1 ZN):=vx λG F σ H ρ x d Q Qd R h1 w k=>by
 match d,h1,w with
 | .list ds,h1,⟨ns,e,hp,w⟩ =>
  subst e
  obtain⟨a,us,rfl,e1,d1⟩:=h1.list R.sub
  have:=d1.intsV
  subst this
  exact ⟨a,ns,rfl,.inl (SqL.of e1),hp,λM m1 m2=>k _ H F (.fz _) (Sub.refl _) R (Da.int _) (w M m1 m2)⟩
 | .tuple ds,h1,⟨ns,e,hp,w⟩ =>
  subst e
  obtain⟨a,us,rfl,_,e1,d1⟩:=h1.tuple R.sub
  have:=d1.intsV
  subst this
  exact ⟨a,ns,rfl,.inr (SqT.of e1),hp,λM m1 m2=>k _ H F (.fz _) (Sub.refl _) R (Da.int _) (w M m1 m2)⟩
open PySem PySem.Spec L2
section
variable {K:Fg}{G:Gh}{F F' H H':Hp}{σ:L2.St}{ρ:Ev}
theorem Rel.grown(R:Rel K G F σ H ρ)(sb:Sub F F')(su:Sub F' H')(fn:∀b o,F' b=some o->F b=some o\/H b=none)(kp:∀b o,H b=some o->H' b=some o):Rel K G F' σ H' ρ:=by
 refine ⟨R.len,su,R.sub0.trans sb,λb o e=>?_,λa o e n=>kp _ _ (R.keep a o e n),λi d e=>?_,λi s e w=>?_,R.new,R.io,R.ioi,R.ap⟩
 ·rcases fn b o e with q|q
  ·exact R.fn b o q
  ·exact .inr (R.h0 q)
 ·obtain⟨v,h1,h2⟩:=R.fz i d e
  exact ⟨v,h1,h2.mono sb⟩
 ·obtain⟨a,o,h1,h2,h3,h4⟩:=R.ow i s e w
  refine ⟨a,o,h1,?_,kp _ _ h3,h4.mono sb⟩
  cases q:F' a with
  | none=>rfl
  | some u =>
   rcases fn a u q with z|z
   ·rw[h2]at z;cases z
   ·rw[h3]at z;cases z
noncomputable def aO(a b:Addr):Nat->Option Addr:=λj=>match j with
 | 0=>some a
 | 2=>some b
 | _=>none
theorem YH{a b c:Addr}{j:Nat}(h:aO a b j=some c):(j=0/\c=a)\/(j=2/\c=b):=by
 unfold aO at h
 split at h
 ·cases h;exact .inl ⟨rfl,rfl⟩
 ·cases h;exact .inr ⟨rfl,rfl⟩
 ·cases h
theorem GF{v:V}{d2 d e:D}{a b:Addr}{o p:HO}(s:Sub F H)(hab:a≠b)(h1:F a=none)(h2:H a=some o)(h3:Own1 K F o d)(g1:F b=none)(g2:H b=some p)(g3:Own1 K F p e)(da:Da K F v d2) :
  Rel K ⟨H,F,aO a b⟩ F [some (.ref a),some v,some (.ref b)] H [some (.io d),some (.fz d2),some (.io e)] where
 len:=rfl
 sub:=s
 sub0:=Sub.refl _
 fn:=λ_ _ e=>.inl e
 keep:=λ_ _ e _=>e
 fz:=λi d' q=>by
  match i,q with
  | 0,q=>cases q
  | 1,q=>cases q;exact ⟨v,rfl,da⟩
  | 2,q=>cases q
  | i+3,q=>cases q
 ow:=λi t q w=>by
  match i,q with
  | 0,q=>cases q;exact ⟨a,o,rfl,h1,h2,h3⟩
  | 1,q=>cases q;cases w
  | 2,q=>cases q;exact ⟨b,p,rfl,g1,g2,g3⟩
  | i+3,q=>cases q
 new:=λi d' c q _=>by
  match i,q with
  | 0,q=>cases q
  | 1,q=>cases q
  | 2,q=>cases q
  | i+3,q=>cases q
 io:=λi c q=>by
  rcases YH q with⟨rfl,rfl⟩|⟨rfl,rfl⟩
  ·exact ⟨d,rfl,rfl⟩
  ·exact ⟨e,rfl,rfl⟩
 ioi:=λi d' q=>by
  match i,q with
  | 0,q=>exact ⟨a,rfl⟩
  | 1,q=>cases q
  | 2,q=>exact ⟨b,rfl⟩
  | i+3,q=>cases q
 ap:=λi j t u c e1 w1 e2 w2 x1 x2=>by
  match i,e1,x1,j,e2,x2 with
  | 0,_,_,0,_,_=>rfl
  | 2,_,_,2,_,_=>rfl
  | 0,_,x1,2,_,x2=>cases x1;cases x2;exact (hab rfl).elim
  | 2,_,x1,0,_,x2=>cases x1;cases x2;exact (hab rfl).elim
  | 1,e1,_,_,_,_=>cases e1;cases w1
  | i+3,e1,_,_,_,_=>cases e1
  | 0,_,_,1,e2,_=>cases e2;cases w2
  | 0,_,_,j+3,e2,_=>cases e2
  | 2,_,_,1,e2,_=>cases e2;cases w2
  | 2,_,_,j+3,e2,_=>cases e2
noncomputable def HU(con:Con)(i m j:Nat):TD:=λρ Q=>match ρ[i]?,ρ[m]?,ρ[j]? with
 | some (some s),some (some (.fz d)),some (some t)=>LQ s=true/\LQ t=true/\i≠j/\con [.io s.d,.fz d,.io t.d] λr outs=>match outs with
  | some (.io d') :: _ :: some (.io e') :: _=>Q r ((ρ.set i (some (s.put d'))).set j (some (t.put e')))
  | _=>False
 | _,_,_=>False
theorem fk{con:Con}{i m j:Nat}{E:XK}{Q:VK}(h:lift K (HU con i m j) σ H Q):vY (eQ K con) [] E (tQ ([.inl i,.inl m,.inl j].map (pQ K))) σ H Q:=by
 obtain⟨G,F,ρ,Qd,R,w,k⟩:=h
 unfold HU at w
 split at w
 ·rename_i s d t e1 e2 e3
  obtain⟨w1,w2,hij,w⟩:=w
  obtain⟨a,o,a1,a2,a3,a4⟩:=R.ow i s e1 w1
  obtain⟨b,p,b1,b2,b3,b4⟩:=R.ow j t e3 w2
  obtain⟨v,v1,v2⟩:=R.fz m d e2
  have hab:a≠b:=λz=>hij (R.ap i j s t a e1 w1 e3 w2 a1 (by rw[b1,z]))
  refine ⟨_,a1,_,v1,_,b1,?_⟩
  refine ⟨_,F,[.io s.d,.fz d,.io t.d],_,GF R.sub hab a2 a3 a4 b2 b3 b4 v2,w,λu H' F' r ρ' s' R' r' q=>?_⟩
  split at q
  ·rename_i d' y e' ρ2
   obtain⟨a',oa,x1,x2,x3,x4⟩:=R'.ow 0 (.io d') rfl rfl
   cases x1
   obtain⟨b',pb,y1,y2,y3,y4⟩:=R'.ow 2 (.io e') rfl rfl
   cases y1
   have R1:Rel K G F' σ (HQ (HQ H' a o) b p) ρ:=by
    refine R.grown R'.sub0 (λc u z=>?_) (λc u z=>R'.fn c u z) λc u z=>?_
    ·have n1:c≠a:=λe=>by rw[e,x2]at z;cases z
     have n2:c≠b:=λe=>by rw[e,y2]at z;cases z
     rw[cQ n2,cQ n1]
     exact R'.sub _ _ z
    ·by_cases n2:c=b
     ·subst n2;rw[iQ,<- b3,z]
     ·rw[cQ n2]
      by_cases n1:c=a
      ·subst n1;rw[iQ,<- a3,z]
      ·rw[cQ n1]
       refine R'.keep c u z λl zl=>?_
       rcases YH zl with⟨_,h⟩|⟨_,h⟩
       ·exact n1 h
       ·exact n2 h
   have R2:=R1.change (o':=oa) (d':=d') e1 w1 a1 x4
   have e3':(ρ.set i (some (s.put d')))[j]?=some (some t):=by rw[O0 hij];exact e3
   have R3:=R2.change (o':=pb) (d':=e') e3' w2 b1 y4
   have eh:HQ (HQ (HQ (HQ H' a o) b p) a oa) b pb=H':=by
    funext c
    by_cases n2:c=b
    ·subst n2;rw[iQ];exact y3.symm
    ·rw[cQ n2]
     by_cases n1:c=a
     ·subst n1;rw[iQ];exact x3.symm
     ·rw[cQ n1,cQ n2,cQ n1]
   rw[eh]at R3
   refine k u H' F' r _ s' R3 ?_ q
   cases r with
   | fz d=>exact r'
   | io d=>exact r'.elim
   | ow d =>
    obtain⟨c,x,h1,h2,h3,h4,h5,_⟩:=r'
    have h5:H c=none:=h5
    refine ⟨c,x,h1,h2,h3,h4,R.h0 h5,λl t' es wt z=>?_⟩
    have own:∃t'',ρ[l]?=some (some t'')/\LQ t''=true:=by
     rcases oQ es with⟨rfl,q⟩|⟨n,q⟩
     ·exact ⟨t,e3,w2⟩
     ·rcases oQ q with⟨rfl,q⟩|⟨n,q⟩
      ·exact ⟨s,e1,w1⟩
      ·exact ⟨t',q,wt⟩
    obtain⟨t'',q1,q2⟩:=own
    obtain⟨c',o',z1,_,z3,_⟩:=R.ow l t'' q1 q2
    rw[z]at z1;cases z1
    rw[h5]at z3;cases z3
  ·exact q.elim
 ·exact w.elim
noncomputable def gk:Sl->Bool
 | .fz d=>noMut d
 | .ow (.list ds)=>noMutAll ds
 | _=>false
noncomputable def ik(con:Con)(as:List AD):TD:=λρ Q=>yX as ρ λxs ρ1=>PQ ρ1 xs λds=>con (ds.map Sl.fz) λr _=>gk r=true/\Q r ρ1
theorem Res.calledL{xs:List wU}(R:Rel K G F σ H ρ){σ1:L2.St}{ρ1:Ev}{v:V}{r:Sl}(R':Rel K ⟨H,qJ σ ρ xs F H,λ_=>none⟩ F' σ1 H' ρ1)(q:Res K ⟨H,qJ σ ρ xs F H,λ_=>none⟩ F' H' σ1 ρ1 v r)
  (hl:gk r=true):Res K G (LX σ ρ xs F') H' σ ρ v r:=by
 have tp:∀b ys,F' b=some (.tup ys)->LX σ ρ xs F' b=some (.tup ys):=λb ys e=>by
  have n:¬LentA σ ρ xs b:=λz=>by
   obtain⟨_,_,o,_,_,_,_,h,w⟩:=z.own R
   have e2:=R'.sub0 b o (by show qJ σ ρ xs F H b=some o;rw[OY z];exact h)
   rw[e]at e2;cases e2
   exact w
  rw[WX n];exact e
 cases r with
 | fz d=>exact Da.noMut tp q hl
 | io d=>exact q.elim
 | ow d =>
  obtain⟨a,o,h1,h2,h3,h4,h5,_⟩:=q
  have h5:H a=none:=h5
  have nl:¬LentA σ ρ xs a:=λz=>by
   obtain⟨_,_,o,_,_,_,_,h,w⟩:=z.own R
   rw[h5]at h;cases h
  refine ⟨a,o,h1,by rw[WX nl];exact h2,h3,?_,R.h0 h5,λi s es w z=>?_⟩
  ·cases d with
   | list ds =>
    cases o with
    | lst ys=>exact DaAll.noMut tp h4 hl
    | _=>exact h4.elim
   | _=>cases hl
  ·obtain⟨a',o',g1,_,g3,_⟩:=R.ow i s es w
   rw[z]at g1;cases g1
   rw[h5]at g3;cases g3
theorem Ny{con:Con}{as:List AD}{E:XK}{Q:VK}(h:lift K (ik con as) σ H Q):vY (eQ K con) [] E (tQ (as.map (pQ K))) σ H Q:=by
 obtain⟨G,F,ρ,Qd,R,w,k⟩:=h
 refine lX R w λvs H1 F1 xs ρ1 s1 R1 o w1=>?_
 obtain⟨ds,da,w1⟩:=xW (xs:=xs) R1 (λy hy=>hy) o w1
 rw[P2]
 refine ⟨_,_,ds.map Sl.fz,_,FH (wD R1) da,w1,λv H' F' r ρ' s' R' r' q=>?_⟩
 obtain⟨sb,R2⟩:=R1.called R'
 exact k v H' _ r ρ1 (s1.trans sb) R2 (Res.calledL R1 R' r' q.1) q.2
end
section
variable {X:Cx}{K:Fg}{e:Expr}{es:List Expr}{as:List AD}{x:Str}{p pos:Pos}
theorem jk{k:Nat}{ps:List Str}{con:Con}(C:Cal X.prog X.w X.K X.mg X.base k x ps (eQ K con))(hr:Room k X.A)(ha:WA X (e :: es) (tQ (as.map (pQ K))))(hg:Gl X x:=by rfl)(hdb:(x==("__debug__":Str))=false:=by decide)
  (he:wQ e=true:=by rfl) (hpl:es.all wQ=true:=by rfl):WE X (.Call (.Name x p) (e :: es) [] pos) (lift K (ik con as)):=⟨aV (sD C hr ha.h hg hdb (mQ he) (cX hpl)) Ny⟩
theorem qE{k i m j:Nat}{ps:List Str}{con:Con}(C:Cal X.prog X.w X.K X.mg X.base k x ps (eQ K con))(hr:Room k X.A)(ha:WA X (e :: es) (tQ ([Sum.inl i,Sum.inl m,Sum.inl j].map (pQ K))))(hg:Gl X x:=by rfl)(hdb:(x==("__debug__":Str))=false:=by decide)
  (he:wQ e=true:=by rfl) (hpl:es.all wQ=true:=by rfl):WE X (.Call (.Name x p) (e :: es) [] pos) (lift K (HU con i m j)):=⟨aV (sD C hr ha.h hg hdb (mQ he) (cX hpl)) fk⟩
end
end L3
namespace SG
open PySem PyProof.Rows
noncomputable def Hz:Bool->Keyed->Array Keyed->Nat->Nat->Nat->StateT SortSt Sem (Option Nat):=sortPriv% PySem.Builtin.gallop
noncomputable def bN:Array Keyed->Array Keyed->StateT SortSt Sem (Array Keyed):=sortPriv% PySem.Builtin.mergeLo
noncomputable def cN:Array Keyed->Array Keyed->StateT SortSt Sem (Array Keyed):=sortPriv% PySem.Builtin.mergeHi
noncomputable abbrev DK(z:SortSt)(g:Nat):SortSt:=SortSt.mk' (kindOf z) (arrOf z) (pendingOf z) g (failedOf z)
theorem rE(lf:Bool)(ky:Keyed)(xs:Array Keyed)(bs n ht:Nat):Hz lf ky xs bs n ht=(do
    let ov (i:Nat):StateT SortSt Sem (Option Bool):=do
      let z<-elem' xs (bs+i)
      if lf then lt' z ky else return (<- lt' ky z).map (!·)
    let mut la:=0
    let mut o:=1
    let mut l:=0
    let mut h:=0
    let some rt<-ov ht|return none
    if rt then
      let mx:=n - ht
      for _ in [0:n] do
        if o ≥ mx then break
        let some mo<-ov (ht+o)|return none
        if !mo then break
        la:=o
        o:=2 * o+1
      l:=ht+la+1
      h:=ht+min o mx
    else
      let mx:=ht+1
      for _ in [0:n] do
        if o ≥ mx then break
        let some fo<-ov (ht - o)|return none
        if fo then break
        la:=o
        o:=2 * o+1
      l:=ht+1 - min o mx
      h:=ht - la
    for _ in [0:n] do
      if l ≥ h then break
      let m:=l+(h - l) / 2
      let some mo<-ov m|return none
      if mo then l:=m+1 else h:=m
    return some h):=rfl
section
variable {prog:Program}{w:World}{A:Around}{E:Value->Shared->Prop}{s:Shared}{κ:SortKind}{rk:Keyed->Nat}{S:Keyed->Prop}
noncomputable def kZ(prog:Program)(w:World)(A:Around)(s:Shared)(κ:SortKind)(rk:Keyed->Nat)(S:Keyed->Prop):Prop :=
 ∀x y:Keyed,S x->S y->∀Q:Bool->Shared->Prop,Q (decide (rk x < rk y)) s->wpAny (model prog w) A (keyLt' κ x.1 y.1) Q (λ_ _=>False) s
theorem w_lt(q:kZ prog w A s κ rk S){x y:Keyed}{st:SortSt}{Q:Option Bool->SortSt->Prop}(hk:kindOf st=κ)(hx:S x)(hy:S y)(h:Q (some (decide (rk x < rk y))) st) :
  wpS (model prog w) A E s (lt' x y) Q st:=by
 rw[lt'_eq]
 refine wpS_bind (wpS_get ?_)
 rw[hk]
 refine wpS_bind (wpS_lift (wpAny_attempt (wpAny_mono (q x y hx hy (λb s'=>b=decide (rk x < rk y)/\s'=s) ⟨rfl,rfl⟩) (λb s' e=>?_) λ_ _ e=>e.elim)))
 obtain⟨rfl,rfl⟩:=e
 exact ⟨rfl,wpS_pure h⟩
theorem SQ{xs:Array Keyed}{i:Nat}{st:SortSt}{Q:Keyed->SortSt->Prop}(hi:i < xs.size)(h:Q xs[i] st):wpS (model prog w) A E s (elem' xs i) Q st:=by
 rw[elem'_eq,getElem?_pos xs i hi]
 exact wpS_pure h
noncomputable def Ov(prog:Program)(w:World)(A:Around)(E:Value->Shared->Prop)(s:Shared)(n:Nat)(b:Nat->Bool)(st:SortSt)(ov:Nat->StateT SortSt Sem (Option Bool)):Prop :=
 ∀i,i < n->∀Q:Option Bool->SortSt->Prop,Q (some (b i)) st->wpS (model prog w) A E s (ov i) Q st
noncomputable def RL(ov:Nat->StateT SortSt Sem (Option Bool))(n l₀ h₀:Nat):StateT SortSt Sem (Option Nat):=do
 let mut l:=l₀
 let mut h:=h₀
 for _ in [0:n] do
  if l ≥ h then break
  let m:=l+(h - l) / 2
  let some mo<-ov m|return none
  if mo then l:=m+1 else h:=m
 return some h
theorem w_bin{ov:Nat->StateT SortSt Sem (Option Bool)}{n l h':Nat}{b:Nat->Bool}{st:SortSt}{Q:Option Nat->SortSt->Prop}(hO:Ov prog w A E s n b st ov)
  (hm:∀i j,i<=j->j < n->b j=true->b i=true) (h1:l<=h') (h2:h'<=n) (h3:∀i,i < l->b i=true) (h4:∀i,h'<=i->i < n->b i=false)
  (h:∀k,k<=n->(∀i,i < k->b i=true)->(∀i,k<=i->i < n->b i=false)->Q (some k) st):wpS (model prog w) A E s (RL ov n l h') Q st:=by
 unfold RL
 refine wpS_bind (wpS_mono (wpS_forRange (I:=λx c st'=>st'=st/\∃l h',c=(none,l,h')/\l<=h'/\h'<=n/\h' - l<=n - x/\(∀i,i < l->b i=true)/\∀i,h'<=i->i < n->b i=false)
   (Q:=λc st'=>st'=st/\∃k,c=(none,k,k)/\k<=n/\(∀i,i < k->b i=true)/\∀i,k<=i->i < n->b i=false) ?step ?fin ⟨rfl,l,h',rfl,h1,h2,by omega,h3,h4⟩) ?post)
 case fin =>
  rintro c st' ⟨rfl,l,h',rfl,a1,a2,a3,a4,a5⟩
  have:l=h':=by omega
  subst this
  exact ⟨rfl,l,rfl,a2,a4,a5⟩
 case post =>
  rintro c st' ⟨rfl,k,rfl,a1,a2,a3⟩
  exact wpS_pure (h k a1 a2 a3)
 case step =>
  rintro x c st' _ hx ⟨rfl,l,h',rfl,a1,a2,a3,a4,a5⟩
  dsimp only
  by_cases hge:l ≥ h'
  ·rw[if_pos hge]
   have:l=h':=by omega
   subst this
   exact wpS_pure ⟨rfl,l,rfl,a2,a4,a5⟩
  ·rw[if_neg hge]
   refine wpS_bind (hO _ (by omega) _ ?_)
   cases hb:b (l+(h' - l) / 2) with
   | true =>
    refine wpS_pure ⟨rfl,_,_,rfl,by omega,a2,by omega,λi hi=>hm _ _ (by omega) (by omega) hb,a5⟩
   | false =>
    refine wpS_pure ⟨rfl,_,_,rfl,by omega,by omega,by omega,a4,λi i1 i2=>?_⟩
    cases hbi:b i with
    | false=>rfl
    | true=>rw[hm _ _ i1 i2 hbi]at hb;cases hb
theorem SL{lf:Bool}{ky:Keyed}{xs:Array Keyed}{bs n ht:Nat}{st:SortSt}{Q:Option Nat->SortSt->Prop}{b:Nat->Bool}
  (hO:Ov prog w A E s n b st (λi=>do
    let z<-elem' xs (bs+i)
    if lf then lt' z ky else return (<- lt' ky z).map (!·)))
  (hm:∀i j,i<=j->j < n->b j=true->b i=true) (hh:ht < n)
  (h:∀k,k<=n->(∀i,i < k->b i=true)->(∀i,k<=i->i < n->b i=false)->Q (some k) st):wpS (model prog w) A E s (Hz lf ky xs bs n ht) Q st:=by
 rw[rE]
 generalize hov:(λi=>(do
     let z<-elem' xs (bs+i)
     if lf then lt' z ky else return (<- lt' ky z).map (!·):StateT SortSt Sem (Option Bool)))=ov at hO
 dsimp only
 clear hov
 refine wpS_bind (hO ht hh _ ?_)
 cases hb:b ht with
 | true =>
  dsimp only
  rw[if_pos rfl]
  refine wpS_bind (wpS_mono (wpS_forRange (I:=λx c st'=>st'=st/\∃la o:Nat,c=(none,la,o)/\la < o/\x+1<=o/\ht+la < n/\b (ht+la)=true)
    (Q:=λc st'=>st'=st/\∃la o:Nat,c=(none,la,o)/\la < o/\ht+la < n/\b (ht+la)=true/\(n - ht<=o\/b (ht+o)=false)) ?step ?fin ⟨rfl,0,1,rfl,by omega,by omega,by omega,hb⟩) ?post)
  case fin =>
   rintro c st' ⟨rfl,la,o,rfl,a1,a2,a3,a4⟩
   exact ⟨rfl,la,o,rfl,a1,a3,a4,.inl (by omega)⟩
  case step =>
   rintro x c st' _ hx ⟨rfl,la,o,rfl,a1,a2,a3,a4⟩
   dsimp only
   by_cases hge:o ≥ n - ht
   ·rw[if_pos hge]
    exact wpS_pure ⟨rfl,la,o,rfl,a1,a3,a4,.inl hge⟩
   ·rw[if_neg hge]
    refine wpS_bind (hO _ (by omega) _ ?_)
    cases hbo:b (ht+o) with
    | true=>exact wpS_pure ⟨rfl,o,2 * o+1,rfl,by omega,by omega,by omega,hbo⟩
    | false=>exact wpS_pure ⟨rfl,la,o,rfl,a1,a3,a4,.inr hbo⟩
  case post =>
   rintro c st' ⟨rfl,la,o,rfl,a1,a3,a4,a5⟩
   refine w_bin hO hm (l:=ht+la+1) (h':=ht+min o (n - ht)) (by omega) (by omega) (λi hi=>hm _ _ (by omega) a3 a4) (λi i1 i2=>?_) h
   rcases a5 with a5|a5
   ·omega
   ·cases hbi:b i with
    | false=>rfl
    | true=>rw[hm (ht+o) i (by omega) i2 hbi]at a5;cases a5
 | false =>
  dsimp only
  rw[if_neg (by decide)]
  refine wpS_bind (wpS_mono (wpS_forRange (I:=λx c st'=>st'=st/\∃la o:Nat,c=(none,la,o)/\la < o/\x+1<=o/\la<=ht/\b (ht - la)=false)
    (Q:=λc st'=>st'=st/\∃la o:Nat,c=(none,la,o)/\la < o/\la<=ht/\b (ht - la)=false/\(ht+1<=o\/b (ht - o)=true)) ?step2 ?fin2 ⟨rfl,0,1,rfl,by omega,by omega,by omega,hb⟩) ?post2)
  case fin2 =>
   rintro c st' ⟨rfl,la,o,rfl,a1,a2,a3,a4⟩
   exact ⟨rfl,la,o,rfl,a1,a3,a4,.inl (by omega)⟩
  case step2 =>
   rintro x c st' _ hx ⟨rfl,la,o,rfl,a1,a2,a3,a4⟩
   dsimp only
   by_cases hge:o ≥ ht+1
   ·rw[if_pos hge]
    exact wpS_pure ⟨rfl,la,o,rfl,a1,a3,a4,.inl hge⟩
   ·rw[if_neg hge]
    refine wpS_bind (hO _ (by omega) _ ?_)
    cases hbo:b (ht - o) with
    | false=>exact wpS_pure ⟨rfl,o,2 * o+1,rfl,by omega,by omega,by omega,hbo⟩
    | true=>exact wpS_pure ⟨rfl,la,o,rfl,a1,a3,a4,.inr hbo⟩
  case post2 =>
   rintro c st' ⟨rfl,la,o,rfl,a1,a3,a4,a5⟩
   have up:∀i,ht - la<=i->i < n->b i=false:=λi i1 i2=>by
    cases hbi:b i with
    | false=>rfl
    | true=>rw[hm (ht - la) i i1 i2 hbi]at a4;cases a4
   refine w_bin hO hm (l:=ht+1 - min o (ht+1)) (h':=ht - la) (by omega) (by omega) (λi hi=>?_) up h
   rcases a5 with a5|a5
   ·omega
   ·exact hm _ (ht - o) (by omega) (by omega) a5
theorem KZ(q:kZ prog w A s κ rk S){lf:Bool}{ky:Keyed}{xs:Array Keyed}{bs n ht:Nat}{st:SortSt}{Q:Option Nat->SortSt->Prop}(hk:kindOf st=κ)(hy:S ky)(hS:∀i (h:i < xs.size),S xs[i])
  (hn:bs+n<=xs.size) (hs:∀i j (h:j < xs.size) (h2:i<=j),bs<=i->j < bs+n->rk (xs[i]'(by omega))<=rk xs[j]) (hh:ht < n)
  (h:∀k,k<=n->(∀i (h:i < xs.size),bs<=i->i < bs+k->if lf=true then rk xs[i] < rk ky else rk xs[i]<=rk ky)->(∀i (h:i < xs.size),bs+k<=i->i < bs+n->if lf=true then rk ky<=rk xs[i] else rk ky < rk xs[i])->Q (some k) st) :
  wpS (model prog w) A E s (Hz lf ky xs bs n ht) Q st:=by
 refine SL (b:=λi=>if hi:bs+i < xs.size then (if lf=true then decide (rk xs[bs+i] < rk ky) else !decide (rk ky < rk xs[bs+i])) else false) ?_ ?_ hh ?_
 ·intro i hi Q hQ
  have hi':bs+i < xs.size:=by omega
  simp only[dif_pos hi']at hQ
  refine wpS_bind (SQ hi' ?_)
  cases lf with
  | true=>exact w_lt q hk (hS _ _) hy hQ
  | false=>exact wpS_bind (w_lt q hk hy (hS _ _) (wpS_pure hQ))
 ·intro i j hij hj hb
  have hj':bs+j < xs.size:=by omega
  have hi':bs+i < xs.size:=by omega
  have hle:=hs (bs+i) (bs+j) hj' (by omega) (by omega) (by omega)
  simp only[dif_pos hj']at hb
  simp only[dif_pos hi']
  cases lf with
  | true=>simp at hb ⊢;omega
  | false=>simp at hb ⊢;omega
 ·intro k hk h1 h2
  refine h k hk (λi hi i1 i2=>?_) (λi hi i1 i2=>?_)
  ·have:=h1 (i - bs) (by omega)
   have e:bs+(i - bs)=i:=by omega
   simp only[e,dif_pos hi]at this
   cases lf with
   | true=>simpa using this
   | false=>simpa using this
  ·have:=h2 (i - bs) (by omega) (by omega)
   have e:bs+(i - bs)=i:=by omega
   simp only[e,dif_pos hi]at this
   cases lf with
   | true=>simpa using this
   | false=>simpa using this
end
section
variable {α:Type}{le:α->α->Prop}{a b out:List α}{i j:Nat}
structure Mg(le:α->α->Prop)(a b out:List α)(i j:Nat):Prop where
 perm:out.Perm (a.take i++b.take j)
 srt:out.Pairwise le
 la:∀x∈out,∀y∈a.drop i,le x y
 lb:∀x∈out,∀y∈b.drop j,le x y
theorem Mg.comm(h:Mg le a b out i j):Mg le b a out j i:=⟨h.perm.trans i7,h.srt,h.lb,h.la⟩
theorem Mg.takeA(h:Mg le a b out i j)(ha:a.Pairwise le)(k:Nat)(hk:∀x∈(a.drop i).take k,∀y∈b.drop j,le x y):Mg le a b (out++(a.drop i).take k) (i+k) j where
 perm:=by
  rw[List.take_add]
  refine (h.perm.append_right _).trans ?_
  rw[Q2,Q2]
  exact List.Perm.append_left _ i7
 srt:=X5.mpr ⟨h.srt,(ha.sublist (V6 _ _)).sublist (List.take_sublist _ _),λx hx y hy=>h.la x hx y (X8 hy)⟩
 la:=λx hx y hy=>by
  rw[<- U8]at hy
  rcases O2.mp hx with hx|hx
  ·exact h.la x hx y (Y8 hy)
  ·have p:=ha.sublist (V6 i _)
   rw[<- Z3 k (a.drop i)]at p
   exact (X5.mp p).2.2 x hx y hy
 lb:=λx hx y hy=>by
  rcases O2.mp hx with hx|hx
  ·exact h.lb x hx y hy
  ·exact hk x hx y hy
theorem Mg.oneA(h:Mg le a b out i j)(ha:a.Pairwise le)(hi:i < a.length)(hk:∀y∈b.drop j,le a[i] y):Mg le a b (out++[a[i]]) (i+1) j:=by
 have e:(a.drop i).take 1=[a[i]]:=by rw[Y2 hi];rfl
 have:=h.takeA ha 1 (by rw[e];simpa using hk)
 rwa [e]at this
theorem Mg.fin(h:Mg le a b out i j)(ha:a.Pairwise le)(hb:b.Pairwise le)(hx:∀x∈a.drop i,∀y∈b.drop j,le x y):(out++a.drop i++b.drop j).Perm (a++b)/\(out++a.drop i++b.drop j).Pairwise le:=by
 constructor
 ·have e:(a.take i++b.take j++a.drop i++b.drop j).Perm (a.take i++a.drop i++(b.take j++b.drop j)):=by
   simp only[Q2]
   refine List.Perm.append_left _ ?_
   rw[<- Q2,<- Q2]
   exact i7.append_right _
  rw[Z3,Z3]at e
  exact ((h.perm.append_right _).append_right _).trans e
 ·rw[Q2]
  refine X5.mpr ⟨h.srt,X5.mpr ⟨ha.sublist (V6 _ _),hb.sublist (V6 _ _),hx⟩,λx hx y hy=>?_⟩
  rcases O2.mp hy with hy|hy
  ·exact h.la x hx y hy
  ·exact h.lb x hx y hy
theorem Mg.finC(h:Mg le a b out i j)(ha:a.Pairwise le)(hb:b.Pairwise le)(hx:∀x∈b.drop j,∀y∈a.drop i,le x y):(out++b.drop j++a.drop i).Perm (a++b)/\(out++b.drop j++a.drop i).Pairwise le:=by
 obtain⟨h1,h2⟩:=h.comm.fin hb ha hx
 exact ⟨h1.trans i7,h2⟩
end
noncomputable abbrev Oy:=Option (Array Keyed)×Array Keyed×Nat×Nat×Nat×Nat×Nat
noncomputable abbrev dN:=Option (Array Keyed)×Array Keyed×Nat×Nat×Nat×Nat
noncomputable abbrev eN:=Option (Array Keyed)×Array Keyed×Nat×Nat×Nat
section
variable (x y:Array Keyed)
noncomputable def dn(o:Array Keyed)(i j:Nat):Array Keyed:=o++x.extract i x.size++y.extract j y.size
noncomputable def ls(o:Array Keyed)(i j:Nat):Array Keyed:=o++y.extract j y.size++x.extract i x.size
noncomputable def fN(o:Array Keyed)(i j g ac bc:Nat):StateT SortSt Sem (ForInStep Oy):=do
 let z<-elem' x i
 if (i+1+1==x.size)=true then pure (.done (some (ls x y (o.push z) (i+1) j),o.push z,i+1,j,g,ac,bc))
 else if (decide (ac < 7)&&decide (bc < 7))=true then pure (.done (none,o.push z,i+1,j,g,ac,bc))
 else pure (.yield (none,o.push z,i+1,j,g,ac,bc))
noncomputable def gN(o:Array Keyed)(i j g ac bc:Nat):StateT SortSt Sem (ForInStep Oy):=do
 let z<-elem' y j
 if (j+1==y.size)=true then pure (.done (some (dn x y (o.push z) i (j+1)),o.push z,i,j+1,g,ac,bc))
 else do
  let u<-elem' x i
  let some k<-Hz true u y (j+1) (y.size - (j+1)) 0|pure (.done (some (dn x y (o.push z) i (j+1)),o.push z,i,j+1,g,ac,bc))
  if k > 0 then
   if (j+1+k==y.size)=true then pure (.done (some (dn x y (o.push z++y.extract (j+1) (j+1+k)) i (j+1+k)),o.push z++y.extract (j+1) (j+1+k),i,j+1+k,g,ac,k))
   else fN x y (o.push z++y.extract (j+1) (j+1+k)) i (j+1+k) g ac k
  else fN x y (o.push z) i (j+1) g ac k
noncomputable def iN(o:Array Keyed)(i j g ac bc:Nat):StateT SortSt Sem (ForInStep Oy):=do
 modify λv=>DK v g
 let z<-elem' y j
 let some k<-Hz false z x i (x.size - i) 0|pure (.done (some (dn x y o i j),o,i,j,g,ac,bc))
 if k > 0 then
   if (i+k+1==x.size)=true then pure (.done (some (ls x y (o++x.extract i (i+k)) (i+k) j),o++x.extract i (i+k),i+k,j,g,k,bc))
   else if (i+k==x.size)=true then pure (.done (some (dn x y (o++x.extract i (i+k)) (i+k) j),o++x.extract i (i+k),i+k,j,g,k,bc))
   else gN x y (o++x.extract i (i+k)) (i+k) j g k bc
 else gN x y o i j g k bc
noncomputable def bO(t:Oy):StateT SortSt Sem (ForInStep Oy) :=
 if t.2.2.2.2.1 > 1 then iN x y t.2.1 t.2.2.1 t.2.2.2.1 (t.2.2.2.2.1 - 1) t.2.2.2.2.2.1 t.2.2.2.2.2.2
 else iN x y t.2.1 t.2.2.1 t.2.2.2.1 t.2.2.2.2.1 t.2.2.2.2.2.1 t.2.2.2.2.2.2
noncomputable def cO(g:Nat)(t:dN):StateT SortSt Sem (ForInStep dN):=do
 let z<-elem' y t.2.2.2.1
 let u<-elem' x t.2.2.1
 let some yw<-lt' z u|pure (.done (some (dn x y t.2.1 t.2.2.1 t.2.2.2.1),t.2.1,t.2.2.1,t.2.2.2.1,t.2.2.2.2.1,t.2.2.2.2.2))
 if yw=true then do
   let z<-elem' y t.2.2.2.1
   if (t.2.2.2.1+1==y.size)=true then pure (.done (some (dn x y (t.2.1.push z) t.2.2.1 (t.2.2.2.1+1)),t.2.1.push z,t.2.2.1,t.2.2.2.1+1,0,t.2.2.2.2.2+1))
   else if t.2.2.2.2.2+1 ≥ g then pure (.done (none,t.2.1.push z,t.2.2.1,t.2.2.2.1+1,0,t.2.2.2.2.2+1))
   else pure (.yield (none,t.2.1.push z,t.2.2.1,t.2.2.2.1+1,0,t.2.2.2.2.2+1))
 else do
   let z<-elem' x t.2.2.1
   if (t.2.2.1+1+1==x.size)=true then pure (.done (some (ls x y (t.2.1.push z) (t.2.2.1+1) t.2.2.2.1),t.2.1.push z,t.2.2.1+1,t.2.2.2.1,t.2.2.2.2.1+1,0))
   else if t.2.2.2.2.1+1 ≥ g then pure (.done (none,t.2.1.push z,t.2.2.1+1,t.2.2.2.1,t.2.2.2.2.1+1,0))
   else pure (.yield (none,t.2.1.push z,t.2.2.1+1,t.2.2.2.1,t.2.2.2.2.1+1,0))
noncomputable def jN(t:eN):StateT SortSt Sem (ForInStep eN):=do
 let v<-forIn [:x.size+y.size] ((none,t.2.1,t.2.2.1,t.2.2.2.1,0,0):dN) λ_ v=>cO x y t.2.2.2.2 v
 match v.1 with
 | some r=>pure (.done (some r,v.2.1,v.2.2.1,v.2.2.2.1,t.2.2.2.2))
 | none=>do
  liftM (rule "list.sort.gallop")
  let u<-forIn [:x.size+y.size] ((none,v.2.1,v.2.2.1,v.2.2.2.1,t.2.2.2.2+1,v.2.2.2.2.1,v.2.2.2.2.2):Oy) λ_ u=>bO x y u
  match u.1 with
  | some r=>pure (.done (some r,u.2.1,u.2.2.1,u.2.2.2.1,u.2.2.2.2.1))
  | none=>do
   modify λz=>DK z (u.2.2.2.2.1+1)
   pure (.yield (none,u.2.1,u.2.2.1,u.2.2.2.1,u.2.2.2.2.1+1))
end
theorem Py(x y:Array Keyed):bN x y=(do
    rule "list.sort.merge-lo"
    let tt:=x.size+y.size
    let dn (o:Array Keyed) (i j:Nat):=o++x.extract i x.size++y.extract j y.size
    let ls (o:Array Keyed) (i j:Nat):=o++y.extract j y.size++x.extract i x.size
    let mut o:Array Keyed:=#[<- elem' y 0]
    let mut i:=0
    let mut j:=1
    if j==y.size then return dn o i j
    if i+1==x.size then return ls o i j
    let mut g:=gallopOf (<- get)
    for _ in [0:tt] do
      let mut ac:=0
      let mut bc:=0
      for _ in [0:tt] do
        let some yw<-lt' (<- elem' y j) (<- elem' x i)|return dn o i j
        if yw then
          o:=o.push (<- elem' y j);j:=j+1;bc:=bc+1;ac:=0
          if j==y.size then return dn o i j
          if bc ≥ g then break
        else
          o:=o.push (<- elem' x i);i:=i+1;ac:=ac+1;bc:=0
          if i+1==x.size then return ls o i j
          if ac ≥ g then break
      rule "list.sort.gallop"
      g:=g+1
      for _ in [0:tt] do
        if g > 1 then g:=g - 1
        modify (DK · g)
        let some k<-Hz false (<- elem' y j) x i (x.size - i) 0|return dn o i j
        ac:=k
        if k > 0 then
          o:=o++x.extract i (i+k);i:=i+k
          if i+1==x.size then return ls o i j
          if i==x.size then return dn o i j
        o:=o.push (<- elem' y j);j:=j+1
        if j==y.size then return dn o i j
        let some k<-Hz true (<- elem' x i) y j (y.size - j) 0|return dn o i j
        bc:=k
        if k > 0 then
          o:=o++y.extract j (j+k);j:=j+k
          if j==y.size then return dn o i j
        o:=o.push (<- elem' x i);i:=i+1
        if i+1==x.size then return ls o i j
        if ac < 7&&bc < 7 then break
      g:=g+1
      modify (DK · g)
    unsupported "internal:list.sort.merge-bound"):=rfl
theorem sE(x y:Array Keyed):bN x y=(do
    liftM (rule "list.sort.merge-lo")
    let z<-elem' y 0
    if (1==y.size)=true then pure (dn x y #[z] 0 1)
    else if (0+1==x.size)=true then pure (ls x y #[z] 0 1)
    else do
      let s<-get
      let v<-forIn [:x.size+y.size] ((none,#[z],0,1,gallopOf s):eN) λ_ v=>jN x y v
      match v.1 with
      | some r=>pure r
      | none=>unsupported "internal:list.sort.merge-bound"):=by
 rw[Py]
 dsimp only
 refine congrArg (bind _) (funext λ_=>?_)
 refine congrArg (bind _) (funext λz=>?_)
 refine congr (congrArg _ rfl) ?_
 refine congr (congrArg _ rfl) ?_
 refine congrArg (bind _) (funext λs=>?_)
 refine congr (congrArg bind ?A) (funext λv=>by obtain⟨r,v⟩:=v;cases r<;>rfl)
 refine congrArg _ (funext λ_=>funext λv=>?_)
 unfold jN
 refine congr (congrArg bind rfl) (funext λv=>?_)
 obtain⟨r,v⟩:=v
 cases r with
 | some r=>rfl
 | none =>
  refine congrArg (bind _) (funext λ_=>?_)
  refine congr (congrArg bind ?A2) (funext λv=>by obtain⟨r,v⟩:=v;cases r<;>rfl)
  rfl
section
variable {α:Type}{x y o:Array α}{i j k:Nat}
theorem RY:(x.extract i x.size).toList=x.toList.drop i:=by
 rw[v4,X2,E4 (by simp)]
theorem Q9:(x.extract i (i+k)).toList=(x.toList.drop i).take k:=by
 rw[v4,X2,N3]
theorem FX{v:α}(h:v∈x.toList.drop i):∃(n:Nat) (hn:n < x.size),i<=n/\v=x[n]:=by
 obtain⟨n,hn,e⟩:=M3 h
 rw[m6,U0]at hn
 refine ⟨i+n,by omega,by omega,?_⟩
 rw[<- e,List.getElem_drop,v3]
theorem bK{v:α}(h:v∈(x.toList.drop i).take k):∃(n:Nat) (hn:n < x.size),i<=n/\n < i+k/\v=x[n]:=by
 obtain⟨n,hn,e⟩:=M3 h
 rw[S3,m6,U0]at hn
 refine ⟨i+n,by omega,by omega,by omega,?_⟩
 rw[<- e,List.getElem_take,List.getElem_drop,v3]
end
theorem Qy(x y o:Array Keyed)(i j:Nat):(dn x y o i j).toList=o.toList++x.toList.drop i++y.toList.drop j:=by
 unfold dn
 rw[U2,U2,RY,RY]
theorem Ry(x y o:Array Keyed)(i j:Nat):(ls x y o i j).toList=o.toList++y.toList.drop j++x.toList.drop i:=by
 unfold ls
 rw[U2,U2,RY,RY]
section
variable {prog:Program}{w:World}{A:Around}{E:Value->Shared->Prop}{s:Shared}{κ:SortKind}{rk:Keyed->Nat}{S:Keyed->Prop}{x y:Array Keyed}
noncomputable abbrev tV(rk:Keyed->Nat):Keyed->Keyed->Prop:=λa b=>rk a<=rk b
structure Hy(rk:Keyed->Nat)(S:Keyed->Prop)(x y:Array Keyed):Prop where
 hx:x.toList.Pairwise (tV rk)
 hy:y.toList.Pairwise (tV rk)
 Sx:∀i (h:i < x.size),S x[i]
 Sy:∀i (h:i < y.size),S y[i]
 x0:0 < x.size
 y0:0 < y.size
 hl:∀i (h:i < y.size),rk y[i]<=rk x[x.size - 1]
 hf:∀i (h:i < x.size),rk y[0]<=rk x[i]
theorem eZ{x:Array Keyed}(h:x.toList.Pairwise (tV rk)){i j:Nat}(hj:j < x.size)(hij:i<=j):rk (x[i]'(by omega))<=rk x[j]:=by
 rcases E9 i j with h1|h1
 ·have:=W3.mp h i j (by simpa using (by omega:i < x.size)) (by simpa using hj) h1
  simpa using this
 ·have:i=j:=by omega
  subst this
  exact G0 _
noncomputable def Po(rk:Keyed->Nat)(x y r:Array Keyed):Prop:=r.toList.Perm (x.toList++y.toList)/\r.toList.Pairwise (tV rk)
theorem ZH(H:Hy rk S x y){o:Array Keyed}{i j:Nat}(m:Mg (tV rk) x.toList y.toList o.toList i j)(h:y.size<=j\/x.size<=i):Po rk x y (dn x y o i j):=by
 unfold Po
 rw[Qy]
 refine m.fin H.hx H.hy λv hv u hu=>?_
 obtain⟨n,hn,n1,_⟩:=FX hv
 obtain⟨k,hk,k1,_⟩:=FX hu
 omega
theorem LD(H:Hy rk S x y){o:Array Keyed}{i j:Nat}(m:Mg (tV rk) x.toList y.toList o.toList i j)(h:i+1=x.size):Po rk x y (ls x y o i j):=by
 unfold Po
 rw[Ry]
 refine m.finC H.hx H.hy λv hv u hu=>?_
 obtain⟨n,hn,n1,rfl⟩:=FX hv
 obtain⟨k,hk,k1,rfl⟩:=FX hu
 have:k=x.size - 1:=by omega
 subst this
 exact H.hl n hn
theorem XV{α:Type}(o:Array α)(z:α):(o.push z).toList=o.toList++[z]:=U6
structure J(rk:Keyed->Nat)(x y:Array Keyed)(N:Nat)(o:Array Keyed)(i j:Nat):Prop where
 m:Mg (tV rk) x.toList y.toList o.toList i j
 hi:i+1 < x.size
 hj:j < y.size
 hN:N<=i+j
theorem J.pushX(H:Hy rk S x y){N:Nat}{o:Array Keyed}{i j:Nat}(m:Mg (tV rk) x.toList y.toList o.toList i j)(hi:i < x.size)(h:∀n (hn:n < y.size),j<=n->rk x[i]<=rk y[n]):Mg (tV rk) x.toList y.toList (o.push x[i]).toList (i+1) j:=by
 rw[XV]
 have:=m.oneA H.hx (by simpa using hi) λv hv=>by
  obtain⟨n,hn,n1,rfl⟩:=FX hv
  simpa using h n hn n1
 simpa using this
theorem J.pushY(H:Hy rk S x y){N:Nat}{o:Array Keyed}{i j:Nat}(m:Mg (tV rk) x.toList y.toList o.toList i j)(hj:j < y.size)(h:∀n (hn:n < x.size),i<=n->rk y[j]<=rk x[n]):Mg (tV rk) x.toList y.toList (o.push y[j]).toList i (j+1):=by
 rw[XV]
 have:=m.comm.oneA H.hy (by simpa using hj) λv hv=>by
  obtain⟨n,hn,n1,rfl⟩:=FX hv
  simpa using h n hn n1
 have:=this.comm
 simpa using this
noncomputable def RT(rk:Keyed->Nat)(x y:Array Keyed)(N:Nat)(c:Oy):Prop:=(∃t,c.1=some t/\Po rk x y t)\/(c.1=none/\J rk x y N c.2.1 c.2.2.1 c.2.2.2.1)
noncomputable def Gs(z z':SortSt):Prop:=∃g,z'=DK z g
theorem Gs.refl(z:SortSt):Gs z z:=⟨gallopOf z,rfl⟩
theorem Gs.set{z z':SortSt}(h:Gs z z')(g:Nat):Gs z (DK z' g):=by obtain⟨_,rfl⟩:=h;exact ⟨g,rfl⟩
theorem Gs.kind{z z':SortSt}(h:Gs z z'):kindOf z'=kindOf z:=by obtain⟨_,rfl⟩:=h;rfl
noncomputable def kN(rk:Keyed->Nat)(x y:Array Keyed)(N:Nat)(st:SortSt)(r:ForInStep Oy)(st':SortSt):Prop :=
 Gs st st'/\match r with
  | .done c=>RT rk x y N c
  | .yield c=>c.1=none/\J rk x y N c.2.1 c.2.2.1 c.2.2.2.1
theorem R9(H:Hy rk S x y){N:Nat}{o:Array Keyed}{i j g ac bc:Nat}{st st':SortSt}(hg:Gs st st')(m:Mg (tV rk) x.toList y.toList o.toList i j)(hi:i+1 < x.size)(hj:j < y.size)(hN:N<=i+j+1)
  (h:∀n (hn:n < y.size),j<=n->rk (x[i]'(by omega))<=rk y[n]):wpS (model prog w) A E s (fN x y o i j g ac bc) (kN rk x y N st) st':=by
 unfold fN
 have m':=J.pushX H (N:=N) m (by omega) h
 refine wpS_bind (SQ (by omega) ?_)
 by_cases h1:i+1+1=x.size
 ·rw[if_pos (by simpa using h1)]
  exact wpS_pure ⟨hg,.inl ⟨_,rfl,LD H m' h1⟩⟩
 ·rw[if_neg (by simpa using h1)]
  have jj:J rk x y N (o.push (x[i]'(by omega))) (i+1) j:=⟨m',by omega,hj,by omega⟩
  by_cases h2:(decide (ac < 7)&&decide (bc < 7))=true
  ·rw[if_pos h2]
   exact wpS_pure ⟨hg,.inr ⟨rfl,jj⟩⟩
  ·rw[if_neg h2]
   exact wpS_pure ⟨hg,rfl,jj⟩
theorem S9(q:kZ prog w A s κ rk S)(H:Hy rk S x y){N:Nat}{o:Array Keyed}{i j g ac bc:Nat}{st st':SortSt}(hk:kindOf st=κ)(hg:Gs st st')(m:Mg (tV rk) x.toList y.toList o.toList i j)(hi:i+1 < x.size)(hj:j < y.size)(hN:N<=i+j+1)
  (h:∀n (hn:n < x.size),i<=n->rk (y[j]'(by omega))<=rk x[n]):wpS (model prog w) A E s (gN x y o i j g ac bc) (kN rk x y N st) st':=by
 unfold gN
 have m':=J.pushY H (N:=N) m hj h
 refine wpS_bind (SQ hj ?_)
 by_cases h1:j+1=y.size
 ·rw[if_pos (by simpa using h1)]
  exact wpS_pure ⟨hg,.inl ⟨_,rfl,ZH H m' (.inl (by omega))⟩⟩
 ·rw[if_neg (by simpa using h1)]
  refine wpS_bind (SQ (by omega) ?_)
  refine wpS_bind (KZ q (hg.kind.trans hk) (H.Sx _ _) H.Sy (by omega) (λa b hb hab _ _=>eZ H.hy hb hab) (by omega) λk kn k1 k2=>?_)
  dsimp only
  by_cases hk0:k > 0
  ·rw[if_pos hk0]
   have m2:Mg (tV rk) x.toList y.toList (o.push (y[j]'hj)++y.extract (j+1) (j+1+k)).toList i (j+1+k):=by
    rw[U2,Q9]
    refine (m'.comm.takeA H.hy k λv hv u hu=>?_).comm
    obtain⟨n,hn,n1,n2,rfl⟩:=bK hv
    obtain⟨p,hp,p1,rfl⟩:=FX hu
    have:=k1 n hn n1 n2
    rw[if_pos rfl]at this
    have:=eZ H.hx hp p1
    show rk _<=rk _
    omega
   by_cases h2:j+1+k=y.size
   ·rw[if_pos (by simpa using h2)]
    exact wpS_pure ⟨hg,.inl ⟨_,rfl,ZH H m2 (.inl (by omega))⟩⟩
   ·rw[if_neg (by simpa using h2)]
    refine R9 H hg m2 hi (by omega) (by omega) λn hn n1=>?_
    have:=k2 n hn (by omega) (by omega)
    rw[if_pos rfl]at this
    exact this
  ·rw[if_neg hk0]
   refine R9 H hg m' hi (by omega) (by omega) λn hn n1=>?_
   have:=k2 n hn (by omega) (by omega)
   rw[if_pos rfl]at this
   exact this
theorem T9(q:kZ prog w A s κ rk S)(H:Hy rk S x y){N:Nat}{o:Array Keyed}{i j g ac bc:Nat}{st st':SortSt}(hk:kindOf st=κ)(hg:Gs st st')(m:Mg (tV rk) x.toList y.toList o.toList i j)(hi:i+1 < x.size)(hj:j < y.size)(hN:N<=i+j+1) :
  wpS (model prog w) A E s (iN x y o i j g ac bc) (kN rk x y N st) st':=by
 unfold iN
 refine wpS_bind (wpS_modify ?_)
 have hg':=hg.set g
 refine wpS_bind (SQ hj ?_)
 refine wpS_bind (KZ q (hg'.kind.trans hk) (H.Sy _ _) H.Sx (by omega) (λa b hb hab _ _=>eZ H.hx hb hab) (by omega) λk kn k1 k2=>?_)
 dsimp only
 by_cases hk0:k > 0
 ·rw[if_pos hk0]
  have m2:Mg (tV rk) x.toList y.toList (o++x.extract i (i+k)).toList (i+k) j:=by
   rw[U2,Q9]
   refine m.takeA H.hx k λv hv u hu=>?_
   obtain⟨n,hn,n1,n2,rfl⟩:=bK hv
   obtain⟨p,hp,p1,rfl⟩:=FX hu
   have:=k1 n hn n1 n2
   rw[if_neg (by decide)]at this
   have:=eZ H.hy hp p1
   show rk _<=rk _
   omega
  by_cases h2:i+k+1=x.size
  ·rw[if_pos (by simpa using h2)]
   exact wpS_pure ⟨hg',.inl ⟨_,rfl,LD H m2 h2⟩⟩
  ·rw[if_neg (by simpa using h2)]
   by_cases h3:i+k=x.size
   ·rw[if_pos (by simpa using h3)]
    exact wpS_pure ⟨hg',.inl ⟨_,rfl,ZH H m2 (.inr (by omega))⟩⟩
   ·rw[if_neg (by simpa using h3)]
    refine S9 q H hk hg' m2 (by omega) hj (by omega) λn hn n1=>?_
    have:=k2 n hn (by omega) (by omega)
    rw[if_neg (by decide)]at this
    omega
 ·rw[if_neg hk0]
  refine S9 q H hk hg' m hi hj (by omega) λn hn n1=>?_
  have:=k2 n hn (by omega) (by omega)
  rw[if_neg (by decide)]at this
  omega
theorem UL(q:kZ prog w A s κ rk S)(H:Hy rk S x y){N:Nat}{c:Oy}{st st':SortSt}(hk:kindOf st=κ)(hg:Gs st st')(hJ:J rk x y N c.2.1 c.2.2.1 c.2.2.2.1) :
  wpS (model prog w) A E s (bO x y c) (kN rk x y (N+1) st) st':=by
 unfold bO
 have:=hJ.hN
 split
 ·exact T9 q H hk hg hJ.m hJ.hi hJ.hj (by omega)
 ·exact T9 q H hk hg hJ.m hJ.hi hJ.hj (by omega)
theorem VL(q:kZ prog w A s κ rk S)(H:Hy rk S x y){N g:Nat}{c:dN}{st:SortSt}(hk:kindOf st=κ)(hJ:J rk x y N c.2.1 c.2.2.1 c.2.2.2.1) :
  wpS (model prog w) A E s (cO x y g c) (λr st'=>st'=st/\match r with
    | .done c=>(∃t,c.1=some t/\Po rk x y t)\/(c.1=none/\J rk x y (N+1) c.2.1 c.2.2.1 c.2.2.2.1)
    | .yield c=>c.1=none/\J rk x y (N+1) c.2.1 c.2.2.1 c.2.2.2.1) st:=by
 unfold cO
 obtain⟨m,hi,hj,hN⟩:=hJ
 refine wpS_bind (SQ hj ?_)
 refine wpS_bind (SQ (by omega) ?_)
 refine wpS_bind (w_lt q hk (H.Sy _ _) (H.Sx _ _) ?_)
 dsimp only
 by_cases hlt:rk (y[c.2.2.2.1]'hj) < rk (x[c.2.2.1]'(by omega))
 ·rw[if_pos (by simpa using hlt)]
  have m':=J.pushY H (N:=N) m hj λn hn n1=>by have:=eZ H.hx hn n1;omega
  refine wpS_bind (SQ hj ?_)
  by_cases h1:c.2.2.2.1+1=y.size
  ·rw[if_pos (by simpa using h1)]
   exact wpS_pure ⟨rfl,.inl ⟨_,rfl,ZH H m' (.inl (by omega))⟩⟩
  ·rw[if_neg (by simpa using h1)]
   have jj:J rk x y (N+1) (c.2.1.push (y[c.2.2.2.1]'hj)) c.2.2.1 (c.2.2.2.1+1):=⟨m',hi,by omega,by omega⟩
   split
   ·exact wpS_pure ⟨rfl,.inr ⟨rfl,jj⟩⟩
   ·exact wpS_pure ⟨rfl,rfl,jj⟩
 ·rw[if_neg (by simpa using hlt)]
  have m':=J.pushX H (N:=N) m (by omega) λn hn n1=>by have:=eZ H.hy hn n1;omega
  refine wpS_bind (SQ (by omega) ?_)
  by_cases h1:c.2.2.1+1+1=x.size
  ·rw[if_pos (by simpa using h1)]
   exact wpS_pure ⟨rfl,.inl ⟨_,rfl,LD H m' h1⟩⟩
  ·rw[if_neg (by simpa using h1)]
   have jj:J rk x y (N+1) (c.2.1.push (x[c.2.2.1]'(by omega))) (c.2.2.1+1) c.2.2.2.1:=⟨m',by omega,hj,by omega⟩
   split
   ·exact wpS_pure ⟨rfl,.inr ⟨rfl,jj⟩⟩
   ·exact wpS_pure ⟨rfl,rfl,jj⟩
theorem WL(q:kZ prog w A s κ rk S)(H:Hy rk S x y){N:Nat}{c:eN}{st st':SortSt}(hk:kindOf st=κ)(hg:Gs st st')(hJ:J rk x y N c.2.1 c.2.2.1 c.2.2.2.1) :
  wpS (model prog w) A E s (jN x y c) (λr st'=>Gs st st'/\match r with
    | .done c=>∃t,c.1=some t/\Po rk x y t
    | .yield c=>c.1=none/\J rk x y (N+1) c.2.1 c.2.2.1 c.2.2.2.1) st':=by
 unfold jN
 refine wpS_bind (wpS_mono (wpS_forRange (I:=λn c st''=>st''=st'/\c.1=none/\J rk x y (N+n) c.2.1 c.2.2.1 c.2.2.2.1)
   (Q:=λc st''=>st''=st'/\((∃t,c.1=some t/\Po rk x y t)\/(c.1=none/\J rk x y N c.2.1 c.2.2.1 c.2.2.2.1))) ?step ?fin ⟨rfl,rfl,hJ⟩) ?post)
 case fin =>
  rintro c st'' ⟨rfl,_,h⟩
  have h1:=h.hi
  have h2:=h.hj
  have h3:=h.hN
  omega
 case step =>
  rintro n c st'' _ _ ⟨rfl,_,h⟩
  refine wpS_mono (VL q H (hg.kind.trans hk) h) ?_
  rintro r st3 ⟨rfl,h⟩
  cases r with
  | done c =>
   refine ⟨rfl,h.imp id λh=>⟨h.1,h.2.m,h.2.hi,h.2.hj,?_⟩⟩
   have:=h.2.hN
   omega
  | yield c=>exact ⟨rfl,h.1,h.2⟩
 case post =>
  rintro c st'' ⟨rfl,h⟩
  obtain⟨r,c⟩:=c
  rcases h with⟨t,e,h⟩|⟨e,h⟩
  ·cases e
   exact wpS_pure ⟨hg,_,rfl,h⟩
  ·cases e
   dsimp only
   refine wpS_bind (wpS_lift (wpAny_rule ⟨rfl,?_⟩))
   refine wpS_bind (wpS_mono (wpS_forRange (I:=λn c st''=>Gs st st''/\c.1=none/\J rk x y (N+n) c.2.1 c.2.2.1 c.2.2.2.1)
     (Q:=λc st''=>Gs st st''/\RT rk x y (N+1) c) ?step2 ?fin2 ⟨hg,rfl,h⟩) ?post2)
   case fin2 =>
    rintro c st'' ⟨_,_,h⟩
    have h1:=h.hi
    have h2:=h.hj
    have h3:=h.hN
    omega
   case step2 =>
    rintro n c st'' _ _ ⟨hg2,_,h⟩
    refine wpS_mono (UL q H hk hg2 h) ?_
    rintro r st3 ⟨hg3,h⟩
    cases r with
    | done c =>
     refine ⟨hg3,Or.imp id (λh=>⟨h.1,h.2.m,h.2.hi,h.2.hj,?_⟩) h⟩
     have:=h.2.hN
     omega
    | yield c=>exact ⟨hg3,h.1,h.2⟩
   case post2 =>
    rintro c st'' ⟨hg2,h⟩
    obtain⟨r,c⟩:=c
    rcases h with⟨t,e,h⟩|⟨e,h⟩
    ·cases e
     exact wpS_pure ⟨hg2,_,rfl,h⟩
    ·cases e
     exact wpS_bind (wpS_modify (wpS_pure ⟨hg2.set _,rfl,h⟩))
theorem XL(q:kZ prog w A s κ rk S)(H:Hy rk S x y){st:SortSt}{Q:Array Keyed->SortSt->Prop}(hk:kindOf st=κ)(h:∀r st',Gs st st'->Po rk x y r->Q r st'):wpS (model prog w) A E s (bN x y) Q st:=by
 rw[sE]
 refine wpS_bind (wpS_lift (wpAny_rule ⟨rfl,?_⟩))
 refine wpS_bind (SQ H.y0 ?_)
 have m0:Mg (tV rk) x.toList y.toList (#[]:Array Keyed).toList 0 0:=⟨by simp,by simp,by simp,by simp⟩
 have m1:=J.pushY H (N:=0) m0 H.y0 λn hn _=>H.hf n hn
 have e1:(#[]:Array Keyed).push (y[0]'H.y0)=#[y[0]'H.y0]:=rfl
 rw[e1]at m1
 have hy0:=H.y0
 have hx0:=H.x0
 by_cases h1:1=y.size
 ·rw[if_pos (by simpa using h1)]
  exact wpS_pure (h _ _ (Gs.refl _) (ZH H m1 (.inl (by omega))))
 ·rw[if_neg (by simpa using h1)]
  by_cases h2:0+1=x.size
  ·rw[if_pos (by simpa using h2)]
   exact wpS_pure (h _ _ (Gs.refl _) (LD H m1 h2))
  ·rw[if_neg (by simpa using h2)]
   refine wpS_bind (wpS_get ?_)
   refine wpS_bind (wpS_mono (wpS_forRange (I:=λn c st''=>Gs st st''/\c.1=none/\J rk x y n c.2.1 c.2.2.1 c.2.2.2.1)
     (Q:=λc st''=>Gs st st''/\∃t,c.1=some t/\Po rk x y t) ?step ?fin ⟨Gs.refl _,rfl,m1,by show 0+1 < x.size;omega,by show 1 < y.size;omega,by omega⟩) ?post)
   case fin =>
    rintro c st'' ⟨_,_,h⟩
    have h1:=h.hi
    have h2:=h.hj
    have h3:=h.hN
    omega
   case step =>
    rintro n c st'' _ _ ⟨hg2,_,h⟩
    refine wpS_mono (WL q H hk hg2 h) ?_
    rintro r st3 ⟨hg3,h⟩
    cases r with
    | done c=>exact ⟨hg3,h⟩
    | yield c=>exact ⟨hg3,h⟩
   case post =>
    rintro c st'' ⟨hg2,t,e,hP⟩
    obtain⟨r,c⟩:=c
    cases e
    exact wpS_pure (h _ _ hg2 hP)
end
noncomputable abbrev Ty:=Option (Array Keyed)×Nat×Nat×Array Keyed×Nat×Nat×Nat
noncomputable abbrev lN:=Option (Array Keyed)×Nat×Nat×Array Keyed×Nat×Nat
noncomputable abbrev mN:=Option (Array Keyed)×Nat×Nat×Array Keyed×Nat
section
variable (x y:Array Keyed)
noncomputable def Vw(o:Array Keyed)(i j:Nat):Array Keyed:=x.extract 0 i++y.extract 0 j++o.reverse
noncomputable def uI(o:Array Keyed)(i j:Nat):Array Keyed:=y.extract 0 j++x.extract 0 i++o.reverse
noncomputable def hi2(i j:Nat)(o:Array Keyed)(g ac bc:Nat):StateT SortSt Sem (ForInStep Ty):=do
 let z<-elem' x (i - 1)
 if (i - 1==0)=true then pure (.done (some (Vw x y (o.push z) (i - 1) j),i - 1,j,o.push z,g,ac,bc))
 else if (decide (ac < 7)&&decide (bc < 7))=true then pure (.done (none,i - 1,j,o.push z,g,ac,bc))
 else pure (.yield (none,i - 1,j,o.push z,g,ac,bc))
noncomputable def hi1(i j:Nat)(o:Array Keyed)(g ac bc:Nat):StateT SortSt Sem (ForInStep Ty):=do
 let z<-elem' y (j - 1)
 if (j - 1==1)=true then pure (.done (some (uI x y (o.push z) i (j - 1)),i,j - 1,o.push z,g,ac,bc))
 else do
  let u<-elem' x (i - 1)
  let some p<-Hz true u y 0 (j - 1) (j - 1 - 1)|pure (.done (some (Vw x y (o.push z) i (j - 1)),i,j - 1,o.push z,g,ac,bc))
  if j - 1 - p > 0 then
   if (p==1)=true then pure (.done (some (uI x y (o.push z++(y.extract p (j - 1)).reverse) i p),i,p,o.push z++(y.extract p (j - 1)).reverse,g,ac,j - 1 - p))
   else if (p==0)=true then pure (.done (some (Vw x y (o.push z++(y.extract p (j - 1)).reverse) i p),i,p,o.push z++(y.extract p (j - 1)).reverse,g,ac,j - 1 - p))
   else hi2 x y i p (o.push z++(y.extract p (j - 1)).reverse) g ac (j - 1 - p)
  else hi2 x y i (j - 1) (o.push z) g ac (j - 1 - p)
noncomputable def nN(i j:Nat)(o:Array Keyed)(g ac bc:Nat):StateT SortSt Sem (ForInStep Ty):=do
 modify λv=>DK v g
 let z<-elem' y (j - 1)
 let some p<-Hz false z x 0 i (i - 1)|pure (.done (some (Vw x y o i j),i,j,o,g,ac,bc))
 if i - p > 0 then
   if (p==0)=true then pure (.done (some (Vw x y (o++(x.extract p i).reverse) p j),p,j,o++(x.extract p i).reverse,g,i - p,bc))
   else hi1 x y p j (o++(x.extract p i).reverse) g (i - p) bc
 else hi1 x y i j o g (i - p) bc
noncomputable def dO(t:Ty):StateT SortSt Sem (ForInStep Ty) :=
 if t.2.2.2.2.1 > 1 then nN x y t.2.1 t.2.2.1 t.2.2.2.1 (t.2.2.2.2.1 - 1) t.2.2.2.2.2.1 t.2.2.2.2.2.2
 else nN x y t.2.1 t.2.2.1 t.2.2.2.1 t.2.2.2.2.1 t.2.2.2.2.2.1 t.2.2.2.2.2.2
noncomputable def eO(g:Nat)(t:lN):StateT SortSt Sem (ForInStep lN):=do
 let z<-elem' y (t.2.2.1 - 1)
 let u<-elem' x (t.2.1 - 1)
 let some xw<-lt' z u|pure (.done (some (Vw x y t.2.2.2.1 t.2.1 t.2.2.1),t.2.1,t.2.2.1,t.2.2.2.1,t.2.2.2.2.1,t.2.2.2.2.2))
 if xw=true then do
   let z<-elem' x (t.2.1 - 1)
   if (t.2.1 - 1==0)=true then pure (.done (some (Vw x y (t.2.2.2.1.push z) (t.2.1 - 1) t.2.2.1),t.2.1 - 1,t.2.2.1,t.2.2.2.1.push z,t.2.2.2.2.1+1,0))
   else if t.2.2.2.2.1+1 ≥ g then pure (.done (none,t.2.1 - 1,t.2.2.1,t.2.2.2.1.push z,t.2.2.2.2.1+1,0))
   else pure (.yield (none,t.2.1 - 1,t.2.2.1,t.2.2.2.1.push z,t.2.2.2.2.1+1,0))
 else do
   let z<-elem' y (t.2.2.1 - 1)
   if (t.2.2.1 - 1==1)=true then pure (.done (some (uI x y (t.2.2.2.1.push z) t.2.1 (t.2.2.1 - 1)),t.2.1,t.2.2.1 - 1,t.2.2.2.1.push z,0,t.2.2.2.2.2+1))
   else if t.2.2.2.2.2+1 ≥ g then pure (.done (none,t.2.1,t.2.2.1 - 1,t.2.2.2.1.push z,0,t.2.2.2.2.2+1))
   else pure (.yield (none,t.2.1,t.2.2.1 - 1,t.2.2.2.1.push z,0,t.2.2.2.2.2+1))
noncomputable def oN(t:mN):StateT SortSt Sem (ForInStep mN):=do
 let v<-forIn [:x.size+y.size] ((none,t.2.1,t.2.2.1,t.2.2.2.1,0,0):lN) λ_ v=>eO x y t.2.2.2.2 v
 match v.1 with
 | some r=>pure (.done (some r,v.2.1,v.2.2.1,v.2.2.2.1,t.2.2.2.2))
 | none=>do
  liftM (rule "list.sort.gallop")
  let u<-forIn [:x.size+y.size] ((none,v.2.1,v.2.2.1,v.2.2.2.1,t.2.2.2.2+1,v.2.2.2.2.1,v.2.2.2.2.2):Ty) λ_ u=>dO x y u
  match u.1 with
  | some r=>pure (.done (some r,u.2.1,u.2.2.1,u.2.2.2.1,u.2.2.2.2.1))
  | none=>do
   modify λz=>DK z (u.2.2.2.2.1+1)
   pure (.yield (none,u.2.1,u.2.2.1,u.2.2.2.1,u.2.2.2.2.1+1))
end
theorem Uy(x y:Array Keyed):cN x y=(do
    rule "list.sort.merge-hi"
    let tt:=x.size+y.size
    let dn (o:Array Keyed) (i j:Nat):=x.extract 0 i++y.extract 0 j++o.reverse
    let fs (o:Array Keyed) (i j:Nat):=y.extract 0 j++x.extract 0 i++o.reverse
    let mut i:=x.size - 1
    let mut j:=y.size
    let mut o:Array Keyed:=#[<- elem' x i]
    if i==0 then return dn o i j
    if j==1 then return fs o i j
    let mut g:=gallopOf (<- get)
    for _ in [0:tt] do
      let mut ac:=0
      let mut bc:=0
      for _ in [0:tt] do
        let some xw<-lt' (<- elem' y (j - 1)) (<- elem' x (i - 1))|return dn o i j
        if xw then
          i:=i - 1;o:=o.push (<- elem' x i);ac:=ac+1;bc:=0
          if i==0 then return dn o i j
          if ac ≥ g then break
        else
          j:=j - 1;o:=o.push (<- elem' y j);bc:=bc+1;ac:=0
          if j==1 then return fs o i j
          if bc ≥ g then break
      rule "list.sort.gallop"
      g:=g+1
      for _ in [0:tt] do
        if g > 1 then g:=g - 1
        modify (DK · g)
        let some p<-Hz false (<- elem' y (j - 1)) x 0 i (i - 1)|return dn o i j
        let k:=i - p
        ac:=k
        if k > 0 then
          o:=o++(x.extract p i).reverse;i:=p
          if i==0 then return dn o i j
        j:=j - 1;o:=o.push (<- elem' y j)
        if j==1 then return fs o i j
        let some p<-Hz true (<- elem' x (i - 1)) y 0 j (j - 1)|return dn o i j
        let k:=j - p
        bc:=k
        if k > 0 then
          o:=o++(y.extract p j).reverse;j:=p
          if j==1 then return fs o i j
          if j==0 then return dn o i j
        i:=i - 1;o:=o.push (<- elem' x i)
        if i==0 then return dn o i j
        if ac < 7&&bc < 7 then break
      g:=g+1
      modify (DK · g)
    unsupported "internal:list.sort.merge-bound"):=rfl
theorem tE(x y:Array Keyed):cN x y=(do
    liftM (rule "list.sort.merge-hi")
    let z<-elem' x (x.size - 1)
    if (x.size - 1==0)=true then pure (Vw x y #[z] (x.size - 1) y.size)
    else if (y.size==1)=true then pure (uI x y #[z] (x.size - 1) y.size)
    else do
      let s<-get
      let v<-forIn [:x.size+y.size] ((none,x.size - 1,y.size,#[z],gallopOf s):mN) λ_ v=>oN x y v
      match v.1 with
      | some r=>pure r
      | none=>unsupported "internal:list.sort.merge-bound"):=by
 rw[Uy]
 dsimp only
 refine congrArg (bind _) (funext λ_=>?_)
 refine congrArg (bind _) (funext λz=>?_)
 refine congr (congrArg _ rfl) ?_
 refine congr (congrArg _ rfl) ?_
 refine congrArg (bind _) (funext λs=>?_)
 refine congr (congrArg bind ?A) (funext λv=>by obtain⟨r,v⟩:=v;cases r<;>rfl)
 refine congrArg _ (funext λ_=>funext λv=>?_)
 unfold oN
 refine congr (congrArg bind rfl) (funext λv=>?_)
 obtain⟨r,v⟩:=v
 cases r with
 | some r=>rfl
 | none =>
  refine congrArg (bind _) (funext λ_=>?_)
  refine congr (congrArg bind ?A2) (funext λv=>by obtain⟨r,v⟩:=v;cases r<;>rfl)
  rfl
section
variable {α:Type}{x:Array α}{i j k:Nat}
theorem LZ(hi:i<=x.size):x.toList.reverse.drop (x.size - i)=(x.toList.take i).reverse:=by
 rw[List.drop_reverse,U0,Nat.sub_sub_self hi]
theorem wJ{v:α}(hi:i<=x.size)(h:v∈x.toList.reverse.drop (x.size - i)):∃(n:Nat) (hn:n < x.size),n < i/\v=x[n]:=by
 rw[LZ hi,t8]at h
 obtain⟨n,hn,e⟩:=M3 h
 rw[S3,U0]at hn
 refine ⟨n,by omega,by omega,?_⟩
 rw[<- e,List.getElem_take,v3]
theorem IU(hk:k<=i)(hi:i<=x.size):(x.extract k i).reverse.toList=(x.toList.reverse.drop (x.size - i)).take (i - k):=by
 rw[K6,v4,X2,LZ hi,List.take_reverse,S3,U0,Nat.min_eq_left hi,Nat.sub_sub_self hk,List.drop_take]
theorem MD:(x.extract 0 i).toList=x.toList.take i:=by
 rw[v4,X2,T8,Q7]
end
section
variable {prog:Program}{w:World}{A:Around}{E:Value->Shared->Prop}{s:Shared}{κ:SortKind}{rk:Keyed->Nat}{S:Keyed->Prop}{x y:Array Keyed}
noncomputable abbrev dP(rk:Keyed->Nat):Keyed->Keyed->Prop:=λa b=>rk b<=rk a
structure MH(rk:Keyed->Nat)(x y:Array Keyed)(o:Array Keyed)(i j:Nat):Prop where
 m:Mg (dP rk) x.toList.reverse y.toList.reverse o.toList (x.size - i) (y.size - j)
 hi:i<=x.size
 hj:j<=y.size
theorem MH.comm{o:Array Keyed}{i j:Nat}(h:MH rk x y o i j):MH rk y x o j i:=⟨h.m.comm,h.hj,h.hi⟩
theorem MH.chunk(hx:x.toList.Pairwise (tV rk)){o:Array Keyed}{i j p:Nat}(h:MH rk x y o i j)(hp:p<=i)(hk:∀n (hn:n < x.size) k (hk:k < y.size),p<=n->n < i->k < j->rk y[k]<=rk x[n]) :
  MH rk x y (o++(x.extract p i).reverse) p j:=by
 have hi:=h.hi
 refine ⟨?_,by omega,h.hj⟩
 rw[U2,IU hp hi]
 have e:x.size - p=x.size - i+(i - p):=by omega
 rw[e]
 refine h.m.takeA (N4.mpr hx) (i - p) λv hv u hu=>?_
 obtain⟨k,hk1,hk2,rfl⟩:=wJ h.hj hu
 rw[<- IU hp hi,K6,t8,v4,X2]at hv
 obtain⟨n,hn,n1,n2,rfl⟩:=bK hv
 exact hk n hn k hk1 n1 (by omega) hk2
theorem MH.push(hx:x.toList.Pairwise (tV rk)){o:Array Keyed}{i j:Nat}(h:MH rk x y o i j)(h0:0 < i)(hk:∀k (hk:k < y.size),k < j->rk y[k]<=rk (x[i - 1]'(by have:=h.hi;omega))) :
  MH rk x y (o.push (x[i - 1]'(by have:=h.hi;omega))) (i - 1) j:=by
 have hi:=h.hi
 have e:o.push (x[i - 1]'(by omega))=o++(x.extract (i - 1) i).reverse:=by
  apply Array.toList_inj.mp
  rw[U6,U2,IU (by omega) hi,show i - (i - 1)=1 by omega,Y2 (by simp;omega)]
  simp only[i9,List.take_zero,List.getElem_reverse,v3,U0]
  congr 3
  omega
 rw[e]
 refine h.chunk hx (by omega) λn hn k hk1 n1 n2 k2=>?_
 have:n=i - 1:=by omega
 subst this
 exact hk k hk1 k2
theorem ND{a b o r:List Keyed}(h:(o++a++b).Perm (x.toList.reverse++y.toList.reverse)/\(o++a++b).Pairwise (dP rk))(e:r=(o++a++b).reverse):r.Perm (x.toList++y.toList)/\r.Pairwise (tV rk):=by
 subst e
 exact ⟨((h8 _).trans h.1).trans ((h8 _).append (h8 _)),N4.mpr h.2⟩
theorem HW(H:Hy rk S x y){o:Array Keyed}{i j:Nat}(m:MH rk x y o i j)(h:i=0\/j=0):Po rk x y (Vw x y o i j):=by
 refine ND (m.m.finC (N4.mpr H.hx) (N4.mpr H.hy) λv hv u hu=>?_) ?_
 ·obtain⟨n,hn,n1,_⟩:=wJ m.hj hv
  obtain⟨k,hk,k1,_⟩:=wJ m.hi hu
  omega
 ·unfold Vw
  rw[U2,U2,MD,MD,LZ m.hi,LZ m.hj,K6]
  simp
theorem JU(H:Hy rk S x y){o:Array Keyed}{i j:Nat}(m:MH rk x y o i j)(h:j=1):Po rk x y (uI x y o i j):=by
 refine ND (m.m.fin (N4.mpr H.hx) (N4.mpr H.hy) λv hv u hu=>?_) ?_
 ·obtain⟨n,hn,n1,rfl⟩:=wJ m.hi hv
  obtain⟨k,hk,k1,rfl⟩:=wJ m.hj hu
  have:k=0:=by omega
  subst this
  exact H.hf n hn
 ·unfold uI
  rw[U2,U2,MD,MD,LZ m.hi,LZ m.hj,K6]
  simp
structure JH(rk:Keyed->Nat)(x y:Array Keyed)(N:Nat)(i j:Nat)(o:Array Keyed):Prop where
 m:MH rk x y o i j
 hi:1<=i
 hj:2<=j
 hN:N+i+j<=x.size+y.size
noncomputable def RH(rk:Keyed->Nat)(x y:Array Keyed)(N:Nat)(c:Ty):Prop:=(∃t,c.1=some t/\Po rk x y t)\/(c.1=none/\JH rk x y N c.2.1 c.2.2.1 c.2.2.2.1)
noncomputable def pN(rk:Keyed->Nat)(x y:Array Keyed)(N:Nat)(st:SortSt)(r:ForInStep Ty)(st':SortSt):Prop :=
 Gs st st'/\match r with
  | .done c=>RH rk x y N c
  | .yield c=>c.1=none/\JH rk x y N c.2.1 c.2.2.1 c.2.2.2.1
theorem U9(H:Hy rk S x y){N:Nat}{o:Array Keyed}{i j g ac bc:Nat}{st st':SortSt}(hg:Gs st st')(m:MH rk x y o i j)(hi:1<=i)(hj:2<=j)(hN:N+i+j<=x.size+y.size+1)
  (h:∀n (hn:n < y.size),n < j->rk y[n]<=rk (x[i - 1]'(by have:=m.hi;omega))):wpS (model prog w) A E s (hi2 x y i j o g ac bc) (pN rk x y N st) st':=by
 unfold hi2
 have hi':=m.hi
 have m':=m.push H.hx hi h
 refine wpS_bind (SQ (by omega) ?_)
 by_cases h1:i - 1=0
 ·rw[if_pos (by simpa using h1)]
  exact wpS_pure ⟨hg,.inl ⟨_,rfl,HW H m' (.inl h1)⟩⟩
 ·rw[if_neg (by simpa using h1)]
  have jj:JH rk x y N (i - 1) j (o.push (x[i - 1]'(by omega))):=⟨m',by omega,hj,by omega⟩
  by_cases h2:(decide (ac < 7)&&decide (bc < 7))=true
  ·rw[if_pos h2]
   exact wpS_pure ⟨hg,.inr ⟨rfl,jj⟩⟩
  ·rw[if_neg h2]
   exact wpS_pure ⟨hg,rfl,jj⟩
theorem V9(q:kZ prog w A s κ rk S)(H:Hy rk S x y){N:Nat}{o:Array Keyed}{i j g ac bc:Nat}{st st':SortSt}(hk:kindOf st=κ)(hg:Gs st st')(m:MH rk x y o i j)(hi:1<=i)(hj:2<=j)(hN:N+i+j<=x.size+y.size+1)
  (h:∀n (hn:n < x.size),n < i->rk x[n]<=rk (y[j - 1]'(by have:=m.hj;omega))):wpS (model prog w) A E s (hi1 x y i j o g ac bc) (pN rk x y N st) st':=by
 unfold hi1
 have hi':=m.hi
 have hj':=m.hj
 have m':=(m.comm.push H.hy (by omega) h).comm
 refine wpS_bind (SQ (by omega) ?_)
 by_cases h1:j - 1=1
 ·rw[if_pos (by simpa using h1)]
  exact wpS_pure ⟨hg,.inl ⟨_,rfl,JU H m' h1⟩⟩
 ·rw[if_neg (by simpa using h1)]
  refine wpS_bind (SQ (by omega) ?_)
  refine wpS_bind (KZ q (hg.kind.trans hk) (H.Sx _ _) H.Sy (by omega) (λa b hb hab _ _=>eZ H.hy hb hab) (by omega) λp pn k1 k2=>?_)
  dsimp only
  have k1':∀n (hn:n < y.size),n < p->rk y[n] < rk (x[i - 1]'(by omega)):=λn hn hp=>by
   have:=k1 n hn (u4 _) (by omega)
   rw[if_pos rfl]at this
   exact this
  by_cases hk0:j - 1 - p > 0
  ·rw[if_pos hk0]
   have m2:=(m'.comm.chunk H.hy (p:=p) pn λn hn k hk1 n1 n2 n3=>by
     have:=k2 n hn (by omega) (by omega)
     rw[if_pos rfl]at this
     have:=eZ H.hx (i:=k) (j:=i - 1) (by omega) (by omega)
     omega).comm
   by_cases h2:p=1
   ·rw[if_pos (by simpa using h2)]
    exact wpS_pure ⟨hg,.inl ⟨_,rfl,JU H m2 h2⟩⟩
   ·rw[if_neg (by simpa using h2)]
    by_cases h3:p=0
    ·rw[if_pos (by simpa using h3)]
     exact wpS_pure ⟨hg,.inl ⟨_,rfl,HW H m2 (.inr h3)⟩⟩
    ·rw[if_neg (by simpa using h3)]
     exact U9 H hg m2 hi (by omega) (by omega) λn hn n1=>j5 (k1' n hn n1)
  ·rw[if_neg hk0]
   exact U9 H hg m' hi (by omega) (by omega) λn hn n1=>j5 (k1' n hn (by omega))
theorem W9(q:kZ prog w A s κ rk S)(H:Hy rk S x y){N:Nat}{o:Array Keyed}{i j g ac bc:Nat}{st st':SortSt}(hk:kindOf st=κ)(hg:Gs st st')(m:MH rk x y o i j)(hi:1<=i)(hj:2<=j)(hN:N+i+j<=x.size+y.size+1) :
  wpS (model prog w) A E s (nN x y i j o g ac bc) (pN rk x y N st) st':=by
 unfold nN
 have hi':=m.hi
 have hj':=m.hj
 refine wpS_bind (wpS_modify ?_)
 have hg':=hg.set g
 refine wpS_bind (SQ (by omega) ?_)
 refine wpS_bind (KZ q (hg'.kind.trans hk) (H.Sy _ _) H.Sx (by omega) (λa b hb hab _ _=>eZ H.hx hb hab) (by omega) λp pn k1 k2=>?_)
 dsimp only
 have k1':∀n (hn:n < x.size),n < p->rk x[n]<=rk (y[j - 1]'(by omega)):=λn hn hp=>by
  have:=k1 n hn (u4 _) (by omega)
  rw[if_neg (by decide)]at this
  exact this
 by_cases hk0:i - p > 0
 ·rw[if_pos hk0]
  have m2:=m.chunk H.hx (p:=p) pn λn hn k hk1 n1 n2 n3=>by
   have:=k2 n hn (by omega) (by omega)
   rw[if_neg (by decide)]at this
   have:=eZ H.hy (i:=k) (j:=j - 1) (by omega) (by omega)
   omega
  by_cases h3:p=0
  ·rw[if_pos (by simpa using h3)]
   exact wpS_pure ⟨hg',.inl ⟨_,rfl,HW H m2 (.inl h3)⟩⟩
  ·rw[if_neg (by simpa using h3)]
   exact V9 q H hk hg' m2 (by omega) hj (by omega) k1'
 ·rw[if_neg hk0]
  exact V9 q H hk hg' m hi hj (by omega) λn hn n1=>k1' n hn (by omega)
theorem YL(q:kZ prog w A s κ rk S)(H:Hy rk S x y){N:Nat}{c:Ty}{st st':SortSt}(hk:kindOf st=κ)(hg:Gs st st')(hJ:JH rk x y N c.2.1 c.2.2.1 c.2.2.2.1) :
  wpS (model prog w) A E s (dO x y c) (pN rk x y (N+1) st) st':=by
 unfold dO
 have:=hJ.hN
 split
 ·exact W9 q H hk hg hJ.m hJ.hi hJ.hj (by omega)
 ·exact W9 q H hk hg hJ.m hJ.hi hJ.hj (by omega)
theorem ZL(q:kZ prog w A s κ rk S)(H:Hy rk S x y){N g:Nat}{c:lN}{st:SortSt}(hk:kindOf st=κ)(hJ:JH rk x y N c.2.1 c.2.2.1 c.2.2.2.1) :
  wpS (model prog w) A E s (eO x y g c) (λr st'=>st'=st/\match r with
    | .done c=>(∃t,c.1=some t/\Po rk x y t)\/(c.1=none/\JH rk x y (N+1) c.2.1 c.2.2.1 c.2.2.2.1)
    | .yield c=>c.1=none/\JH rk x y (N+1) c.2.1 c.2.2.1 c.2.2.2.1) st:=by
 unfold eO
 obtain⟨m,hi,hj,hN⟩:=hJ
 have hi':=m.hi
 have hj':=m.hj
 refine wpS_bind (SQ (by omega) ?_)
 refine wpS_bind (SQ (by omega) ?_)
 refine wpS_bind (w_lt q hk (H.Sy _ _) (H.Sx _ _) ?_)
 dsimp only
 by_cases hlt:rk (y[c.2.2.1 - 1]'(by omega)) < rk (x[c.2.1 - 1]'(by omega))
 ·rw[if_pos (by simpa using hlt)]
  have m':=m.push H.hx hi λn hn n1=>by have:=eZ H.hy (i:=n) (j:=c.2.2.1 - 1) (by omega) (by omega);omega
  refine wpS_bind (SQ (by omega) ?_)
  by_cases h1:c.2.1 - 1=0
  ·rw[if_pos (by simpa using h1)]
   exact wpS_pure ⟨rfl,.inl ⟨_,rfl,HW H m' (.inl h1)⟩⟩
  ·rw[if_neg (by simpa using h1)]
   have jj:JH rk x y (N+1) (c.2.1 - 1) c.2.2.1 (c.2.2.2.1.push (x[c.2.1 - 1]'(by omega))):=⟨m',by omega,hj,by omega⟩
   split
   ·exact wpS_pure ⟨rfl,.inr ⟨rfl,jj⟩⟩
   ·exact wpS_pure ⟨rfl,rfl,jj⟩
 ·rw[if_neg (by simpa using hlt)]
  have m':=(m.comm.push H.hy (by omega) λn hn n1=>by have:=eZ H.hx (i:=n) (j:=c.2.1 - 1) (by omega) (by omega);omega).comm
  refine wpS_bind (SQ (by omega) ?_)
  by_cases h1:c.2.2.1 - 1=1
  ·rw[if_pos (by simpa using h1)]
   exact wpS_pure ⟨rfl,.inl ⟨_,rfl,JU H m' h1⟩⟩
  ·rw[if_neg (by simpa using h1)]
   have jj:JH rk x y (N+1) c.2.1 (c.2.2.1 - 1) (c.2.2.2.1.push (y[c.2.2.1 - 1]'(by omega))):=⟨m',by omega,by omega,by omega⟩
   split
   ·exact wpS_pure ⟨rfl,.inr ⟨rfl,jj⟩⟩
   ·exact wpS_pure ⟨rfl,rfl,jj⟩
theorem JH.false{N i j:Nat}{o:Array Keyed}(h:JH rk x y N i j o)(hN:x.size+y.size<=N):False:=by
 have h1:=h.hi
 have h2:=h.hj
 have h3:=h.hN
 omega
theorem aM(q:kZ prog w A s κ rk S)(H:Hy rk S x y){N:Nat}{c:mN}{st st':SortSt}(hk:kindOf st=κ)(hg:Gs st st')(hJ:JH rk x y N c.2.1 c.2.2.1 c.2.2.2.1) :
  wpS (model prog w) A E s (oN x y c) (λr st'=>Gs st st'/\match r with
    | .done c=>∃t,c.1=some t/\Po rk x y t
    | .yield c=>c.1=none/\JH rk x y (N+1) c.2.1 c.2.2.1 c.2.2.2.1) st':=by
 unfold oN
 refine wpS_bind (wpS_mono (wpS_forRange (I:=λn c st''=>st''=st'/\c.1=none/\JH rk x y (N+n) c.2.1 c.2.2.1 c.2.2.2.1)
   (Q:=λc st''=>st''=st'/\((∃t,c.1=some t/\Po rk x y t)\/(c.1=none/\JH rk x y N c.2.1 c.2.2.1 c.2.2.2.1))) ?step ?fin ⟨rfl,rfl,hJ⟩) ?post)
 case fin =>
  rintro c st'' ⟨rfl,_,h⟩
  exact (h.false (by omega)).elim
 case step =>
  rintro n c st'' _ _ ⟨rfl,_,h⟩
  refine wpS_mono (ZL q H (hg.kind.trans hk) h) ?_
  rintro r st3 ⟨rfl,h⟩
  cases r with
  | done c =>
   refine ⟨rfl,h.imp id λh=>⟨h.1,h.2.m,h.2.hi,h.2.hj,?_⟩⟩
   have:=h.2.hN
   omega
  | yield c=>exact ⟨rfl,h.1,h.2⟩
 case post =>
  rintro c st'' ⟨rfl,h⟩
  obtain⟨r,c⟩:=c
  rcases h with⟨t,e,h⟩|⟨e,h⟩
  ·cases e
   exact wpS_pure ⟨hg,_,rfl,h⟩
  ·cases e
   dsimp only
   refine wpS_bind (wpS_lift (wpAny_rule ⟨rfl,?_⟩))
   refine wpS_bind (wpS_mono (wpS_forRange (I:=λn c st''=>Gs st st''/\c.1=none/\JH rk x y (N+n) c.2.1 c.2.2.1 c.2.2.2.1)
     (Q:=λc st''=>Gs st st''/\RH rk x y (N+1) c) ?step2 ?fin2 ⟨hg,rfl,h⟩) ?post2)
   case fin2 =>
    rintro c st'' ⟨_,_,h⟩
    exact (h.false (by omega)).elim
   case step2 =>
    rintro n c st'' _ _ ⟨hg2,_,h⟩
    refine wpS_mono (YL q H hk hg2 h) ?_
    rintro r st3 ⟨hg3,h⟩
    cases r with
    | done c =>
     refine ⟨hg3,Or.imp id (λh=>⟨h.1,h.2.m,h.2.hi,h.2.hj,?_⟩) h⟩
     have:=h.2.hN
     omega
    | yield c=>exact ⟨hg3,h.1,h.2⟩
   case post2 =>
    rintro c st'' ⟨hg2,h⟩
    obtain⟨r,c⟩:=c
    rcases h with⟨t,e,h⟩|⟨e,h⟩
    ·cases e
     exact wpS_pure ⟨hg2,_,rfl,h⟩
    ·cases e
     exact wpS_bind (wpS_modify (wpS_pure ⟨hg2.set _,rfl,h⟩))
theorem bM(q:kZ prog w A s κ rk S)(H:Hy rk S x y){st:SortSt}{Q:Array Keyed->SortSt->Prop}(hk:kindOf st=κ)(h:∀r st',Gs st st'->Po rk x y r->Q r st'):wpS (model prog w) A E s (cN x y) Q st:=by
 rw[tE]
 have hy0:=H.y0
 have hx0:=H.x0
 refine wpS_bind (wpS_lift (wpAny_rule ⟨rfl,?_⟩))
 refine wpS_bind (SQ (by omega) ?_)
 have m0:MH rk x y #[] x.size y.size:=⟨⟨by simp,by simp,by simp,by simp⟩,G0 _,G0 _⟩
 have m1:=m0.push H.hx hx0 λn hn _=>H.hl n hn
 have e1:(#[]:Array Keyed).push (x[x.size - 1]'(by omega))=#[x[x.size - 1]'(by omega)]:=rfl
 rw[e1]at m1
 by_cases h1:x.size - 1=0
 ·rw[if_pos (by simpa using h1)]
  exact wpS_pure (h _ _ (Gs.refl _) (HW H m1 (.inl h1)))
 ·rw[if_neg (by simpa using h1)]
  by_cases h2:y.size=1
  ·rw[if_pos (by simpa using h2)]
   exact wpS_pure (h _ _ (Gs.refl _) (JU H m1 h2))
  ·rw[if_neg (by simpa using h2)]
   refine wpS_bind (wpS_get ?_)
   refine wpS_bind (wpS_mono (wpS_forRange (I:=λn c st''=>Gs st st''/\c.1=none/\JH rk x y n c.2.1 c.2.2.1 c.2.2.2.1)
     (Q:=λc st''=>Gs st st''/\∃t,c.1=some t/\Po rk x y t) ?step ?fin ⟨Gs.refl _,rfl,m1,by show 1<=x.size - 1;omega,by show 2<=y.size;omega,by show 0+(x.size - 1)+y.size<=_;omega⟩) ?post)
   case fin =>
    rintro c st'' ⟨_,_,h⟩
    exact (h.false (by omega)).elim
   case step =>
    rintro n c st'' _ _ ⟨hg2,_,h⟩
    refine wpS_mono (aM q H hk hg2 h) ?_
    rintro r st3 ⟨hg3,h⟩
    cases r with
    | done c=>exact ⟨hg3,h⟩
    | yield c=>exact ⟨hg3,h⟩
   case post =>
    rintro c st'' ⟨hg2,t,e,hP⟩
    obtain⟨r,c⟩:=c
    cases e
    exact wpS_pure (h _ _ hg2 hP)
end
noncomputable def KR(rk:Keyed->Nat)(xs:Array Keyed)(i:Nat):Nat:=match xs[i]? with
 | some p=>rk p
 | none=>0
theorem KR_at{rk:Keyed->Nat}{xs:Array Keyed}{i:Nat}(h:i < xs.size):KR rk xs i=rk xs[i]:=by
 unfold KR;rw[getElem?_pos xs i h]
theorem uX{rk:Keyed->Nat}{xs ys:Array Keyed}{i j:Nat}(h:xs[i]?=ys[j]?):KR rk xs i=KR rk ys j:=by unfold KR;rw[h]
theorem iY{rk:Keyed->Nat}{xs:Array Keyed}{i j:Nat}(hj:j<=xs.size)(k:Nat) :
  KR rk (mirror xs i j ((j - i) / 2)) k=if i<=k/\k < j then KR rk xs (i+j - 1 - k) else KR rk xs k:=by
 have e:=getElem?_mirror_all (i:=i) hj k
 split
 ·rename_i h1;rw[if_pos h1]at e;exact uX e
 ·rename_i h1;rw[if_neg h1]at e;exact uX e
theorem YV{rk:Keyed->Nat}{xs:Array Keyed}{c d:Nat}(hs:c < xs.size)(hd:d<=c)(k:Nat) :
  KR rk (bubble xs c d) k=if k=c - d then KR rk xs c else if c - d < k/\k<=c then KR rk xs (k - 1) else KR rk xs k:=by
 have e:=getElem?_bubble hs d hd k
 split
 ·rename_i h1;rw[if_pos h1]at e;exact uX e
 ·rename_i h1
  rw[if_neg h1]at e
  split
  ·rename_i h2;rw[if_pos h2]at e;exact uX e
  ·rename_i h2;rw[if_neg h2]at e;exact uX e
noncomputable def Sg(rk:Keyed->Nat)(xs:Array Keyed)(lo n:Nat):Prop:=∀i j,lo<=i->i<=j->j < lo+n->KR rk xs i<=KR rk xs j
noncomputable def Dg(rk:Keyed->Nat)(xs:Array Keyed)(lo n:Nat):Prop:=∀i j,lo<=i->i<=j->j < lo+n->KR rk xs j<=KR rk xs i
structure Bs(κ:SortKind)(st:SortSt)(lo n:Nat)(st':SortSt):Prop where
 perm:(arrOf st').Perm (arrOf st)
 kind:kindOf st'=κ
 failed:failedOf st'=none
 pend:pendingOf st'=pendingOf st
 keep:∀i,i < lo\/lo+n<=i->(arrOf st')[i]?=(arrOf st)[i]?
theorem Bs.size{κ:SortKind}{st st':SortSt}{lo n:Nat}(h:Bs κ st lo n st'):(arrOf st').size=(arrOf st).size:=h.perm.size_eq
theorem Bs.mir{κ:SortKind}{st st':SortSt}{lo n i j:Nat}(h:Bs κ st lo n st')(hj:j<=(arrOf st).size)(h1:lo<=i)(h2:j<=lo+n):Bs κ st lo n (setArr st' (mirror (arrOf st') i j ((j - i) / 2))) :=
 ⟨(mirror_perm _ _ _ _).trans h.perm,h.kind,h.failed,h.pend,λk hk=>by
   show (mirror (arrOf st') i j ((j - i) / 2))[k]?=_
   rw[getElem?_mirror_all (by rw[h.size];exact hj),if_neg (by omega)]
   exact h.keep k hk⟩
section
variable {prog:Program}{w:World}{A:Around}{E:Value->Shared->Prop}{s:Shared}{κ:SortKind}{rk:Keyed->Nat}{S:Keyed->Prop}{st:SortSt}
noncomputable abbrev AllS(S:Keyed->Prop)(xs:Array Keyed):Prop:=∀p,p∈xs.toList->S p
theorem Bs.inS{st':SortSt}{lo n:Nat}(hS:AllS S (arrOf st))(h:Bs κ st lo n st'){i:Nat}(hi:i < (arrOf st').size):S (arrOf st')[i] :=
 hS _ ((E5.mp h.perm).mem_iff.mp (by simp))
theorem IW(q:kZ prog w A s κ rk S){st':SortSt}{lo n i j:Nat}{Q:Option Bool->SortSt->Prop}(hS:AllS S (arrOf st))(hB:Bs κ st lo n st')(hi:i < (arrOf st).size)(hj:j < (arrOf st).size)
  (h:Q (some (decide (KR rk (arrOf st') i < KR rk (arrOf st') j))) st'):wpS (model prog w) A E s (ltAt' i j) Q st':=by
 have hi':i < (arrOf st').size:=by rw[hB.size];exact hi
 have hj':j < (arrOf st').size:=by rw[hB.size];exact hj
 rw[ltAt'_eq]
 refine wpS_bind (wpS_get ?_)
 refine wpS_bind (SQ hi' (wpS_bind (SQ hj' ?_)))
 refine w_lt q hB.kind (hB.inS hS _) (hB.inS hS _) ?_
 rw[KR_at hi',KR_at hj']at h
 exact h
noncomputable def Iz(lo a nrem:Nat):StateT SortSt Sem AscSt :=
 forIn [a:nrem] ((none,a):AscSt) λ_ z=>do
  let some sm<-ltAt' (lo+z.2) (lo+z.2 - 1)|pure (.done (some none,z.2))
  if sm=true then pure (.done (none,z.2)) else pure (.yield (none,z.2+1))
noncomputable def vI(lo n nrem:Nat):StateT SortSt Sem (Option Nat):=do
 reverseSlice' lo (lo+n)
 let z<-Iz lo n nrem
 match z.1 with
 | some r=>pure r
 | none=>pure (some z.2)
noncomputable def OD(lo n nrem:Nat):StateT SortSt Sem DescSt :=
 forIn [n:nrem] ((none,n,0):DescSt) λ_ z=>do
  let some sm<-ltAt' (lo+z.2.1) (lo+z.2.1 - 1)|pure (.done (some none,z.2.1,z.2.2))
  if sm=true then
   if z.2.2 > 0 then do
    reverseSlice' (lo+z.2.1 - (z.2.2+1)) (lo+z.2.1)
    pure (.yield (none,z.2.1+1,0))
   else pure (.yield (none,z.2.1+1,0))
  else do
   let some la<-ltAt' (lo+z.2.1 - 1) (lo+z.2.1)|pure (.done (some none,z.2.1,z.2.2))
   if la=true then pure (.done (none,z.2.1,z.2.2)) else pure (.yield (none,z.2.1+1,z.2.2+1))
noncomputable def cM(lo n nrem:Nat):StateT SortSt Sem (Option Nat):=do
 liftM (rule "list.sort.descending-run")
 let z<-OD lo (n+1) nrem
 match z.1 with
 | some r=>pure r
 | none =>
  if z.2.2 > 0 then do
   reverseSlice' (lo+z.2.1 - (z.2.2+1)) (lo+z.2.1)
   vI lo z.2.1 nrem
  else vI lo z.2.1 nrem
theorem uE(lo nrem:Nat):countRun' lo nrem=(do
    let z<-Iz lo 1 nrem
    match z.1 with
    | some r=>pure r
    | none =>
      if (z.2==nrem)=true then pure (some z.2)
      else if z.2 > 1 then do
        let some ro<-ltAt' lo (lo+z.2 - 1)|pure none
        if ro=true then pure (some z.2) else do
          reverseSlice' lo (lo+z.2)
          cM lo z.2 nrem
      else cM lo z.2 nrem):=by
 have te:∀m,(do
     reverseSlice' lo (lo+m)
     let z<-Iz lo m nrem
     match z.1 with
     | some r=>pure r
     | none=>pure (some z.2))=vI lo m nrem:=λm=>rfl
 rw[countRun'_eq]
 unfold cM vI OD Iz
 refine congr (congrArg bind rfl) (funext λz=>?_)
 obtain⟨r,n⟩:=z
 cases r with
 | some r=>rfl
 | none =>
  dsimp only
  have tl:∀z:AscSt,(match z.1 with|some r=>pure r|none=>pure (some z.2):StateT SortSt Sem (Option Nat))=match z.1 with|some r=>pure r|none=>pure (some z.2):=λz=>rfl
  split
  ·rfl
  ·split
   ·congr 1
    funext x
    cases x with
    | none=>rfl
    | some ro =>
     dsimp only
     split
     ·rfl
     ·congr 1
      funext _
      congr 1
      funext _
      congr 1
      funext z
      obtain⟨r,m,q⟩:=z
      cases r with
      | some r=>rfl
      | none =>
       dsimp only
       split
       ·congr 1;funext _;congr 1;funext _;congr 1;funext z;obtain⟨r,k⟩:=z;cases r<;>rfl
       ·congr 1;funext _;congr 1;funext z;obtain⟨r,k⟩:=z;cases r<;>rfl
   ·congr 1
    funext _
    congr 1
    funext z
    obtain⟨r,m,q⟩:=z
    cases r with
    | some r=>rfl
    | none =>
     dsimp only
     split
     ·congr 1;funext _;congr 1;funext _;congr 1;funext z;obtain⟨r,k⟩:=z;cases r<;>rfl
     ·congr 1;funext _;congr 1;funext z;obtain⟨r,k⟩:=z;cases r<;>rfl
theorem PD{i j:Nat}{st':SortSt}{Q:Unit->SortSt->Prop}(h:Q () (setArr st' (mirror (arrOf st') i j ((j - i) / 2)))):wpS (model prog w) A E s (reverseSlice' i j) Q st':=by
 rw[reverseSlice'_eq]
 exact wpS_modify h
theorem X9(q:kZ prog w A s κ rk S){st':SortSt}{lo N a nrem:Nat}{Q:AscSt->SortSt->Prop}(hS:AllS S (arrOf st))(hn:lo+nrem<=(arrOf st).size)(ha:1<=a)(han:a<=nrem)(hB:Bs κ st lo N st')(hs:Sg rk (arrOf st') lo a)
  (h:∀n,a<=n->n<=nrem->Sg rk (arrOf st') lo n->(n=nrem\/KR rk (arrOf st') (lo+n) < KR rk (arrOf st') (lo+n - 1))->Q (none,n) st'):wpS (model prog w) A E s (Iz lo a nrem) Q st':=by
 unfold Iz
 refine wpS_forRange (I:=λx c z=>z=st'/\c=(none,x)/\Sg rk (arrOf st') lo x) ?step ?fin ⟨rfl,rfl,hs⟩
 case fin =>
  rintro c z ⟨rfl,rfl,h1⟩
  rw[show max a nrem=nrem by omega]at h1 ⊢
  exact h nrem han (G0 _) h1 (.inl rfl)
 case step =>
  rintro x c z hax hxn ⟨rfl,rfl,h1⟩
  dsimp only
  refine wpS_bind (IW q hS hB (by omega) (by omega) ?_)
  dsimp only
  by_cases hl:KR rk (arrOf z) (lo+x) < KR rk (arrOf z) (lo+x - 1)
  ·rw[if_pos (by simpa using hl)]
   exact wpS_pure (h x hax (by omega) h1 (.inr hl))
  ·rw[if_neg (by simpa using hl)]
   refine wpS_pure ⟨rfl,rfl,λi j hi hij hj=>?_⟩
   by_cases hjx:j < lo+x
   ·exact h1 i j hi hij hjx
   ·have:j=lo+x:=by omega
    subst this
    by_cases hi':i=lo+x
    ·subst hi';exact G0 _
    ·have:=h1 i (lo+x - 1) hi (by omega) (by omega)
     omega
theorem dM(q:kZ prog w A s κ rk S){st':SortSt}{lo n nrem:Nat}{Q:Option Nat->SortSt->Prop}(hS:AllS S (arrOf st))(hn:lo+nrem<=(arrOf st).size)(h1:1<=n)(hnn:n<=nrem)(hB:Bs κ st lo nrem st')(hs:Dg rk (arrOf st') lo n)
  (h:∀m z,Bs κ st lo nrem z->1<=m->m<=nrem->Sg rk (arrOf z) lo m->Q (some m) z):wpS (model prog w) A E s (vI lo n nrem) Q st':=by
 unfold vI
 refine wpS_bind (PD ?_)
 have hz:lo+n<=(arrOf st').size:=by rw[hB.size];omega
 have hB':=hB.mir (i:=lo) (j:=lo+n) (by omega) (G0 _) (by omega)
 refine wpS_bind (X9 q hS hn h1 hnn hB' (λi j hi hij hj=>?_) λm m1 m2 hm _=>wpS_pure (h m _ hB' (by omega) m2 hm))
 show KR rk (mirror _ _ _ _) i<=KR rk (mirror _ _ _ _) j
 rw[iY hz,iY hz,if_pos (by omega),if_pos (by omega)]
 exact hs _ _ (by omega) (by omega) (by omega)
theorem xJ{xs:Array Keyed}{i j:Nat}(hj:j<=xs.size)(he:∀k,i<=k->k < j->KR rk xs k=KR rk xs (j - 1))(k:Nat):KR rk (mirror xs i j ((j - i) / 2)) k=KR rk xs k:=by
 rw[iY hj]
 split
 ·rw[he _ (by omega) (by omega),he k (by omega) (by omega)]
 ·rfl
theorem vE(q:kZ prog w A s κ rk S){st':SortSt}{lo n nrem:Nat}{Q:DescSt->SortSt->Prop}(hS:AllS S (arrOf st))(hn:lo+nrem<=(arrOf st).size)(h1:1<=n)(hnn:n<=nrem)(hB:Bs κ st lo nrem st')(hs:Dg rk (arrOf st') lo n)
  (h:∀m e z,Bs κ st lo nrem z->n<=m->m<=nrem->Dg rk (arrOf z) lo m->e+1<=m->(∀i,lo+m - (e+1)<=i->i < lo+m->KR rk (arrOf z) i=KR rk (arrOf z) (lo+m - 1))->Q (none,m,e) z) :
  wpS (model prog w) A E s (OD lo n nrem) Q st':=by
 unfold OD
 refine wpS_forRange (I:=λx c z=>∃e,c=(none,x,e)/\Bs κ st lo nrem z/\Dg rk (arrOf z) lo x/\e+1<=x/\∀i,lo+x - (e+1)<=i->i < lo+x->KR rk (arrOf z) i=KR rk (arrOf z) (lo+x - 1)) ?step ?fin
  ⟨0,rfl,hB,hs,by omega,λi i1 i2=>by congr 1;omega⟩
 case fin =>
  rintro c z ⟨e,rfl,b,d,e1,e2⟩
  rw[show max n nrem=nrem by omega]at d e1 e2 ⊢
  exact h nrem e z b hnn (G0 _) d e1 e2
 case step =>
  rintro x c z hax hxn ⟨e,rfl,b,d,e1,e2⟩
  dsimp only
  have hz:lo+x<=(arrOf z).size:=by rw[b.size];omega
  refine wpS_bind (IW q hS b (by omega) (by omega) ?_)
  dsimp only
  by_cases hl:KR rk (arrOf z) (lo+x) < KR rk (arrOf z) (lo+x - 1)
  ·rw[if_pos (by simpa using hl)]
   have st1:∀xs:Array Keyed,(∀k,KR rk xs k=KR rk (arrOf z) k)->Dg rk xs lo (x+1):=λxs hk i j hi hij hj=>by
    rw[hk,hk]
    by_cases hjx:j < lo+x
    ·exact d i j hi hij hjx
    ·have:j=lo+x:=by omega
     subst this
     by_cases hi':i=lo+x
     ·subst hi';exact G0 _
     ·have:=d i (lo+x - 1) hi (by omega) (by omega)
      omega
   by_cases he:e > 0
   ·rw[if_pos he]
    exact wpS_bind (PD (wpS_pure ⟨0,rfl,b.mir (by omega) (by omega) (by omega),st1 _ (xJ hz e2),by omega,λi i1 i2=>by congr 1;omega⟩))
   ·rw[if_neg he]
    exact wpS_pure ⟨0,rfl,b,st1 _ (λ_=>rfl),by omega,λi i1 i2=>by congr 1;omega⟩
  ·rw[if_neg (by simpa using hl)]
   refine wpS_bind (IW q hS b (by omega) (by omega) ?_)
   dsimp only
   by_cases hg:KR rk (arrOf z) (lo+x - 1) < KR rk (arrOf z) (lo+x)
   ·rw[if_pos (by simpa using hg)]
    exact wpS_pure (h x e z b hax (by omega) d e1 e2)
   ·rw[if_neg (by simpa using hg)]
    refine wpS_pure ⟨e+1,rfl,b,λi j hi hij hj=>?_,by omega,λi i1 i2=>?_⟩
    ·by_cases hjx:j < lo+x
     ·exact d i j hi hij hjx
     ·have:j=lo+x:=by omega
      subst this
      by_cases hi':i=lo+x
      ·subst hi';exact G0 _
      ·have:=d i (lo+x - 1) hi (by omega) (by omega)
       omega
    ·rw[show lo+(x+1) - 1=lo+x by omega]
     by_cases hix:i=lo+x
     ·subst hix;rfl
     ·have:=e2 i (by omega) (by omega)
      omega
theorem eM(q:kZ prog w A s κ rk S){st':SortSt}{lo n nrem:Nat}{Q:Option Nat->SortSt->Prop}(hS:AllS S (arrOf st))(hn:lo+nrem<=(arrOf st).size)(hnn:n+1<=nrem)(hB:Bs κ st lo nrem st')(hs:Dg rk (arrOf st') lo (n+1))
  (h:∀m z,Bs κ st lo nrem z->1<=m->m<=nrem->Sg rk (arrOf z) lo m->Q (some m) z):wpS (model prog w) A E s (cM lo n nrem) Q st':=by
 unfold cM
 refine wpS_bind (wpS_lift (wpAny_rule ⟨rfl,?_⟩))
 refine wpS_bind (vE q hS hn (by omega) hnn hB hs λm e z b m1 m2 d e1 e2=>?_)
 dsimp only
 have hz:lo+m<=(arrOf z).size:=by rw[b.size];omega
 by_cases he:e > 0
 ·rw[if_pos he]
  refine wpS_bind (PD (dM q hS hn (by omega) m2 (b.mir (by omega) (by omega) (by omega)) (λi j hi hij hj=>?_) h))
  show KR rk (mirror _ _ _ _) j<=KR rk (mirror _ _ _ _) i
  rw[xJ hz e2,xJ hz e2]
  exact d i j hi hij hj
 ·rw[if_neg he]
  exact dM q hS hn (by omega) m2 b d h
theorem fO(q:kZ prog w A s κ rk S){lo nrem:Nat}{Q:Option Nat->SortSt->Prop}(hS:AllS S (arrOf st))(hn:lo+nrem<=(arrOf st).size)(h1:1<=nrem)(hB:Bs κ st lo nrem st)
  (h:∀m z,Bs κ st lo nrem z->1<=m->m<=nrem->Sg rk (arrOf z) lo m->Q (some m) z):wpS (model prog w) A E s (countRun' lo nrem) Q st:=by
 rw[uE]
 refine wpS_bind (X9 q hS hn (G0 1) h1 hB (λi j hi hij hj=>by have:i=j:=(by omega);subst this;exact G0 _) λn n1 n2 sn hor=>?_)
 dsimp only
 by_cases hnn:n=nrem
 ·rw[if_pos (by simpa using hnn)]
  exact wpS_pure (h n st hB n1 n2 sn)
 ·rw[if_neg (by simpa using hnn)]
  have hlt:=hor.resolve_left hnn
  by_cases hgt:n > 1
  ·rw[if_pos hgt]
   refine wpS_bind (IW q hS hB (by omega) (by omega) ?_)
   dsimp only
   by_cases hr:KR rk (arrOf st) lo < KR rk (arrOf st) (lo+n - 1)
   ·rw[if_pos (by simpa using hr)]
    exact wpS_pure (h n st hB n1 n2 sn)
   ·rw[if_neg (by simpa using hr)]
    have hz:lo+n<=(arrOf st).size:=by omega
    have all:∀k,lo<=k->k < lo+n->KR rk (arrOf st) k=KR rk (arrOf st) (lo+n - 1):=λk k1 k2=>by
     have a1:=sn lo k (by omega) k1 k2
     have a2:=sn k (lo+n - 1) k1 (by omega) (by omega)
     omega
    refine wpS_bind (PD (eM q hS hn (by omega) (hB.mir (by omega) (by omega) (by omega)) (λi j hi hij hj=>?_) h))
    show KR rk (mirror _ _ _ _) j<=KR rk (mirror _ _ _ _) i
    rw[xJ hz all,xJ hz all]
    by_cases hjn:j < lo+n
    ·have:=all i hi (by omega)
     have:=all j (by omega) hjn
     omega
    ·have:j=lo+n:=by omega
     subst this
     by_cases hi':i=lo+n
     ·subst hi';exact G0 _
     ·have:=all i hi (by omega)
      omega
  ·rw[if_neg hgt]
   have:n=1:=by omega
   subst this
   refine eM q hS hn (by omega) hB (λi j hi hij hj=>?_) h
   by_cases hi':i=j
   ·subst hi';exact G0 _
   ·have e1:i=lo:=by omega
    have e2:j=lo+1:=by omega
    subst e1;subst e2
    exact j5 hlt
theorem wE(q:kZ prog w A s κ rk S){st':SortSt}{lo N n ok:Nat}{Q:Bool->SortSt->Prop}(hS:AllS S (arrOf st))(hn:lo+n<=(arrOf st).size)(hnN:n<=N)(hok:ok<=n)(hB:Bs κ st lo N st')(hs:Sg rk (arrOf st') lo ok)
  (h:∀z,Bs κ st lo N z->Sg rk (arrOf z) lo n->Q true z):wpS (model prog w) A E s (binarySort' lo n ok) Q st':=by
 rw[binarySort'_eq]
 refine wpS_bind (wpS_mono (wpS_forRange (I:=λk c z=>c=(none,())/\Bs κ st lo N z/\Sg rk (arrOf z) lo (min k n)) (Q:=λc z=>c=(none,())/\Bs κ st lo N z/\Sg rk (arrOf z) lo n) ?step ?fin ?init) ?post)
 case post =>
  rintro c z ⟨rfl,b,hs'⟩
  exact wpS_pure (h z b hs')
 case init =>
  refine ⟨rfl,hB,λi j hi hij hj=>?_⟩
  by_cases h1:ok=0
  ·have:i=j:=by omega
   subst this;exact G0 _
  ·exact hs i j hi hij (by omega)
 case fin =>
  rintro c z ⟨hc,b,hs'⟩
  refine ⟨hc,b,?_⟩
  rwa [show min (max (max ok 1) n) n=n by omega]at hs'
 case step =>
  rintro k c z hak hkn ⟨rfl,b,hs'⟩
  rw[show min k n=k by omega]at hs'
  refine wpS_bind (wpS_mono (wpS_forRange (I:=λx c z'=>z'=z/\∃l r,c=(none,l,r)/\l<=r/\r<=k/\r - l<=k - x/\(∀i,i < l->KR rk (arrOf z) (lo+i)<=KR rk (arrOf z) (lo+k))/\(∀i,r<=i->i < k->KR rk (arrOf z) (lo+k) < KR rk (arrOf z) (lo+i)))
    (Q:=λc z'=>z'=z/\∃l r,c=(none,l,r)/\l<=k/\(∀i,i < l->KR rk (arrOf z) (lo+i)<=KR rk (arrOf z) (lo+k))/\(∀i,l<=i->i < k->KR rk (arrOf z) (lo+k) < KR rk (arrOf z) (lo+i))) ?istep ?ifin ?iinit) ?ipost)
  case iinit=>exact ⟨rfl,0,k,rfl,by omega,by omega,by omega,λi hi=>by omega,λi h1 h2=>by omega⟩
  case ifin =>
   rintro c z' ⟨rfl,l,r,rfl,hlr,hrk,hm,hlo,hhi⟩
   have:l=r:=by omega
   subst this
   exact ⟨rfl,l,l,rfl,hrk,hlo,hhi⟩
  case istep =>
   rintro x c z' _ hxk ⟨rfl,l,r,rfl,hlr,hrk,hm,hlo,hhi⟩
   dsimp only
   by_cases hge:l ≥ r
   ·rw[if_pos hge]
    have:l=r:=by omega
    subst this
    exact wpS_pure ⟨rfl,l,l,rfl,hrk,hlo,hhi⟩
   ·rw[if_neg hge]
    refine wpS_bind (IW q hS b (by omega) (by omega) ?_)
    dsimp only
    by_cases hl:KR rk (arrOf z') (lo+k) < KR rk (arrOf z') (lo+(l+r) / 2)
    ·rw[if_pos (by simpa using hl)]
     refine wpS_pure ⟨rfl,l,(l+r) / 2,rfl,by omega,by omega,by omega,hlo,λi h1 h2=>?_⟩
     have:=hs' (lo+(l+r) / 2) (lo+i) (by omega) (by omega) (by omega)
     omega
    ·rw[if_neg (by simpa using hl)]
     refine wpS_pure ⟨rfl,(l+r) / 2+1,r,rfl,by omega,by omega,by omega,λi h1=>?_,hhi⟩
     have:=hs' (lo+i) (lo+(l+r) / 2) (by omega) (by omega) (by omega)
     omega
  case ipost =>
   rintro c z' ⟨rfl,l,r,rfl,hlk,hlo,hhi⟩
   show wpS _ _ _ _ (do moveDown' (lo+k) (lo+l);pure (ForInStep.yield (none,()))) _ _
   rw[moveDown'_eq]
   have hks:lo+k < (arrOf z').size:=by rw[b.size];omega
   refine wpS_bind (wpS_modify (wpS_pure ⟨rfl,⟨(bubble_perm _ _ _).trans b.perm,b.kind,b.failed,b.pend,λi hi=>?_⟩,?_⟩))
   ·show (bubble (arrOf z') _ _)[i]?=_
    rw[getElem?_bubble hks _ (by omega),if_neg (by omega),if_neg (by omega)]
    exact b.keep i hi
   ·rw[show min (k+1) n=k+1 by omega]
    intro i j hi hij hj
    show KR rk (bubble (arrOf z') (lo+k) (lo+k - (lo+l))) i<=KR rk (bubble (arrOf z') (lo+k) (lo+k - (lo+l))) j
    rw[YV hks (by omega),YV hks (by omega),show lo+k - (lo+k - (lo+l))=lo+l by omega]
    have hlo':∀i,lo<=i->i < lo+l->KR rk (arrOf z') i<=KR rk (arrOf z') (lo+k):=λi h1 h2=>by
     have:=hlo (i - lo) (by omega)
     rwa [show lo+(i - lo)=i by omega]at this
    have hhi':∀i,lo+l<=i->i < lo+k->KR rk (arrOf z') (lo+k) < KR rk (arrOf z') i:=λi h1 h2=>by
     have:=hhi (i - lo) (by omega) (by omega)
     rwa [show lo+(i - lo)=i by omega]at this
    repeat' split
    all_goals first
     | (exfalso;omega)
     | exact G0 _
     | exact hlo' _ (by omega) (by omega)
     | exact j5 (hhi' _ (by omega) (by omega))
     | exact hs' _ _ (by omega) (by omega) (by omega)
end
noncomputable def wb(xs:Array Keyed)(c:Nat)(m:List Keyed)(n:Nat):Array Keyed:=(m.zipIdx n).foldl (λa pj=>a.setIfInBounds (c+pj.2) pj.1) xs
theorem xE(i:Nat):mergeAt' i=(do
    let z<-get
    let (some (sa,na,pw),some (sb,nb,_)):=((pendingOf z)[i]?,(pendingOf z)[i+1]?)|unsupported "internal:list.sort.pending"
    set (setPending z (((pendingOf z).setIfInBounds i (sa,na+nb,pw)).eraseIdxIfInBounds (i+1)))
    let some k<-Hz false (<- elem' (arrOf z) sb) (arrOf z) sa na 0|return false
    let (sa,na):=(sa+k,na - k)
    if na==0 then return true
    let some nb<-Hz true (<- elem' (arrOf z) (sa+na - 1)) (arrOf z) sb nb (nb - 1)|return false
    if nb==0 then return true
    let x:=(arrOf z).extract sa sb
    let y:=(arrOf z).extract sb (sb+nb)
    let r<-if na<=nb then bN x y else cN x y
    modify λv=>setArr v (wb (arrOf v) sa r.toList 0)
    return (failedOf (<- get)).isNone):=rfl
theorem HF:∀(m:List Keyed) (n c:Nat) (xs:Array Keyed),c+n+m.length<=xs.size->∀k,(wb xs c m n)[k]?=if c+n<=k/\k < c+n+m.length then m[k - (c+n)]? else xs[k]?
 | [],n,c,xs,_,k=>by
  show xs[k]?=_
  rw[if_neg (by simp)]
 | p :: m,n,c,xs,h,k=>by
  have hl:(p :: m).length=m.length+1:=rfl
  show (wb (xs.setIfInBounds (c+n) p) c m (n+1))[k]?=_
  rw[HF m (n+1) c _ (by rw[Array.size_setIfInBounds];omega),Array.getElem?_setIfInBounds]
  by_cases h1:c+n=k
  ·subst h1
   rw[if_neg (by omega),if_pos rfl,if_pos (by omega),if_pos (by omega)]
   simp
  ·by_cases h2:c+(n+1)<=k/\k < c+(n+1)+m.length
   ·rw[if_pos h2,if_pos (by omega)]
    have e:k - (c+n)=(k - (c+(n+1)))+1:=by omega
    rw[e,Y4]
   ·rw[if_neg h2,if_neg h1,if_neg (by omega)]
theorem Vy{xs:Array Keyed}{c:Nat}{m:List Keyed}(h:c+m.length<=xs.size):(wb xs c m 0).toList=xs.toList.take c++m++xs.toList.drop (c+m.length):=by
 apply List.ext_getElem?
 intro k
 rw[J5,HF m 0 c xs (by omega)]
 have hl:(xs.toList.take c).length=c:=by rw[S3,U0];omega
 rw[Q2]
 by_cases h1:k < c
 ·rw[if_neg (by omega),X1 (by omega),n8 h1,J5]
 ·rw[O1 (by omega),hl]
  by_cases h2:k - c < m.length
  ·rw[if_pos (by omega),X1 h2]
   rfl
  ·rw[if_neg (by omega),O1 (by omega),v9,J5]
   congr 1
   omega
section
variable {prog:Program}{w:World}{A:Around}{E:Value->Shared->Prop}{s:Shared}{κ:SortKind}{rk:Keyed->Nat}{S:Keyed->Prop}{st:SortSt}
theorem GZ{xs:Array Keyed}{a b i:Nat}(hb:b<=xs.size)(hi:i < (xs.extract a b).size):(xs.extract a b)[i]=xs[a+i]'(by rw[O6]at hi;omega):=by
 rw[Array.getElem_extract]
theorem mk{xs:Array Keyed}{a b:Nat}(hb:b<=xs.size)(h:∀i j,a<=i->i<=j->j < b->KR rk xs i<=KR rk xs j):(xs.extract a b).toList.Pairwise (tV rk):=by
 rw[W3]
 intro i j hi hj hij
 rw[U0]at hi hj
 rw[v3,v3,GZ hb,GZ hb]
 have hz:(xs.extract a b).size=b - a:=by rw[O6];omega
 have:=h (a+i) (a+j) (by omega) (by omega) (by omega)
 rwa [KR_at (by omega),KR_at (by omega)]at this
structure Mt(κ:SortKind)(rk:Keyed->Nat)(st:SortSt)(i sa na nb pw:Nat)(st':SortSt):Prop where
 perm:(arrOf st').Perm (arrOf st)
 kind:kindOf st'=κ
 failed:failedOf st'=none
 pend:pendingOf st'=((pendingOf st).setIfInBounds i (sa,na+nb,pw)).eraseIdxIfInBounds (i+1)
 keep:∀j,j < sa\/sa+(na+nb)<=j->(arrOf st')[j]?=(arrOf st)[j]?
 sg:Sg rk (arrOf st') sa (na+nb)
theorem fM(q:kZ prog w A s κ rk S){i sa na nb pw pw':Nat}{Q:Bool->SortSt->Prop}(hS:AllS S (arrOf st))(hk:kindOf st=κ)(hF:failedOf st=none)(p1:(pendingOf st)[i]?=some (sa,na,pw))(p2:(pendingOf st)[i+1]?=some (sa+na,nb,pw'))
  (hz:sa+na+nb<=(arrOf st).size) (n1:1<=na) (n2:1<=nb) (s1:Sg rk (arrOf st) sa na) (s2:Sg rk (arrOf st) (sa+na) nb) (h:∀st',Mt κ rk st i sa na nb pw st'->Q true st') :
  wpS (model prog w) A E s (mergeAt' i) Q st:=by
 rw[xE]
 refine wpS_bind (wpS_get ?_)
 rw[p1,p2]
 dsimp only
 refine wpS_bind (wpS_modify (f:=λ_=>setPending st (((pendingOf st).setIfInBounds i (sa,na+nb,pw)).eraseIdxIfInBounds (i+1))) ?_)
 generalize hst1:setPending st (((pendingOf st).setIfInBounds i (sa,na+nb,pw)).eraseIdxIfInBounds (i+1))=st1
 have hk1:kindOf st1=κ:=by rw[<- hst1];exact hk
 have hF1:failedOf st1=none:=by rw[<- hst1];exact hF
 have hA1:arrOf st1=arrOf st:=by rw[<- hst1]
 have hP1:pendingOf st1=((pendingOf st).setIfInBounds i (sa,na+nb,pw)).eraseIdxIfInBounds (i+1):=by rw[<- hst1]
 have hSi:∀j (hj:j < (arrOf st).size),S (arrOf st)[j]:=λj hj=>hS _ (by simp)
 have s1':∀a b,sa<=a->a<=b->b < sa+na->KR rk (arrOf st) a<=KR rk (arrOf st) b:=s1
 have s2':∀a b,sa+na<=a->a<=b->b < sa+na+nb->KR rk (arrOf st) a<=KR rk (arrOf st) b:=s2
 refine wpS_bind (SQ (by omega) ?_)
 refine wpS_bind (KZ q hk1 (hSi _ _) hSi (by omega) (λa b hb hab h1 h2=>by
   have:=s1' a b h1 hab h2
   rwa [KR_at (by omega),KR_at hb]at this) (by omega) λk kn k1 k2=>?_)
 dsimp only
 have k1':∀a,sa<=a->a < sa+k->KR rk (arrOf st) a<=KR rk (arrOf st) (sa+na):=λa h1 h2=>by
  have:=k1 a (by omega) h1 h2
  rw[if_neg (by decide)]at this
  rwa [KR_at (by omega),KR_at (by omega)]
 have k2':∀a,sa+k<=a->a < sa+na->KR rk (arrOf st) (sa+na) < KR rk (arrOf st) a:=λa h1 h2=>by
  have:=k2 a (by omega) h1 h2
  rw[if_neg (by decide)]at this
  rwa [KR_at (by omega),KR_at (by omega)]
 by_cases h0:na - k=0
 ·rw[if_pos (by simpa using h0)]
  refine wpS_pure (h st1 ⟨by rw[hA1],hk1,hF1,hP1,λj _=>by rw[hA1],λa b h1 h2 h3=>?_⟩)
  rw[hA1]
  by_cases hb:b < sa+na
  ·exact s1' a b h1 h2 hb
  ·by_cases ha:a < sa+na
   ·exact A1 (k1' a h1 (by omega)) (s2' (sa+na) b (by omega) (by omega) (by omega))
   ·exact s2' a b (by omega) h2 (by omega)
 ·rw[if_neg (by simpa using h0)]
  refine wpS_bind (SQ (by omega) ?_)
  refine wpS_bind (KZ q hk1 (hSi _ _) hSi (by omega) (λa b hb hab h1 h2=>by
    have:=s2' a b h1 hab h2
    rwa [KR_at (by omega),KR_at hb]at this) (by omega) λl ln l1 l2=>?_)
  dsimp only
  have l1':∀a,sa+na<=a->a < sa+na+l->KR rk (arrOf st) a < KR rk (arrOf st) (sa+k+(na - k) - 1):=λa h1 h2=>by
   have:=l1 a (by omega) h1 h2
   rw[if_pos rfl]at this
   rwa [KR_at (by omega),KR_at (by omega)]
  have l2':∀a,sa+na+l<=a->a < sa+na+nb->KR rk (arrOf st) (sa+k+(na - k) - 1)<=KR rk (arrOf st) a:=λa h1 h2=>by
   have:=l2 a (by omega) h1 h2
   rw[if_pos rfl]at this
   rwa [KR_at (by omega),KR_at (by omega)]
  have el:sa+k+(na - k) - 1=sa+na - 1:=by omega
  rw[el]at l1' l2'
  by_cases hl0:l=0
  ·rw[if_pos (by simpa using hl0)]
   refine wpS_pure (h st1 ⟨by rw[hA1],hk1,hF1,hP1,λj _=>by rw[hA1],λa b h1 h2 h3=>?_⟩)
   rw[hA1]
   by_cases hb:b < sa+na
   ·exact s1' a b h1 h2 hb
   ·by_cases ha:a < sa+na
    ·exact A1 (s1' a (sa+na - 1) h1 (by omega) (by omega)) (l2' b (by omega) (by omega))
    ·exact s2' a b (by omega) h2 (by omega)
  ·rw[if_neg (by simpa using hl0)]
   have hxz:((arrOf st).extract (sa+k) (sa+na)).size=na - k:=by rw[O6];omega
   have hyz:((arrOf st).extract (sa+na) (sa+na+l)).size=l:=by rw[O6];omega
   have H:Hy rk S ((arrOf st).extract (sa+k) (sa+na)) ((arrOf st).extract (sa+na) (sa+na+l)):=by
    refine ⟨mk (by omega) λa b h1 h2 h3=>s1' a b (by omega) h2 h3,mk (by omega) λa b h1 h2 h3=>s2' a b h1 h2 (by omega),λj hj=>?_,λj hj=>?_,by omega,by omega,λj hj=>?_,λj hj=>?_⟩
    ·rw[GZ (by omega)];exact hSi _ _
    ·rw[GZ (by omega)];exact hSi _ _
    ·rw[GZ (by omega),GZ (by omega)]
     have:=l1' (sa+na+j) (by omega) (by omega)
     rw[KR_at (by omega),KR_at (by omega)]at this
     simp only[hxz]
     have e2:sa+k+(na - k - 1)=sa+na - 1:=by omega
     simp only[e2]
     exact j5 this
    ·rw[GZ (by omega),GZ (by omega)]
     have:=k2' (sa+k+j) (by omega) (by omega)
     rw[KR_at (by omega),KR_at (by omega)]at this
     simp only[R7]
     exact j5 this
   have go:∀(r:Array Keyed) (st2:SortSt),Gs st1 st2->Po rk ((arrOf st).extract (sa+k) (sa+na)) ((arrOf st).extract (sa+na) (sa+na+l)) r->wpS (model prog w) A E s (do
       modify λv=>setArr v (wb (arrOf v) (sa+k) r.toList 0)
       let v<-get
       pure (failedOf v).isNone) Q st2:=by
    rintro r st2 ⟨g,rfl⟩ ⟨hp,hw⟩
    refine wpS_bind (wpS_modify (wpS_bind (wpS_get ?_)))
    have hlen:r.toList.length=na - k+l:=by rw[hp.length_eq,M0,U0,U0,hxz,hyz]
    have hb:sa+k+r.toList.length<=(arrOf st).size:=by omega
    have eA:arrOf (setArr (DK st1 g) (wb (arrOf (DK st1 g)) (sa+k) r.toList 0))=wb (arrOf st) (sa+k) r.toList 0:=by
     show wb (arrOf st1) _ _ _=_
     rw[hA1]
    have eF:failedOf (setArr (DK st1 g) (wb (arrOf (DK st1 g)) (sa+k) r.toList 0))=none:=hF1
    rw[eF]
    have gt:∀j,(wb (arrOf st) (sa+k) r.toList 0)[j]?=if sa+k<=j/\j < sa+k+r.toList.length then r.toList[j - (sa+k)]? else (arrOf st)[j]?:=λj=>HF r.toList 0 (sa+k) (arrOf st) hb j
    have mid:∀j,sa+k<=j->j < sa+na+l->∃n,sa+k<=n/\n < sa+na+l/\KR rk (wb (arrOf st) (sa+k) r.toList 0) j=KR rk (arrOf st) n:=λj j1 j2=>by
     have hj:j - (sa+k) < r.toList.length:=by omega
     have e:KR rk (wb (arrOf st) (sa+k) r.toList 0) j=rk (r.toList[j - (sa+k)]'hj):=by
      unfold KR
      rw[gt,if_pos (by omega),L0 hj]
     have hm:=hp.mem_iff.mp (Q4 hj)
     rw[e]
     rcases O2.mp hm with hm|hm
     ·obtain⟨n,hn,en⟩:=M3 hm
      rw[U0]at hn
      rw[v3,GZ (by omega)]at en
      refine ⟨sa+k+n,by omega,by omega,?_⟩
      rw[<- en,KR_at (by omega)]
     ·obtain⟨n,hn,en⟩:=M3 hm
      rw[U0]at hn
      rw[v3,GZ (by omega)]at en
      refine ⟨sa+na+n,by omega,by omega,?_⟩
      rw[<- en,KR_at (by omega)]
    have out:∀j,j < sa+k\/sa+na+l<=j->(wb (arrOf st) (sa+k) r.toList 0)[j]?=(arrOf st)[j]?:=λj hj=>by rw[gt,if_neg (by omega)]
    refine wpS_pure (h _ ⟨?_,hk1,hF1,hP1,?_,?_⟩)
    ·rw[eA,E5,Vy hb]
     have e:(arrOf st).toList=(arrOf st).toList.take (sa+k)++(((arrOf st).extract (sa+k) (sa+na)).toList++((arrOf st).extract (sa+na) (sa+na+l)).toList)++(arrOf st).toList.drop (sa+k+r.toList.length):=by
      rw[v4,v4,X2,X2]
      have e1:(arrOf st).toList.drop (sa+na)=((arrOf st).toList.drop (sa+k)).drop (na - k):=by rw[U8];congr 1;omega
      rw[e1,show sa+na - (sa+k)=na - k by omega,show sa+na+l - (sa+na)=l by omega,<- List.take_add,hlen]
      have e2:(arrOf st).toList.drop (sa+k+(na - k+l))=((arrOf st).toList.drop (sa+k)).drop (na - k+l):=by rw[U8]
      rw[e2,Q2,Z3,Z3]
     conv=>rhs;rw[e]
     exact (hp.append_left _).append_right _
    ·intro j hj
     rw[eA]
     exact out j (by omega)
    ·rw[eA]
     intro a b h1 h2 h3
     have kA:∀a,a < sa+k->KR rk (wb (arrOf st) (sa+k) r.toList 0) a=KR rk (arrOf st) a:=λa ha=>uX (out a (.inl ha))
     have kB:∀a,sa+na+l<=a->KR rk (wb (arrOf st) (sa+k) r.toList 0) a=KR rk (arrOf st) a:=λa ha=>uX (out a (.inr ha))
     by_cases ha:a < sa+k
     ·rw[kA a ha]
      by_cases hb1:b < sa+k
      ·rw[kA b hb1];exact s1' a b h1 h2 (by omega)
      ·by_cases hb2:b < sa+na+l
       ·obtain⟨n,m1,m2,en⟩:=mid b (by omega) hb2
        rw[en]
        by_cases hn:n < sa+na
        ·exact s1' a n h1 (by omega) hn
        ·exact A1 (k1' a h1 ha) (s2' (sa+na) n (by omega) (by omega) (by omega))
       ·rw[kB b (by omega)]
        exact A1 (k1' a h1 ha) (s2' (sa+na) b (by omega) (by omega) (by omega))
     ·by_cases ha2:a < sa+na+l
      ·by_cases hb2:b < sa+na+l
       ·have ha':a - (sa+k) < r.toList.length:=by omega
        have hb':b - (sa+k) < r.toList.length:=by omega
        have ea:KR rk (wb (arrOf st) (sa+k) r.toList 0) a=rk (r.toList[a - (sa+k)]'ha'):=by
         unfold KR
         rw[gt,if_pos (by omega),L0 ha']
        have eb:KR rk (wb (arrOf st) (sa+k) r.toList 0) b=rk (r.toList[b - (sa+k)]'hb'):=by
         unfold KR
         rw[gt,if_pos (by omega),L0 hb']
        rw[ea,eb]
        rcases E9 a b with hab|hab
        ·exact W3.mp hw _ _ ha' hb' (by omega)
        ·have:a=b:=by omega
         subst this
         exact G0 _
       ·obtain⟨n,m1,m2,en⟩:=mid a (by omega) ha2
        rw[en,kB b (by omega)]
        by_cases hn:n < sa+na
        ·exact A1 (s1' n (sa+na - 1) (by omega) (by omega) (by omega)) (l2' b (by omega) (by omega))
        ·exact s2' n b (by omega) (by omega) (by omega)
      ·rw[kB a (by omega),kB b (by omega)]
       exact s2' a b (by omega) h2 (by omega)
   by_cases hle:na - k<=l
   ·simp only[if_pos hle]
    exact wpS_bind (XL q H hk1 λr st2 hg hP=>go r st2 hg hP)
   ·simp only[if_neg hle]
    exact wpS_bind (bM q H hk1 λr st2 hg hP=>go r st2 hg hP)
end
noncomputable def Ch(rk:Keyed->Nat)(xs:Array Keyed):List (Nat×Nat×Nat)->Nat->Nat->Prop
 | [],b,e=>b=e
 | p :: l,b,e=>p.1=b/\1<=p.2.1/\Sg rk xs b p.2.1/\Ch rk xs l (b+p.2.1) e
theorem Ch.len{rk:Keyed->Nat}{xs:Array Keyed}:∀{l:List (Nat×Nat×Nat)}{b e:Nat},Ch rk xs l b e->b+l.length<=e
 | [],b,e,h=>by cases h;simp
 | p :: l,b,e,h=>by
  have:=h.2.2.2.len
  have:=h.2.1
  rw[K1]
  omega
theorem Ch.append{rk:Keyed->Nat}{xs:Array Keyed}:∀{l l':List (Nat×Nat×Nat)}{b e:Nat},Ch rk xs (l++l') b e ↔ ∃m,Ch rk xs l b m/\Ch rk xs l' m e
 | [],l',b,e=>⟨λh=>⟨b,rfl,h⟩,λ⟨m,h1,h2⟩=>by cases h1;exact h2⟩
 | p :: l,l',b,e=>⟨λ⟨h1,h2,h3,h4⟩=>by
     obtain⟨m,h5,h6⟩:=Ch.append.mp h4
     exact ⟨m,⟨h1,h2,h3,h5⟩,h6⟩,λ⟨m,⟨h1,h2,h3,h5⟩,h6⟩=>⟨h1,h2,h3,Ch.append.mpr ⟨m,h5,h6⟩⟩⟩
theorem Ch.congr{rk:Keyed->Nat}{xs ys:Array Keyed}:∀{l:List (Nat×Nat×Nat)}{b e:Nat},(∀i,b<=i->i < e->ys[i]?=xs[i]?)->Ch rk xs l b e->Ch rk ys l b e
 | [],_,_,_,h=>h
 | p :: l,b,e,k,⟨h1,h2,h3,h4⟩=>by
  have:=h4.len
  refine ⟨h1,h2,λi j hi hij hj=>?_,h4.congr λi hi he=>k i (by omega) he⟩
  rw[uX (k i hi (by omega)),uX (k j (by omega) (by omega))]
  exact h3 i j hi hij hj
structure In(κ:SortKind)(rk:Keyed->Nat)(st:SortSt)(lo:Nat)(st':SortSt):Prop where
 perm:(arrOf st').Perm (arrOf st)
 kind:kindOf st'=κ
 failed:failedOf st'=none
 ch:Ch rk (arrOf st') (pendingOf st').toList 0 lo
theorem In.size{κ:SortKind}{rk:Keyed->Nat}{st st':SortSt}{lo:Nat}(h:In κ rk st lo st'):(arrOf st').size=(arrOf st).size:=h.perm.size_eq
section
variable {prog:Program}{w:World}{A:Around}{E:Value->Shared->Prop}{s:Shared}{κ:SortKind}{rk:Keyed->Nat}{S:Keyed->Prop}{st:SortSt}
theorem AllS.perm{xs ys:Array Keyed}(h:AllS S xs)(p:ys.Perm xs):AllS S ys:=λq hq=>h q ((E5.mp p).mem_iff.mp hq)
theorem Y9(q:kZ prog w A s κ rk S){i lo:Nat}{st':SortSt}{Q:Bool->SortSt->Prop}(hS:AllS S (arrOf st))(hI:In κ rk st lo st')(hlo:lo<=(arrOf st).size)(hi:i+1 < (pendingOf st').size)
  (h:∀st'',In κ rk st lo st''->(pendingOf st'').size+1=(pendingOf st').size->(∀j,lo<=j->(arrOf st'')[j]?=(arrOf st')[j]?)->Q true st''):wpS (model prog w) A E s (mergeAt' i) Q st':=by
 obtain⟨perm,kind,failed,ch⟩:=hI
 have hl:(pendingOf st').toList.length=(pendingOf st').size:=U0
 obtain⟨pre,p,p',post,e,ep⟩:∃pre p p' post,(pendingOf st').toList=pre++p :: p' :: post/\pre.length=i:=by
  refine ⟨(pendingOf st').toList.take i,(pendingOf st').toList[i]'(by omega),(pendingOf st').toList[i+1]'(by omega),(pendingOf st').toList.drop (i+2),?_,by rw[S3];omega⟩
  have e1:=Y2 (l:=(pendingOf st').toList) (i:=i) (by omega)
  have e2:=Y2 (l:=(pendingOf st').toList) (i:=i+1) (by omega)
  rw[<- e2,<- e1,Z3]
 rw[e]at ch
 obtain⟨m,c1,c2⟩:=Ch.append.mp ch
 obtain⟨sa,na,pw⟩:=p
 obtain⟨sb,nb,pw'⟩:=p'
 obtain⟨f1,f2,f3,g1,g2,g3,c3⟩:=c2
 dsimp only at f1 f2 f3 g1 g2 g3 c3
 subst f1
 subst g1
 have hlen:=c3.len
 have q1:(pendingOf st')[i]?=some (sa,na,pw):=by rw[<- J5,e,O1 (by omega),ep,Nat.sub_self];rfl
 have q2:(pendingOf st')[i+1]?=some (sa+na,nb,pw'):=by rw[<- J5,e,O1 (by omega),ep,N3];rfl
 have hz:=perm.size_eq
 refine fM q (hS.perm perm) kind failed q1 q2 (by omega) f2 g2 f3 g3 λst'' M=>?_
 have el:(pendingOf st'').toList=pre++(sa,na+nb,pw) :: post:=by
  rw[M.pend,Array.toList_eraseIdxIfInBounds,Array.toList_setIfInBounds,e,<- ep,List.set_append_right _ _ (G0 _),Nat.sub_self,List.eraseIdx_append_of_length_le (by omega),N3]
  rfl
 refine h st'' ⟨M.perm.trans perm,M.kind,M.failed,?_⟩ ?_ λj hj=>M.keep j (.inr (by omega))
 ·rw[el]
  refine Ch.append.mpr ⟨sa,c1.congr λj _ hj=>M.keep j (.inl hj),rfl,by show 1<=na+nb;omega,M.sg,?_⟩
  show Ch rk _ post (sa+(na+nb)) lo
  rw[<- Nat.add_assoc]
  exact c3.congr λj hj _=>M.keep j (.inr (by omega))
 ·have e1:=congrArg U4 el
  have e2:=congrArg U4 e
  rw[U0]at e1 e2
  simp only[M0,K1]at e1 e2
  omega
theorem Ch.modify{xs:Array Keyed}(pw:Nat):∀{l:List (Nat×Nat×Nat)}{i b e:Nat},Ch rk xs l b e->Ch rk xs (l.modify i λx=>(x.1,x.2.1,pw)) b e
 | [],i,_,_,h=>by cases i<;>exact h
 | p :: l,0,_,_,h=>h
 | p :: l,i+1,_,_,⟨h1,h2,h3,h4⟩=>⟨h1,h2,h3,h4.modify pw (i:=i)⟩
theorem In.put{lo n pw:Nat}{z:SortSt}(h:In κ rk st lo z):In κ rk st lo (setPending z ((pendingOf z).modify ((pendingOf z).size - 1) λx=>(x.1,x.2.1,pw))) :=
 ⟨h.perm,h.kind,h.failed,by
   show Ch rk (arrOf z) ((pendingOf z).modify ((pendingOf z).size - 1) λx=>(x.1,x.2.1,pw)).toList 0 lo
   rw[Array.toList_modify]
   exact h.ch.modify pw⟩
theorem In.push{lo n:Nat}{z:SortSt}(h:In κ rk st lo z)(hn:1<=n)(hs:Sg rk (arrOf z) lo n):In κ rk st (lo+n) (setPending z ((pendingOf z).push (lo,n,0))) :=
 ⟨h.perm,h.kind,h.failed,by
   show Ch rk (arrOf z) ((pendingOf z).push (lo,n,0)).toList 0 (lo+n)
   rw[U6]
   exact Ch.append.mpr ⟨lo,h.ch,rfl,hn,hs,rfl⟩⟩
theorem In.run{lo n:Nat}{z z':SortSt}(h:In κ rk st lo z)(b:Bs κ z lo n z'):In κ rk st lo z' :=
 ⟨b.perm.trans h.perm,b.kind,b.failed,by
   rw[b.pend]
   exact h.ch.congr λi _ hi=>b.keep i (.inl hi)⟩
theorem Sg.congr{xs ys:Array Keyed}{lo n:Nat}(h:Sg rk xs lo n)(k:∀j,lo<=j->ys[j]?=xs[j]?):Sg rk ys lo n:=λi j hi hij hj=>by
 rw[uX (k i hi),uX (k j (by omega))]
 exact h i j hi hij hj
theorem w_sort(q:kZ prog w A s κ rk S){Q:Unit->SortSt->Prop}(hS:AllS S (arrOf st))(hk:kindOf st=κ)(hF:failedOf st=none)(hP:pendingOf st=#[])
  (h:∀st',(arrOf st').Perm (arrOf st)->failedOf st'=none->Sg rk (arrOf st') 0 (arrOf st).size->Q () st'):wpS (model prog w) A E s sortRuns' Q st:=by
 rw[sortRuns'_eq]
 refine wpS_bind (wpS_get ?_)
 dsimp only
 have I0:In κ rk st 0 st:=⟨Array.Perm.refl _,hk,hF,by rw[hP];rfl⟩
 refine wpS_bind (wpS_mono (wpS_forRange (I:=λx c z=>∃lo,c=(none,lo)/\In κ rk st lo z/\lo<=(arrOf st).size/\(x<=lo\/lo=(arrOf st).size)) (Q:=λc z=>c=(none,(arrOf st).size)/\In κ rk st (arrOf st).size z) ?step ?fin ⟨0,rfl,I0,u4 _,.inl (G0 _)⟩) ?post)
 case fin =>
  rintro c z ⟨lo,rfl,hI,h1,h2⟩
  have:lo=(arrOf st).size:=by omega
  subst this
  exact ⟨rfl,hI⟩
 case step =>
  rintro x c z _ hx ⟨lo,rfl,hI,h1,h2⟩
  dsimp only
  by_cases hge:lo ≥ (arrOf st).size
  ·rw[if_pos hge]
   have:lo=(arrOf st).size:=by omega
   subst this
   exact wpS_pure ⟨rfl,hI⟩
  ·rw[if_neg hge]
   have hz:=hI.size
   have hS':AllS S (arrOf z):=AllS.perm hS hI.perm
   refine wpS_bind (fO q hS' (by omega) (by omega) ⟨Array.Perm.refl _,hI.kind,hI.failed,rfl,λ_ _=>rfl⟩ λn z1 b1 n1 n2 g1=>?_)
   dsimp only
   have rest:∀(n:Nat) (z1:SortSt),In κ rk st lo z1->1<=n->lo+n<=(arrOf st).size->Sg rk (arrOf z1) lo n->∃c,c=n/\In κ rk st lo z1/\Sg rk (arrOf z1) lo c/\1<=c/\lo+c<=(arrOf st).size:=λn z1 a b c d=>⟨n,rfl,a,d,b,c⟩
   by_cases hlt:n < minRun' (arrOf st).size (arrOf st).size 0
   case' pos =>
    rw[if_pos hlt]
    refine wpS_bind (wpS_lift (wpAny_rule ⟨rfl,?_⟩))
    refine wpS_bind (wE (N:=(arrOf st).size - lo) q hS' (n:=min ((arrOf st).size - lo) (minRun' (arrOf st).size (arrOf st).size 0)) (by omega) (by omega) (by omega) b1 g1 λz2 b2 g2=>?_)
    simp only[q9,G3,if_false]
    have hI2:=hI.run b2
    have m1:1<=min ((arrOf st).size - lo) (minRun' (arrOf st).size (arrOf st).size 0):=by omega
    have m2:lo+min ((arrOf st).size - lo) (minRun' (arrOf st).size (arrOf st).size 0)<=(arrOf st).size:=by omega
    clear b2 b1 g1
    generalize min ((arrOf st).size - lo) (minRun' (arrOf st).size (arrOf st).size 0)=m at *
   case' neg =>
    rw[if_neg hlt]
    have hI2:=hI.run b1
    have m1:=n1
    have m2:lo+n<=(arrOf st).size:=by omega
    have g2:=g1
    clear b1 g1 n1 n2 hlt
    generalize n=m at *
    generalize z1=z2 at *
   all_goals
    refine wpS_bind (wpS_get ?_)
    cases hb:(pendingOf z2).back? with
    | none=>exact wpS_bind (wpS_modify (wpS_pure ⟨lo+m,rfl,hI2.push m1 g2,m2,.inl (by omega)⟩))
    | some pb =>
     obtain⟨s1,n1,pv⟩:=pb
     dsimp only
     refine wpS_bind (wpS_mono (wpS_forRange (I:=λ_ c z=>c=(none,())/\In κ rk st lo z/\∀j,lo<=j->(arrOf z)[j]?=(arrOf z2)[j]?) (Q:=λc z=>c=(none,())/\In κ rk st lo z/\∀j,lo<=j->(arrOf z)[j]?=(arrOf z2)[j]?) ?_ (λ_ _ hh=>hh) ⟨rfl,hI2,λ_ _=>rfl⟩) ?_)
     ·rintro y c z _ _ ⟨rfl,hI3,k3⟩
      refine wpS_bind (wpS_get ?_)
      by_cases hp:(pendingOf z).size > 1
      ·rw[if_pos hp]
       cases hq:(pendingOf z)[(pendingOf z).size - 2]? with
       | none=>exact wpS_pure ⟨rfl,hI3,k3⟩
       | some pq =>
        obtain⟨u1,u2,older⟩:=pq
        dsimp only
        split
        ·exact wpS_pure ⟨rfl,hI3,k3⟩
        ·refine wpS_bind (Y9 q hS hI3 (by omega) (by omega) λz4 hI4 _ k4=>?_)
         simp only[q9,G3,if_false]
         exact wpS_pure ⟨rfl,hI4,λj hj=>(k4 j hj).trans (k3 j hj)⟩
      ·rw[if_neg hp]
       exact wpS_pure ⟨rfl,hI3,k3⟩
     ·rintro c z ⟨rfl,hI3,k3⟩
      exact wpS_bind (wpS_modify (wpS_bind (wpS_modify (wpS_pure ⟨lo+m,rfl,(hI3.put (n:=0)).push m1 (g2.congr k3),m2,.inl (by omega)⟩))))
 case post =>
  rintro c z ⟨rfl,hI⟩
  dsimp only
  refine wpS_bind (wpS_mono (wpS_forRange (I:=λx c z=>c=(none,())/\In κ rk st (arrOf st).size z/\(pendingOf z).size+x<=(arrOf st).size) (Q:=λc z=>c=(none,())/\In κ rk st (arrOf st).size z/\(pendingOf z).size<=1) ?_ ?_ ⟨rfl,hI,?_⟩) ?_)
  ·rintro x c z _ hx ⟨rfl,hI,hx2⟩
   refine wpS_bind (wpS_get ?_)
   by_cases hp:(pendingOf z).size<=1
   ·rw[if_pos hp]
    exact wpS_pure ⟨rfl,hI,hp⟩
   ·rw[if_neg hp]
    refine wpS_bind (Y9 q hS hI (G0 _) (by (repeat' split)<;>omega) λz4 hI4 hs4 _=>?_)
    simp only[q9,G3,if_false]
    exact wpS_pure ⟨rfl,hI4,by omega⟩
  ·rintro c z ⟨rfl,hI,hx2⟩
   exact ⟨rfl,hI,by omega⟩
  ·have:=hI.ch.len
   rw[U0]at this
   omega
  ·rintro c z ⟨rfl,hI,hp⟩
   refine wpS_pure (h z hI.perm hI.failed ?_)
   have hc:=hI.ch
   have hl:(pendingOf z).toList.length<=1:=by rw[U0];exact hp
   match (pendingOf z).toList,hc,hl with
   | [],hc,_ =>
    have:0=(arrOf st).size:=hc
    intro i j _ _ hj
    omega
   | [p],⟨h1,h2,h3,h4⟩,_ =>
    have h4:0+p.2.1=(arrOf st).size:=h4
    rw[T5]at h4
    rw[h4]at h3
    exact h3
end
end SG
namespace L2
open PySem PySem.Spec PyProof.Rows PySem.W
section
variable {prog:Program}{w:World}{A:Around}{E:Value->Shared->Prop}{s:Shared}{κ:SortKind}{vs:List Value}{rk:Value->Nat}
theorem ZV{p:Keyed}(h:p∈(pairsOf vs).toList):p.1=p.2/\p.2∈vs:=by
 have h:p∈(vs.toArray.zip vs.toArray).toList:=h
 rw[Array.toList_zip]at h
 obtain⟨i,hi,e⟩:=M3 h
 rw[List.getElem_zip]at e
 subst e
 exact ⟨rfl,Q4 _⟩
theorem KU{a:Addr}{n:Nat}{P:Fin->Shared->Prop}(ho:s.heap.get? a=some (seqObj "list" vs.toArray n))(hz:vs.length<=sizeLine)
  (hk:2<=vs.length->∀s':Shared,(∀b o,b≠a->s.heap.get? b=some o->s'.heap.get? b=some o)->∀Q':SortKind->Shared->Prop,Q' κ s'->wpAny (model prog w) A (keyKind' vs.toArray) Q' E s')
  (hlt:∀s':Shared,(∀b o,b≠a->s.heap.get? b=some o->s'.heap.get? b=some o)->∀x y,x∈vs->y∈vs->∀Q':Bool->Shared->Prop,Q' (decide (rk x < rk y)) s'->wpAny (model prog w) A (keyLt' κ x y) Q' (λ_ _=>False) s')
  (h:∀out:List Value,out.Perm vs->out.Pairwise (λx y=>rk x<=rk y)->P (.done (.ret .none)) { s with heap:=sortedHeap s.heap a vs out.toArray }) :
  wpAny (model prog w) A (Builtin.«list.sort» ⟨[.ref a],[]⟩) P E s:=by
 rw[list_sort_plain]
 have ha:a < s.heap.objs.size:=B0 ho
 refine wpAny_bind (listItems_at ho rfl ?_)
 refine wpAny_bind (listUpdate_at ho rfl ?_)
 obtain⟨e1,ho1⟩:∃e1,(s.heap.update a (S2 λ_=>#[])).get? a=some (seqObj "list" #[] e1):=⟨_,get?_update_seq ho (λ_=>#[])⟩
 refine wpAny_bind (seqEpoch_at ho1 rfl ?_)
 refine wpAny_bind (wpAny_newTuple ?_)
 refine wpAny_bind (wpAny_newList ?_)
 refine wpAny_holding ?_
 have ho6:(((s.heap.update a (S2 λ_=>#[])).push (seqObj "tuple" vs.toArray 0)).push (seqObj "list" #[] 0)).get? a=some (seqObj "list" #[] e1):=by
  rw[W6 _ _ _ (by rw[size_push',u8];exact R0 (X6 ha)),W6 _ _ _ (by rw[u8];exact R0 ha)]
  exact ho1
 have kp:∀b o,b≠a->s.heap.get? b=some o->(((s.heap.update a (S2 λ_=>#[])).push (seqObj "tuple" vs.toArray 0)).push (seqObj "list" #[] 0)).get? b=some o:=λb o hb e=>by
  refine g0 _ (g0 _ ?_)
  rw[j9 _ _ _ _ hb]
  exact e
 show wpAny (model prog w) A _ P E { s with heap:=((s.heap.update a (S2 λ_=>#[])).push (seqObj "tuple" vs.toArray 0)).push (seqObj "list" #[] 0) }
 dsimp only
 have hsz:vs.toArray.size=vs.length:=by simp
 have out0:((pairsOf vs).map (·.2))=vs.toArray:=by
  apply Array.toList_inj.mp
  rw[m7]
  show (vs.toArray.zip vs.toArray).toList.map (·.2)=_
  simp only[Array.toList_zip]
  exact List.map_snd_zip (G0 _)
 by_cases h2:vs.toArray.size < 2
 ·rw[if_pos h2,if_pos h2]
  refine wpAny_bind (wpAny_pure ?_)
  rw[StateT.run_pure]
  refine wpAny_bind (wpAny_pure ?_)
  dsimp only
  refine wpAny_bind (seqEpoch_at ho6 rfl ?_)
  refine wpAny_bind (listUpdate_at ho6 rfl ?_ (hsz2:=by rw[Array.size_map];show (pairsOf vs).size<=_;rw[pairsOf_size];exact Nat.le_succ_of_le hz))
  simp only[bne_self_eq_false,G3,if_false]
  have h':=h vs (List.Perm.refl _) (by
    match vs,h2 with
    | [],_=>exact .nil
    | [x],_=>exact t6 _ _
    | x :: y :: z,h2=>simp at h2;omega)
  rw[<- out0]at h'
  exact wpAny_pure h'
 ·rw[if_neg h2,if_neg h2]
  have h2':2<=vs.length:=by omega
  refine wpAny_bind (hk h2' _ kp _ ?_)
  have run:=SG.w_sort (prog:=prog) (w:=w) (A:=A) (E:=E) (κ:=κ) (rk:=λp=>rk p.1) (S:=λp=>p.1∈vs) (st:=SortSt.mk' κ (pairsOf vs) #[] 7 none)
   (s:={ s with heap:=((s.heap.update a (S2 λ_=>#[])).push (seqObj "tuple" vs.toArray 0)).push (seqObj "list" #[] 0) })
   (Q:=λ_ st'=>(arrOf st').Perm (pairsOf vs)/\failedOf st'=none/\SG.Sg (λp=>rk p.1) (arrOf st') 0 (pairsOf vs).size)
   (λx y hx hy Q' hQ'=>hlt _ kp _ _ hx hy Q' hQ') (λp hp=>by have:=ZV hp;show p.1∈vs;rw[this.1];exact this.2) rfl rfl rfl λst' p1 p2 p3=>⟨p1,p2,p3⟩
  refine wpAny_bind (wpAny_mono run ?_ λ_ _ e=>e)
  rintro⟨⟨⟩,st'⟩ s' ⟨rfl,hp,hf,hs⟩
  dsimp only at hp hf hs ⊢
  refine wpAny_bind (seqEpoch_at ho6 rfl ?_)
  have hpl:=E5.mp hp
  have eq12:∀p∈(arrOf st').toList,p.1=p.2:=λp h=>(ZV (hpl.mem_iff.mp h)).1
  have hO:((arrOf st').map (·.2)).toList.Perm vs:=by
   rw[m7]
   have e:(pairsOf vs).toList.map (·.2)=vs:=by rw[<- m7,out0]
   have:=hpl.map (·.2)
   rw[e]at this
   exact this
  have hL:((arrOf st').map (·.2)).toList.length=vs.length:=hO.length_eq
  rw[U0]at hL
  refine wpAny_bind (listUpdate_at ho6 rfl ?_ (hsz2:=by rw[hL];exact Nat.le_succ_of_le hz))
  rw[hf]
  simp only[bne_self_eq_false,G3,if_false]
  refine wpAny_pure ?_
  have:=h ((arrOf st').map (·.2)).toList hO (by
    rw[m7,X4,W3]
    intro i j hi hj hij
    rw[U0]at hi hj
    have hz2:(arrOf st').size=(pairsOf vs).size:=hp.size_eq
    have:=hs i j (u4 _) (by omega) (by omega)
    rw[SG.KR_at hi,SG.KR_at hj]at this
    rw[v3,v3,<- eq12 _ (by simp),<- eq12 _ (by simp)]
    exact this)
  rw[Array.toArray_toList]at this
  exact this
theorem Jz{l:Addr}{Q:Value->Shared->Prop}(hl:s.heap.IsList l vs.toArray)(hz:vs.length<=sizeLine)
  (hk:2<=vs.length->∀s':Shared,(∀b o,s.heap.get? b=some o->s'.heap.get? b=some o)->∀(E:Value->Shared->Prop) (Q':SortKind->Shared->Prop),Q' κ s'->wpAny (model prog w) A.in1.in1 (keyKind' vs.toArray) Q' E s')
  (hlt:∀s':Shared,(∀b o,s.heap.get? b=some o->s'.heap.get? b=some o)->∀x y,x∈vs->y∈vs->∀Q':Bool->Shared->Prop,Q' (decide (rk x < rk y)) s'->wpAny (model prog w) A.in1.in1 (keyLt' κ x y) Q' (λ_ _=>False) s')
  (h:∀out:List Value,out.Perm vs->out.Pairwise (λx y=>rk x<=rk y)->Q (.ref (s.heap.objs.size+1)) { s with heap:=sortedAll s.heap vs out.toArray }) :
  wpAny (model prog w) A (call (.builtin "sorted") [.ref l]) Q E s:=by
 refine Calls.call_function_entry kind_sorted plain_sorted entry_sorted (args_sorted1 _) ?_
 unfold Builtin.«sorted»
 refine wpAny_bind (m:=checkCount "sorted" 1 1 _) (wpAny_pure ?_)
 refine wpAny_bind (collect_list hl ?_ (hsz:=hz))
 refine wpAny_bind (wpAny_newList ?_ hz)
 have hsz:((s.heap.push (seqObj "list" #[] 0)).update s.heap.objs.size (S2 (·++vs.toArray))).objs.size=s.heap.objs.size+1:=by
  rw[u8,size_push']
 have hoL:(((s.heap.push (seqObj "list" #[] 0)).update s.heap.objs.size (S2 (·++vs.toArray))).push (seqObj "list" vs.toArray 0)).get? (s.heap.objs.size+1)=some (seqObj "list" vs.toArray 0):=by
  rw[<- hsz];exact J0 _ rfl
 have keep:∀b o,s.heap.get? b=some o->b≠s.heap.objs.size+1/\(((s.heap.push (seqObj "list" #[] 0)).update s.heap.objs.size (S2 (·++vs.toArray))).push (seqObj "list" vs.toArray 0)).get? b=some o:=λb o q=>by
  have hlt:b < s.heap.objs.size:=B0 q
  refine ⟨R0 (X6 hlt),?_⟩
  rw[W6 _ _ _ (by rw[hsz];exact R0 (X6 hlt)),j9 _ _ _ _ (R0 hlt),W6 _ _ _ (R0 hlt)]
  exact q
 show wpAny _ _ _ _ _ { s with heap:=((s.heap.push (seqObj "list" #[] 0)).update s.heap.objs.size (S2 (·++vs.toArray))).push (seqObj "list" vs.toArray 0) }
 rw[hsz]
 refine wpAny_bind (wpAny_holding (wpAny_call_entry slot_list_sort ⟨_,hoL,rfl⟩ entry_list_sort (KU (κ:=κ) (rk:=rk) hoL hz (λh2 s' k Q' q=>hk h2 s' (λb o e=>k b o (keep b o e).1 (keep b o e).2) _ Q' q)
   (λs' k x y hx hy Q' q=>hlt s' (λb o e=>k b o (keep b o e).1 (keep b o e).2) x y hx hy Q' q) λout o1 o2=>⟨_,rfl,?_⟩) (args_list_sort _)))
 exact wpAny_pure ⟨_,rfl,h out o1 o2⟩
end
end L2
namespace SG
structure Wk{α:Type}(lt:α->α->Bool):Prop where
 irr:∀a,lt a a=false
 tr:∀a b c,lt a b=true->lt b c=true->lt a c=true
 nt:∀a b c,lt a b=false->lt b c=false->lt a c=false
theorem IF{α:Type}{p q:α->Bool}:∀{l:List α},(∀a∈l,p a=true->q a=true)->l.countP p<=l.countP q
 | [],_=>G0 _
 | a :: l,h=>by
  have ih:=IF (l:=l) λx hx=>h x (u0 _ hx)
  rw[o7,o7]
  have:=h a A0
  cases hp:p a
  ·simp;omega
  ·rw[this hp];simp;omega
theorem nk{α:Type}{p q:α->Bool}:∀{l:List α},(∀a∈l,p a=true->q a=true)->(∃a∈l,p a=false/\q a=true)->l.countP p < l.countP q
 | [],_,⟨_,h,_⟩=>by simp at h
 | a :: l,h,⟨x,hx,h1,h2⟩=>by
  rw[o7,o7]
  rcases B2.mp hx with rfl|hx
  ·have:=IF (l:=l) λx hx=>h x (u0 _ hx)
   rw[h1,h2]
   simp
   omega
  ·have ih:=nk (l:=l) (λx hx=>h x (u0 _ hx)) ⟨x,hx,h1,h2⟩
   have:=h a A0
   cases hp:p a
   ·simp;omega
   ·rw[this hp];simp;omega
theorem rank{α:Type}{lt:α->α->Bool}(W:Wk lt){l:List α}{x y:α}(hx:x∈l)(hy:y∈l):decide (l.countP (λa=>lt a x) < l.countP (λa=>lt a y))=lt x y:=by
 cases h:lt x y
 ·rw[decide_eq_false_iff_not,Nat.not_lt]
  refine IF λa _ ha=>?_
  cases h2:lt a x
  ·rw[W.nt a x y h2 h]at ha;cases ha
  ·rfl
 ·rw[decide_eq_true_eq]
  exact nk (λa _ ha=>W.tr a x y ha h) ⟨x,hx,W.irr x,h⟩
theorem lex_wk:Wk HT.lexLt:=by
 refine ⟨λa=>?_,λa=>?_,λa=>?_⟩
 ·induction a with
  | nil=>rfl
  | cons x a ih=>rw[HT.lexLt_cons,if_pos rfl];exact ih
 ·induction a with
  | nil =>
   intro b c h1 h2
   cases c with
   | nil=>cases b<;>cases h2
   | cons z c=>rfl
  | cons x a ih =>
   intro b c h1 h2
   cases b with
   | nil=>cases h1
   | cons y b =>
    cases c with
    | nil=>cases h2
    | cons z c =>
     rw[HT.lexLt_cons]at h1 h2 ⊢
     by_cases e1:x=y
     ·subst e1
      rw[if_pos rfl]at h1
      by_cases e2:x=z
      ·subst e2
       rw[if_pos rfl]at h2 ⊢
       exact ih b c h1 h2
      ·rw[if_neg e2]at h2 ⊢;exact h2
     ·rw[if_neg e1]at h1
      have h1:=of_decide_eq_true h1
      by_cases e2:y=z
      ·subst e2
       rw[if_neg e1]
       exact decide_eq_true h1
      ·rw[if_neg e2]at h2
       have h2:=of_decide_eq_true h2
       rw[if_neg (by omega)]
       exact decide_eq_true (by omega)
 ·induction a with
  | nil =>
   intro b c h1 h2
   cases b with
   | nil=>exact h2
   | cons y b=>cases h1
  | cons x a ih =>
   intro b c h1 h2
   cases c with
   | nil=>rfl
   | cons z c =>
    cases b with
    | nil=>cases h2
    | cons y b =>
     rw[HT.lexLt_cons]at h1 h2 ⊢
     by_cases e1:x=y
     ·subst e1
      rw[if_pos rfl]at h1
      by_cases e2:x=z
      ·subst e2
       rw[if_pos rfl]at h2 ⊢
       exact ih b c h1 h2
      ·rw[if_neg e2]at h2 ⊢;exact h2
     ·rw[if_neg e1]at h1
      have h1:=of_decide_eq_false h1
      by_cases e2:y=z
      ·subst e2
       rw[if_neg e1]
       exact decide_eq_false h1
      ·rw[if_neg e2]at h2
       have h2:=of_decide_eq_false h2
       rw[if_neg (by omega)]
       exact decide_eq_false (by omega)
theorem lex_eq:∀{a b:List Int},HT.lexLt a b=false->HT.lexLt b a=false->a=b
 | [],[],_,_=>rfl
 | [],_ :: _,h,_=>by cases h
 | _ :: _,[],_,h=>by cases h
 | x :: a,y :: b,h1,h2=>by
  rw[HT.lexLt_cons]at h1 h2
  by_cases e:x=y
  ·subst e
   rw[if_pos rfl]at h1 h2
   rw[lex_eq h1 h2]
  ·rw[if_neg e]at h1
   rw[if_neg (λz=>e z.symm)]at h2
   have h1:=of_decide_eq_false h1
   have h2:=of_decide_eq_false h2
   omega
theorem sorted_uniq{α:Type}{lt:α->α->Bool}(an:∀a b,lt a b=false->lt b a=false->a=b):∀{l m:List α},l.Perm m->l.Pairwise (λa b=>lt b a=false)->m.Pairwise (λa b=>lt b a=false)->l=m
 | [],m,p,_,_=>by rw[List.nil_perm.mp p]
 | x :: l,[],p,_,_=>by simp at p
 | x :: l,y :: m,p,h1,h2=>by
  have e:x=y:=by
   have hx:x∈y :: m:=p.mem_iff.mp A0
   have hy:y∈x :: l:=p.mem_iff.mpr A0
   rcases B2.mp hx with e|hx
   ·exact e
   ·rcases B2.mp hy with e|hy
    ·exact e.symm
    ·exact an x y ((O3.mp h2).1 x hx) ((O3.mp h1).1 y hy)
  subst e
  rw[sorted_uniq an (List.perm_cons x |>.mp p) (O3.mp h1).2 (O3.mp h2).2]
end SG
namespace L2
open PySem PySem.Spec PyProof.Rows PySem.W
section
variable {X:Cx}{α:Type}[Inhabited α]
noncomputable def LU(K:q0)(Rep:Hp->Addr->α->Prop)(fn:Hp->V->α)(lt:α->α->Bool):List V->Hp->VK->Prop:=λxs H Q=>∃(a:Addr) (us:List V),xs=[.ref a]/\SqL K H a us/\us.length<=sizeLine /\
 (∀v∈us,∃c x,v=.ref c/\Rep H c x)/\∀(p:Addr) (us':List V),H p=none->us'.Perm us->(us'.map (fn H)).Pairwise (λa b=>lt b a=false)->Q (.ref p) (HQ H p (.lst us'))
theorem Kz{us:List V}{its:List Value}:∀{out:List Value},out.Perm its->Vals us its->∃us':List V,us'.Perm us/\Vals us' out:=by
 intro out p
 induction p generalizing us with
 | nil=>intro h;exact ⟨us,List.Perm.refl _,h⟩
 | cons x _ ih =>
  intro h
  cases h with
  | cons h t =>
   obtain⟨us',p,r⟩:=ih t
   exact ⟨_,p.cons _,.cons h r⟩
 | swap x y l =>
  intro h
  cases h with
  | cons h1 t=>cases t with|cons h2 t=>exact ⟨_,List.Perm.swap _ _ _,.cons h2 (.cons h1 t)⟩
 | trans _ _ ih1 ih2 =>
  intro h
  obtain⟨u2,p2,r2⟩:=ih2 h
  obtain⟨u1,p1,r1⟩:=ih1 r2
  exact ⟨u1,p1.trans p2,r1⟩
end
section
variable {X:Cx}{α:Type}[Inhabited α]{Rep:Hp->Addr->α->Prop}{fn:Hp->V->α}{lt:α->α->Bool}{κ:SortKind}
theorem aG{c:Addr}{u:Value}(h:RelV (.ref c) u):u=.ref c:=h
noncomputable def yJ(fn:Hp->V->α)(H:Hp):Value->α
 | .ref c=>fn H (.ref c)
 | _=>default
theorem JF(W:SG.Wk lt)(hf:∀H c a,Rep H c a->fn H (.ref c)=a)
  (hkind:∀{pins:List (Addr×Obj)}{s:Shared}{σ:St}{H:Hp},Inv X pins σ H s->∀its:List Value,2<=its.length->(∀u∈its,∃c x,u=.ref c/\Rep H c x)->∀(s':Shared),(∀b o,s.heap.get? b=some o->s'.heap.get? b=some o)->∀(E:Value->Shared->Prop) (Q':SortKind->Shared->Prop),Q' κ s'->wpAny (model X.prog X.w) X.A.in1.in1 (keyKind' its.toArray) Q' E s')
  (hcmp:∀{pins:List (Addr×Obj)}{s:Shared}{σ:St}{H:Hp},Inv X pins σ H s->∀(c d:Addr) (x y:α),Rep H c x->Rep H d y->∀(s':Shared),(∀b o,s.heap.get? b=some o->s'.heap.get? b=some o)->∀Q':Bool->Shared->Prop,Q' (lt x y) s'->wpAny (model X.prog X.w) X.A.in1.in1 (keyLt' κ (.ref c) (.ref d)) Q' (λ_ _=>False) s') :
  hX X (.builtin "sorted") (LU X.K Rep fn lt):=by
 intro pins s σ H xs us Q I r h
 obtain⟨a,vs,rfl,hs,hz,hrep,q⟩:=h
 obtain⟨u,rfl,ru⟩:=VZ r
 cases ru
 obtain⟨its,rv,⟨o,n,e,c,d1,d2⟩,hz'⟩:=I.list hs
 have hl:=rv.length
 have at':∀u∈its,∃c x,u=.ref c/\Rep H c x:=λu hu=>by
  obtain⟨i,hi,rfl⟩:=M3 hu
  have hi2:i < vs.length:=by omega
  obtain⟨c,x,hv,hr⟩:=hrep _ (Q4 hi2)
  obtain⟨u,hu,ru⟩:=rv.get (L0 hi2)
  rw[hv]at ru
  rw[L0 hi]at hu
  have:its[i]=u:=S1 hu
  rw[this]
  exact ⟨c,x,aG ru,hr⟩
 have key:∀x∈its,∀y∈its,decide ((its.map (yJ fn H)).countP (λa=>lt a (yJ fn H x)) < (its.map (yJ fn H)).countP (λa=>lt a (yJ fn H y)))=lt (yJ fn H x) (yJ fn H y):=λx hx y hy =>
  SG.rank W (N7 hx) (N7 hy)
 refine Jz (κ:=κ) (rk:=λv=>(its.map (yJ fn H)).countP (λa=>lt a (yJ fn H v))) (vs:=its) ⟨o,e,c,n,by first|exact d2|exact d1⟩ (by omega) (λh2 s' k E' Q' q'=>?_) (λs' k x y hx hy Q' q'=>?_) (λout o1 o2=>?_)
 ·exact hkind I its h2 at' s' k E' Q' q'
 ·rw[key x hx y hy]at q'
  obtain⟨c,x',rfl,hx'⟩:=at' x hx
  obtain⟨d,y',rfl,hy'⟩:=at' y hy
  refine hcmp I c d x' y' hx' hy' s' k Q' ?_
  have e1:yJ fn H (.ref c)=x':=hf H c x' hx'
  have e2:yJ fn H (.ref d)=y':=hf H d y' hy'
  rw[e1,e2]at q'
  exact q'
 ·obtain⟨ep,he⟩:=sortedAll_at s.heap its out.toArray
  have hn:H (s.heap.objs.size+1)=none:=I.hok.fresh (Z7 _)
  obtain⟨us',p',r'⟩:=Kz o1 rv
  refine ⟨.ref (s.heap.objs.size+1),HQ H (s.heap.objs.size+1) (.lst us'),I.laid (t':=s.toks) (λb u e=>sortedAll_old e) (Z7 _) ?_,rfl,q _ us' hn p' ?_⟩
  ·exact ⟨by rw[p'.length_eq];exact hz,out,ep,r',by rw[he]⟩
  ·rw[X4,W3]
   intro i j hi hj hij
   have hl':=r'.length
   have o3:=W3.mp o2 i j (by omega) (by omega) hij
   have hxm:out[i]'(by omega)∈its:=o1.mem_iff.mp (Q4 _)
   have hym:out[j]'(by omega)∈its:=o1.mem_iff.mp (Q4 _)
   have k2:=key _ hym _ hxm
   rw[decide_eq_false (Nat.not_lt.mpr o3)]at k2
   have ev:∀(m:Nat) (hm:m < us'.length),fn H us'[m]=yJ fn H (out[m]'(by omega)):=λm hm=>by
    obtain⟨c,x,hv,hr⟩:=hrep _ (p'.mem_iff.mp (Q4 hm))
    obtain⟨u,hu,ru⟩:=r'.get (L0 hm)
    rw[L0 (by omega)]at hu
    have hu:out[m]'(by omega)=u:=S1 hu
    rw[hv]at ru ⊢
    rw[hu,aG ru]
    rfl
   rw[ev i hi,ev j hj]
   exact k2.symm
end
section
variable {prog:Program}{w:World}{A:Around}{s:Shared}
end
noncomputable def yE(H:Hp):V->List Int
 | .ref c=>match H c with
  | some (.tup xs)=>xs.map WN
  | _=>[]
 | _=>[]
end L2
namespace L3
open PySem PySem.Spec PyProof.Rows L2
theorem DaAll.mem{K:Fg}{F:Hp}:∀{us:List V}{ds:List D},DaAll K F us ds->∀v∈us,∃d∈ds,Da K F v d
 | _,_,.nil,v,h=>by simp at h
 | _,_,.cons a t,v,h=>by
  rcases B2.mp h with rfl|h
  ·exact ⟨_,A0,a⟩
  ·obtain⟨d,h1,h2⟩:=DaAll.mem t v h
   exact ⟨d,u0 _ h1,h2⟩
theorem DaAll.map_of{K:Fg}{F:Hp}{f:V->D}:∀{us:List V},(∀v∈us,Da K F v (f v))->DaAll K F us (us.map f)
 | [],_=>.nil
 | v :: us,h=>.cons (h v A0) (DaAll.map_of λx hx=>h x (u0 _ hx))
theorem DaAll.map_eq{K:Fg}{F:Hp}{α:Type}{g:α->D}{f:V->α}(hg:∀v a,Da K F v (g a)->f v=a):∀{us:List V}{as:List α},DaAll K F us (as.map g)->us.map f=as
 | [],[],_=>rfl
 | _ :: _,[],h=>by cases h
 | [],_ :: _,h=>by cases h
 | v :: us,a :: as,h=>by
  cases h with
  | cons h t=>rw[Z0,hg v a h,DaAll.map_eq hg t]
theorem pk{K:Fg}{F:Hp}{v:V}{r:List Int}(h:Da K F v (.tuple (r.map n0))):∃c,v=.ref c/\F c=some (.tup (r.map V.int)):=by
 cases h with
 | tup h t =>
  have:=t.ints_of
  subst this
  exact ⟨_,rfl,h⟩
end L3
namespace L2
open PySem PySem.Spec PyProof.Rows
theorem qk{P:Program}{w:World}{A:Around}(hh:A.handled=none){k:Kd}{it l:Addr}(ne:l≠it){xs:Array Value} :
  Draws P w A it [it,l] xs.size (λi x=>xs[i]?=some x) (λi h=>ItAt k h it l i/\SqAt k h l xs) where
 live:=λi h st=>by obtain⟨o,e,_⟩:=st.1.obj;exact ⟨o,e⟩
 frame:=λi h h' st kp=>⟨st.1.at λo e=>kp it (by simp) o e,st.2.at λo e=>kp l (by simp) o e⟩
 item:=λi s Q E hi st hQ=>by
  refine IQ st.1 st.2 (M5 hi) λh' t' s'=>?_
  exact hQ _ h' s.toks (M5 hi) ⟨t',st.2.at λo e=>(s'.2 l ne).trans e⟩ s'
 done:=λs Q E st hE=>kX hh st.1 st.2 (by simp) hE
noncomputable def iO(K:q0)(k:Kd)(l:Addr):It :=
 ⟨λi H=>∃ys x,Sq k K H l ys/\ys[i]?=some x,
  λi H x H'=>∃T y,H T=none/\x=.ref T/\H'=HQ H T (.tup [.int (i:Nat),y])/\∀ys,Sq k K H l ys->ys[i]?=some y,
  λi H=>∃ys,Sq k K H l ys/\ys.length<=i⟩
theorem Lz{P:Program}{w:World}{K:q0}{es:List Expr}{kk:Nat}{pos:Pos}(k:Kd)(e it l:Addr)(ne:e≠it)(nl:l≠it)(nel:e≠l):Turn P w K (.Tuple es kk pos) (iO K k l) [e,it] e
  (λi h=>(∃old,IsEnum h e it (i:Nat) old)/\ItAt k h it l i) where
 mem:=by simp
 obj:=λi h st b hb=>by
  obtain⟨⟨old,he⟩,t⟩:=st
  have hb:b=e\/b=it:=by simpa using hb
  rcases hb with rfl|rfl
  ·exact ⟨_,he,λv e=>by cases e⟩
  ·exact t.obj
 keep:=λi h h' st kp=>by
  obtain⟨⟨old,he⟩,t⟩:=st
  exact ⟨⟨old,kp _ (by simp) _ he⟩,t.at λo e=>kp _ (by simp) _ e⟩
 item:=by
  intro X hP hw hK hc i pins s σ H E I hf st hg
  subst hP hw hK
  obtain⟨⟨old,he⟩,t⟩:=st
  obtain⟨ys,y,q1,e1⟩:=hg
  obtain⟨its,rv,p1,z1⟩:=I.sq q1
  obtain⟨u,hu,ru⟩:=rv.get e1
  have hh:X.A.in1.handled=none:=I.ok.hd hc
  have hlt:i < its.toArray.size:=by
   have:=(W0.mp hu).1
   simpa using this
  refine wpAny_pyNext_enum_itemD (qk hh nl (k:=k) (xs:=its.toArray)) he ⟨t,p1⟩ hlt ne (by simp[ne,nel]) λx h' tk hx b1 b2 b3 b4 b5=>?_
  have hx:x=u:=by
   rw[show its.toArray[i]?=some u by simpa using hu]at hx
   exact (S1 hx).symm
  subst hx
  have hTn:s.heap.objs.size≠e:=J1 (B0 he)
  refine ⟨_,rfl,wpAny_letOwnedTupleGo_enum (s:={ s with heap:=h',toks:=tk+1 }) b1 λh2 he2 hs2=>?_⟩
  have kp:∀b o,b∉[e,it]->s.heap.get? b=some o->h2.get? b=some o:=λb o hb eb=>by
   have hb:b≠e/\b≠it:=by simpa using hb
   exact hs2.extBut _ _ hb.1 (b5 b o hb.1 hb.2 eb)
  have hT2:zQ h2 s.heap.objs.size (.int (i:Nat) tk) x:=hs2.extBut _ _ hTn b3
  have hfr:H s.heap.objs.size=none:=I.hok.fresh (G0 _)
  have I2:Inv X pins σ (HQ H s.heap.objs.size (.tup [.int (i:Nat),y])) { s with heap:=h2 }:=by
   have nfp:∀b u,H b=some u->b∉[e,it]:=λb u eb hb=>by have:=(hf b hb).1;rw[eb]at this;cases this
   refine I.step (g':=s.gens) (d':=s.drawn) (ch:=[e,it]) (λb hb=>?_) (λb o _ _ hc' eb _=>kp b o hc' eb) (λb o _ _ hc' eb _=>⟨o.slots,kp b o hc' eb⟩) (λb o _ eb n=>?_)
    (λb o hc' eb=>⟨o,kp b o hc' eb⟩) (λb xs eb=>?_) (λb o xs eb=>?_) (λb ps eb=>⟨#[],?_⟩) (λm hm=>?_) (λb o eb=>?_) I.bare
   ·obtain⟨f0,f1,f2,f3,f4,f5⟩:=hf b hb
    exact ⟨f3,f1,f4,f5⟩
   ·rw[cQ (R0 (B0 eb))];exact n
   ·rw[cQ (jQ eb hfr)];exact eb
   ·rw[cQ (jQ eb hfr)];exact eb
   ·rw[cQ (jQ eb hfr),eb];simp
   ·obtain⟨o,es',ep,ho,r⟩:=hm
    exact ⟨o,es',ep,kp _ o (λhb=>(hf _ hb).2.1 rfl) ho,r⟩
   ·by_cases hb:b=s.heap.objs.size
    ·subst hb
     rw[iQ]at eb
     cases eb
     exact ⟨by show 2<=sizeLine;decide,[.int (i:Nat) tk,x],.cons ⟨tk,rfl⟩ (.cons ru .nil),_,hT2,rfl,_,rfl,rfl⟩
    ·rw[cQ hb]at eb
     refine (I.hok b o eb).stay (λc v hc' q=>kp c v ?_ q) (λc q=>by rw[cQ (jQ q hfr)];exact q) λc xs q=>by rw[cQ (jQ q hfr)];exact q
     rcases hc' with rfl|hc'
     ·exact nfp _ _ eb
     ·exact nfp _ _ hc'
  refine ⟨.ref s.heap.objs.size,_,I2.tok (tk+1),rfl,⟨_,y,hfr,rfl,rfl,λys' hy=>by rw[I.sq_inj hy q1];exact e1⟩,⟨⟨x,by simpa using he2⟩,b2.1.at λo eo=>hs2.extBut _ _ (L1 ne) eo⟩,λb hb=>?_⟩
  rw[cQ ?_]
  ·exact (hf b hb).1
  ·intro z
   subst z
   have hb:s.heap.objs.size=e\/s.heap.objs.size=it:=by simpa using hb
   rcases hb with z|z
   ·exact hTn z
   ·obtain⟨o,eo,_⟩:=t.obj
    exact J1 (B0 eo) z
 done:=by
  intro X hP hw hK hc i pins s σ H E I hf st hg
  subst hP hw hK
  obtain⟨⟨old,he⟩,t⟩:=st
  obtain⟨ys,q1,hend⟩:=hg
  obtain⟨its,rv,p1,z1⟩:=I.sq q1
  have hlen:=rv.length
  have hh:X.A.in1.handled=none:=I.ok.hd hc
  have hT:s.TypeIs (.ref e) "enumerate":=⟨_,he,rfl⟩
  unfold pyNext
  refine wpAny_bind (wpAny_attempt (wpAny_callSpecial?_slot (name:=Str.ofString "__next__") hT F.slot_enumerate_next (wpAny_call_entry F.slot_enumerate_next hT F.entry_enumerate_next ?_ (F.args_enumerate_next_1 _))))
  show wpAny _ _ (field (.ref e) 2 >>= _) _ _ _
  refine wpAny_bind (wpAny_field he rfl (x:=.ref it) rfl ?_)
  refine wpAny_bind (kX hh t p1 (by simp;omega) λh' x kp hx'=>?_)
  obtain⟨o,ho,hcl⟩:=hx'
  refine wpAny_bind (wpAny_isInstance (T:="StopIteration") (b:=true) ⟨o,ho,hcl⟩ isSubtype_stop ?_)
  refine wpAny_pure ⟨rfl,?_⟩
  have nfp:∀b u,H b=some u->b∉[e,it]:=λb u eb hb=>by have:=(hf b hb).1;rw[eb]at this;cases this
  have kp':∀b o,b∉[e,it]->s.heap.get? b=some o->h'.get? b=some o:=λb o hb eb=>by
   have hb:b≠e/\b≠it:=by simpa using hb
   exact kp b o hb.2 eb
  refine I.step (g':=s.gens) (d':=s.drawn) (ch:=[e,it]) (λb hb=>?_) (λb o _ _ hc' eb _=>kp' b o hc' eb) (λb o _ _ hc' eb _=>⟨o.slots,kp' b o hc' eb⟩) (λb o _ eb n=>n)
   (λb o hc' eb=>⟨o,kp' b o hc' eb⟩) (λb xs eb=>eb) (λb o xs eb=>eb) (λb ps eb=>⟨#[],by rw[eb];simp⟩) (λm hm=>?_) (λb o eb=>?_) I.bare
  ·obtain⟨f0,f1,f2,f3,f4,f5⟩:=hf b hb
   exact ⟨f3,f1,f4,f5⟩
  ·obtain⟨o,es',ep,ho,r⟩:=hm
   exact ⟨o,es',ep,kp' _ o (λhb=>(hf _ hb).2.1 rfl) ho,r⟩
  ·refine (I.hok b o eb).stay (λc v hc' q=>kp' c v ?_ q) (λ_ q=>q) λ_ _ q=>q
   rcases hc' with rfl|hc'
   ·exact nfp _ _ eb
   ·exact nfp _ _ hc'
 self:=λ_ _ _ _ _ st h=>by obtain⟨⟨old,he⟩,_⟩:=st;exact wpAny_pyIter_enum he h
noncomputable abbrev gM(h:Heap)(k:Kd)(l:Addr):Heap:=(h.push (KQ k l)).push { cls:=.type "enumerate",data:=.fields #[.none,.bool false,.ref h.objs.size,rawInt 0,.none,.none] }
theorem sk(k:Kd)(l:Addr)(xs:Array Value) :
  Meets (Builtin.«enumerate.__new__» ⟨[.type "enumerate",.ref l],[]⟩) (λ_ R s=>SqAt k s.heap l xs/\R (.ok (.ret (.ref (s.heap.push (KQ k l)).objs.size))) { s with heap:=gM s.heap k l }) :=
 .of_wp λprog w A R s h=>by
  obtain⟨hp,g,d,tk,os⟩:=s;obtain⟨hl,h⟩:=h
  have hsub:=sub_enumerate
  have hL:SqAt k (Shared.heap ⟨hp,g,d,tk,os⟩) l xs:=hl
  obtain⟨o,ho⟩:∃o,hp.get? l=some o:=by cases k<;>(obtain⟨o,eo,_⟩:=hl;exact ⟨o,eo⟩)
  wp_walk using AutoSeq1.wpAny_loadPart' ho
  refine wpAny_stack_any λst=>wpAny_pure ?_
  split
  ·rename_i c _ _ _ _ _
   cases (c==G6 "enumerate")
   ·wp_walk using AutoSeq1.wpAny_loadPart' ho,yZ hL
    exact ⟨_,rfl,h⟩
   ·wp_walk using AutoSeq1.wpAny_loadPart' ho,yZ hL
    exact ⟨_,rfl,h⟩
  ·wp_walk using AutoSeq1.wpAny_loadPart' ho,yZ hL
   exact ⟨_,rfl,h⟩
noncomputable def Z9(K:q0)(ta:TA):TI:=λσ H R=>ta σ H λvs H1=>∃(k:Kd) (l:Addr) (ys:List V),vs=[.ref l]/\Sq k K H1 l ys/\R (iO K k l) H1
theorem Wy{X:Cx}{es:List Expr}{kk:Nat}{tpos:Pos}{a:Expr}{ta:TA}{p pos:Pos}(hg:Gl X "enumerate")(hm:X.mg "enumerate"=none)(ha:PA X [a] ta)(hs:starEach [a] X.env=(false,eval a X.env) :: starEach [] X.env:=by rfl)(hpl:(backTo pos (starEach [] X.env)).any (·.1)=false:=by rfl) :
  PI X (.Tuple es kk tpos) (.Call (.Name "enumerate" p) [a] [] pos) (Z9 X.K ta):=by
 intro pins s σ H R I h
 refine Call_ (rZ I hg hm boot_enumerate (J2 (gX (ha pos pins s σ H _ I h) λus s1 ⟨vs,H1,I1,r1,q1⟩=>?_) hs hpl))
 obtain⟨k,l,ys,e,q1,q⟩:=q1
 subst e
 obtain rfl:us=[.ref l]:=by cases r1 with|cons r rr=>cases r;cases rr;rfl
 obtain⟨its,rv,p1,z1⟩:=I1.sq q1
 have lt:l < s1.heap.objs.size:=by
  cases k with
  | l=>obtain⟨o,e,_⟩:=p1;exact B0 e
  | t=>obtain⟨o,e,_⟩:=p1;exact B0 e
 refine callType_new F.called_enumerate (by decide) (F.typeCall_enumerate_1 _) (F.newCall_enumerate_1 _) (λobj=>F.args_object_init_2 obj _) F.entry_enumerate_new (sk k l its.toArray) ⟨p1,?_⟩
 have zI:(s1.heap.push (KQ k l)).objs.size=s1.heap.objs.size+1:=by simp[W1]
 have gE:(gM s1.heap k l).get? (s1.heap.push (KQ k l)).objs.size=some _:=J0 _ rfl
 have g1:(gM s1.heap k l).get? s1.heap.objs.size=some (KQ k l):=g0 _ (J0 _ (by cases k<;>rfl))
 rw[zI]at gE
 show _/\_
 rw[zI]
 have kp:∀b o,s1.heap.get? b=some o->(gM s1.heap k l).get? b=some o:=λb o e=>g0 _ (g0 _ e)
 refine ⟨⟨_,gE,rfl⟩,wpAny_pyIter_enum (s:={ s1 with heap:=gM s1.heap k l }) gE ?_⟩
 have n1:(s1.heap.objs.size+1:Nat)≠s1.heap.objs.size:=by omega
 have n2:l≠s1.heap.objs.size:=R0 lt
 have n3:(s1.heap.objs.size+1:Nat)≠l:=J1 (X6 lt)
 refine ⟨_,[s1.heap.objs.size+1,s1.heap.objs.size],_,_,H1,rfl,I1.kept (t':=s1.toks) kp,Lz k _ _ l n1 n2 n3,⟨⟨_,gE⟩,ItAt.new k g1⟩,λb hb=>?_,q⟩
 have hb:s1.heap.objs.size<=b:=by
  have hb:b=s1.heap.objs.size+1\/b=s1.heap.objs.size:=by simpa using hb
  rcases hb with rfl|rfl
  ·exact E3 _ _
  ·exact G0 _
 exact I1.fpOk hb (I1.hok.fresh hb)
end L2
namespace L3
open PySem PySem.Spec PyProof.Rows L2
noncomputable def EK(ds:List D):List D:=ds.zipIdx.map λp=>Z1 [.int (p.2:Nat),p.1]
noncomputable def MU(a:AD):AH:=λρ Q=>yX [a] ρ λxs ρ1=>match aX ρ1 xs with
 | false=>PQ ρ1 xs λds=>match ds with
  | [x]=>match pF x with
   | some us=>Q (EK us) ρ1
   | _=>False
  | _=>False
 | true=>False
theorem KF{K:Fg}{F:Hp}{a:Addr}{k1:Kd}{xs:List V}{ds:List D}(e1:F a=some (match k1 with|Kd.l=>HO.lst xs|Kd.t=>HO.tup xs))(h1:DaAll K F xs ds):Walks K (iO K k1 a) F (EK ds):=λi H F1 s1 s2=>by
 have q1:Sq k1 K H a xs:=XZ (s2 _ _ (s1 _ _ e1))
 refine ⟨λd ed=>?_,λhl=>⟨xs,q1,?_⟩⟩
 ·simp only[EK,X0,J3]at ed
  obtain⟨⟨x,j⟩,ez,rfl⟩:=ed
  rw[Z8,J3]at ez
  obtain⟨x',ex,ep⟩:=ez
  cases ep
  obtain⟨v,g1,g2⟩:=h1.get ex
  refine ⟨⟨xs,v,q1,g1⟩,λz H' ⟨T,y,hT,ex,eH,f1⟩=>?_⟩
  subst ex eH
  have f1:=f1 xs q1
  rw[g1]at f1;cases f1
  have fT:F1 T=none:=by
   cases z:F1 T with
   | none=>rfl
   | some o=>rw[s2 _ _ z]at hT;cases hT
  refine ⟨HQ F1 T (.tup [.int (i:Nat),v]),Sub.new fT,λc o ec=>?_,λc o ec=>?_,Sub.new hT,.tup iQ (.cons (by rw[T5];exact .int _) (.cons (g2.mono (s1.trans (Sub.new fT))) .nil))⟩
  ·by_cases z:c=T
   ·subst z;exact .inr hT
   ·rw[cQ z]at ec;exact .inl ec
  ·by_cases z:c=T
   ·subst z;rw[iQ]at ec ⊢;exact ec
   ·rw[cQ z]at ec ⊢;exact s2 _ _ ec
 ·simp only[EK,i0,List.length_zipIdx]at hl
  rw[h1.length]
  omega
theorem zE{K:Fg}{a:AD}{σ:L2.St}{H:Hp}{R:It->Hp->Prop}(h:UQ K (MU a) σ H R):Z9 K (tQ ([a].map (pQ K))) σ H R:=by
 obtain⟨G,F,ρ,Qd,Rl,w,k⟩:=h
 refine lX Rl w λvs H' F' xs ρ' sb R' o w1=>?_
 split at w1
 ·rename_i e
  obtain⟨ds,da,w1⟩:=bX R' e o w1
  split at w1
  ·rename_i x
   split at w1
   ·rename_i us p1
    cases da with
    | cons d1 t =>
     cases t
     obtain⟨k1,a1,us',rfl,e1,g1⟩:=DJ d1 p1
     exact ⟨k1,a1,us',rfl,XZ (R'.sub _ _ e1),k _ H' F' _ ρ' sb R' (KF e1 g1) w1⟩
   ·exact w1.elim
  ·exact w1.elim
 ·exact w1.elim
section
variable {X:Cx}{K:Fg}{e1:Expr}{a:AD}{p pos tpos:Pos}
theorem AE{ts:List Expr}{kk:Nat}(hK:X.K=K)(hm:X.mg "enumerate"=none)(ha:WA X [e1] (tQ ([a].map (pQ K))))(hg:Gl X "enumerate":=by rfl)(he:wQ e1=true:=by rfl):WI X (.Tuple ts kk tpos) (.Call (.Name "enumerate" p) [e1] [] pos) (UQ K (MU a)):=by
 subst hK
 exact ⟨NC (Wy hg hm ha.h (mQ he) (by rfl)) zE⟩
end
noncomputable def frz(ρ:Ev):Ev:=ρ.map λx=>x.map λs=>Sl.fz s.d
section
variable {K:Fg}{G:Gh}{F H H':Hp}{σ:L2.St}{ρ:Ev}{a:Addr}{o:HO}{d:D}{v:V}
theorem Rel.scrap(R:Rel K G F σ H ρ)(h1:F a=none)(h2:G.H0 a=none)(h3:∀(i:Nat) (s:Sl),ρ[i]?=some (some s)->LQ s=true->σ[i]?≠some (some (V.ref a))):Rel K G F σ (HQ H a o) ρ where
 len:=R.len
 sub:=λb u e=>by
  have:b≠a:=λz=>by subst z;rw[h1]at e;cases e
  rw[cQ this];exact R.sub b u e
 sub0:=R.sub0
 fn:=R.fn
 keep:=λb u e n=>by
  have:b≠a:=λz=>by subst z;rw[h2]at e;cases e
  rw[cQ this];exact R.keep b u e n
 fz:=R.fz
 ow:=λi s e w=>by
  obtain⟨b,u,g1,g2,g3,g4⟩:=R.ow i s e w
  have:b≠a:=λz=>h3 i s e w (by rw[g1,z])
  exact ⟨b,u,g1,g2,by rw[cQ this];exact g3,g4⟩
 new:=R.new
 io:=R.io
 ioi:=R.ioi
 ap:=R.ap
theorem Rel.nobody(R:Rel K G F σ H ρ)(h:H a=none):∀(i:Nat) (s:Sl),ρ[i]?=some (some s)->LQ s=true->σ[i]?≠some (some (V.ref a)):=λi s e w z=>by
 obtain⟨b,u,g1,g2,g3,g4⟩:=R.ow i s e w
 rw[z]at g1
 cases g1
 rw[h]at g3;cases g3
theorem Rel.blank(R:Rel K G F σ H ρ){i:Nat}(hi:gF ρ i):Rel K G F (σ.set i (some v)) H (ρ.set i none):=by
 have ni:∀d,ρ[i]?≠some (some (Sl.io d)):=λd e=>by unfold gF at hi;rw[e]at hi;exact hi
 have R':=R.drop ni
 have no:∀{j:Nat}{s:Sl},(ρ.set i none)[j]?=some (some s)->j≠i:=λ{j s} e z=>by
  subst z
  rcases oQ e with⟨_,q⟩|⟨n,_⟩
  ·cases q
  ·exact n rfl
 refine ⟨by rw[i4];exact R'.len,R'.sub,R'.sub0,R'.fn,R'.keep,λj d e=>?_,λj t e wt=>?_,λj d b e eb=>?_,λj b e=>?_,R'.ioi,λj k t u b e1 w1 e2 w2 e3 e4=>?_⟩
 ·obtain⟨v',h1,h2⟩:=R'.fz j d e
  exact ⟨v',by rw[O0 (L1 (no e))];exact h1,h2⟩
 ·obtain⟨b,u,g1,g2,g3,g4⟩:=R'.ow j t e wt
  exact ⟨b,u,by rw[O0 (L1 (no e))];exact g1,g2,g3,g4⟩
 ·rw[O0 (L1 (no e))]at eb
  exact R'.new j d b e eb
 ·obtain⟨d,g1,g2⟩:=R'.io j b e
  exact ⟨d,g1,by rw[O0 (L1 (no g1))];exact g2⟩
 ·rw[O0 (L1 (no e1))]at e3
  rw[O0 (L1 (no e2))]at e4
  exact R'.ap j k t u b e1 w1 e2 w2 e3 e4
end
noncomputable def only(a:Addr)(o:HO):Hp:=λb=>if b=a then some o else none
section
variable {X:Cx}{K:Fg}{ec:Expr}{p p1 p2 p3 p4 p5 p6 p7 p8 p9 pa pb pc pd pe pf pg ph pi' pj:Pos}{x y a b:Str}{tc:pV}
end
end L3
namespace L2
open PySem PySem.Spec PyProof.Rows
noncomputable def QD:V->List V->Hp->VK->Prop:=λx vs H Q=>∃(a:Addr) (ns:List Int) (n:Int) (j:Nat),x=.ref a/\vs=[.int n]/\H a=some (.lst (ns.map V.int))/\ns[j]?=some n/\(∀i,i < j->ns[i]?≠some n)/\Q (.int j) H
noncomputable def GP(n:Int):Value->Bool
 | .int i _=>i==n
 | _=>false
theorem Mz{X:Cx}:DN X "list.index" QD:=by
 intro pins s σ H x vs v us Q I rx rv h
 obtain⟨a,ns,m,j,rfl,rfl,hH,hj,hno,q⟩:=h
 cases rx
 obtain⟨u,rfl,ru⟩:=rv.one
 obtain⟨t,rfl⟩:=ru
 obtain⟨z,its,n,r,hlen,e⟩:=I.lstM hH
 have hjl:j < ns.length:=(W0.mp hj).1
 have rl:=r.length
 rw[i0]at rl
 have at':∀(i:Nat) (hi:i < its.length),∃t,its[i]=.int (ns.getD i 0) t:=λi hi=>vJ r hi
 have gd:∀i,i < ns.length->ns[i]?=some (ns.getD i 0):=λi hi=>by rw[B1,L0 hi];rfl
 rw[i0]at z
 refine call_meets F.slot_list_index ⟨_,e,rfl⟩ F.entry_list_index (F.args_list_index_2 _ _) (SeqAt.list_indexAt a its.toArray n none #[] (.int m t) (GP m) j (by simp;omega) (by rw[sizeLine_eq]at z;omega) ?_ ?_) ⟨e,?_,?_⟩
 ·obtain⟨t1,h1⟩:=at' j (by omega)
  simp only[J7]
  rw[h1]
  show (ns.getD j 0==m)=true
  rw[gd j hjl]at hj
  rw[S1 hj]
  exact beq_self_eq_true m
 ·intro k hk hkj
  have hk':k < its.length:=by simpa using hk
  obtain⟨t1,h1⟩:=at' k hk'
  simp only[J7]
  rw[h1]
  show (ns.getD k 0==m)=false
  rw[beq_eq_false_iff_ne]
  intro z
  exact hno k hkj (by rw[gd k (by omega),z])
 ·intro y hy
  obtain⟨i,hi,rfl⟩:=M3 (show y∈its by simpa using hy)
  obtain⟨t1,h1⟩:=at' i hi
  rw[h1]
  exact SeqAt.EqAt.int_int _ _ _ _
 ·exact ⟨.int j,H,I.tok _,⟨_,rfl⟩,q⟩
end L2
namespace L3
open PySem PySem.Spec PyProof.Rows L2
noncomputable def Xy:List D->List D->(D->D->Prop)->Prop
 | es,[.int n],k=>∃(ns:List Int) (j:Nat),es=ns.map n0/\ns[j]?=some n/\(∀i,i < j->ns[i]?≠some n)/\k (.list es) (.int j)
 | _,_,_=>False
theorem Nz{K:Fg}:FC K QD Xy:=by
 intro F H a xs es vs ds Q k s e d1 d2 w q
 match ds,d2,w with
 | [.int n],.cons h .nil,⟨ns,j,e1,hj,hno,w⟩ =>
  subst e1
  cases h
  have:=d1.ints_of
  subst this
  refine ⟨a,ns,n,j,rfl,rfl,e,hj,hno,?_⟩
  have z:=q (.int j) (.lst _) (.list (ns.map n0)) (.int j) (show Own1 K F (.lst _) (.list _) from d1) (.int _) w
  rw[Xx e]at z
  exact z
end L3
namespace L2
open PySem PySem.Spec PyProof.Rows PySem.W
noncomputable abbrev SY:=List Int×List Int
noncomputable def uV(x y:SY):Bool:=if x.1=y.1 then HT.lexLt x.2 y.2 else HT.lexLt x.1 y.1
theorem ltB_wk:SG.Wk uV:=by
 have W:=SG.lex_wk
 refine ⟨λa=>?_,λa b c h1 h2=>?_,λa b c h1 h2=>?_⟩
 ·unfold uV;rw[if_pos rfl];exact W.irr _
 ·unfold uV at h1 h2 ⊢
  by_cases e1:a.1=b.1
  ·rw[if_pos e1]at h1
   by_cases e2:b.1=c.1
   ·rw[if_pos e2]at h2
    rw[if_pos (e1.trans e2)]
    exact W.tr _ _ _ h1 h2
   ·rw[if_neg e2]at h2
    rw[if_neg (by rw[e1];exact e2),e1]
    exact h2
  ·rw[if_neg e1]at h1
   by_cases e2:b.1=c.1
   ·rw[if_neg (by rw[<- e2];exact e1),<- e2]
    exact h1
   ·rw[if_neg e2]at h2
    have h3:=W.tr _ _ _ h1 h2
    rw[if_neg (λz=>by rw[z,W.irr]at h3;cases h3)]
    exact h3
 ·unfold uV at h1 h2 ⊢
  by_cases e1:a.1=b.1
  ·rw[if_pos e1]at h1
   by_cases e2:b.1=c.1
   ·rw[if_pos e2]at h2
    rw[if_pos (e1.trans e2)]
    exact W.nt _ _ _ h1 h2
   ·rw[if_neg e2]at h2
    rw[if_neg (by rw[e1];exact e2),e1]
    exact h2
  ·rw[if_neg e1]at h1
   by_cases e2:b.1=c.1
   ·rw[if_neg (by rw[<- e2];exact e1),<- e2]
    exact h1
   ·rw[if_neg e2]at h2
    have h3:=W.nt _ _ _ h1 h2
    by_cases e3:a.1=c.1
    ·exfalso
     rw[<- e3]at h2
     exact e1 (SG.lex_eq h1 h2)
    ·rw[if_neg e3];exact h3
theorem BE{a b:SY}(h1:uV a b=false)(h2:uV b a=false):a=b:=by
 unfold uV at h1 h2
 by_cases e:a.1=b.1
 ·rw[if_pos e]at h1
  rw[if_pos e.symm]at h2
  have:=SG.lex_eq h1 h2
  cases a;cases b;cases e;cases this;rfl
 ·rw[if_neg e]at h1
  rw[if_neg (λz=>e z.symm)]at h2
  exact absurd (SG.lex_eq h1 h2) e
noncomputable def HZ(H:Hp)(c:Addr)(x:SY):Prop:=∃a b,H c=some (.tup [.ref a,.ref b])/\H a=some (.tup (x.1.map V.int))/\H b=some (.tup (x.2.map V.int))
noncomputable def uk(H:Hp):V->SY
 | .ref c=>match H c with
  | some (.tup [x,y])=>(yE H x,yE H y)
  | _=>([],[])
 | _=>([],[])
theorem vk{H:Hp}{c:Addr}{r:List Int}(h:H c=some (.tup (r.map V.int))):yE H (.ref c)=r:=by
 show (match H c with|some (.tup xs)=>xs.map WN|_=>[])=r
 rw[h]
 exact FW r
theorem UZ(H:Hp)(c:Addr)(x:SY)(h:HZ H c x):uk H (.ref c)=x:=by
 obtain⟨a,b,h1,h2,h3⟩:=h
 show (match H c with|some (.tup [x,y])=>(yE H x,yE H y)|_=>([],[]))=x
 rw[h1]
 show (yE H (.ref a),yE H (.ref b))=x
 rw[vk h2,vk h3]
theorem NU{X:Cx}{pins:List (Addr×Obj)}{σ:St}{H:Hp}{s:Shared}{a b:Addr}{x y:List Int}{A:Around}(I:Inv X pins σ H s)(hu:A.units < cLine)(ha:H a=some (.tup (x.map V.int)))(hb:H b=some (.tup (y.map V.int))){s':Shared}(k:∀b o,s.heap.get? b=some o->s'.heap.get? b=some o) :
  SeqAt.EqAt A s' (.ref a) (.ref b) (decide (x=y)):=by
 by_cases e:a=b
 ·subst e
  rw[ha]at hb
  injection hb with hb;injection hb with hb
  rw[Wx hb,decide_eq_true rfl]
  exact SeqAt.EqAt.same _
 ·have I':Inv X pins σ H { s with heap:=s'.heap }:=I.kept (t':=s.toks) k
  obtain⟨_,ia,ra,ta⟩:=(show ObjOk X.prog X.w H s'.heap a (.tup (x.map V.int)) from I'.hok a _ ha)
  obtain⟨_,ib,rb,tb⟩:=(show ObjOk X.prog X.w H s'.heap b (.tup (y.map V.int)) from I'.hok b _ hb)
  have la:=ra.length
  have lb:=rb.length
  rw[i0]at la lb
  have h:=SeqAt.RcAt.tuples (A:=A) (s:=s') (e:=λk=>x.getD k 0==y.getD k 0) ta.t tb.t hu λj h1 h2=>by
   obtain⟨t1,e1⟩:=vJ ra (k:=j) (by simpa using h1)
   obtain⟨t2,e2⟩:=vJ rb (k:=j) (by simpa using h2)
   simp only[J7]
   rw[e1,e2]
   exact SeqAt.EqAt.int_int _ _ _ _
  have hv:((V0 (min ia.toArray.size ib.toArray.size)).all (λk=>x.getD k 0==y.getD k 0)&&ia.toArray.size==ib.toArray.size)=decide (x=y):=by
   simp only[Q0,<- la,<- lb]
   by_cases z:x=y
   ·subst z
    rw[decide_eq_true rfl]
    simp
   ·rw[decide_eq_false z,i8]
    intro hb
    rw[P4,o6,beq_iff_eq]at hb
    refine z (v8 hb.2 λk k1 k2=>?_)
    have:=hb.1 k (B3.mpr (by omega))
    rw[beq_iff_eq,B1,B1,L0 k1,L0 k2]at this
    exact this
  rw[<- hv]
  exact SeqAt.EqAt.of_refs e h
theorem LF{X:Cx}(hu:X.A.units+2 < cLine):hX X (.builtin "sorted") (LU X.K HZ uk uV):=by
 have hu1:X.A.in1.in1.units < cLine:=by show X.A.units+2 < cLine;exact hu
 refine JF (κ:=tuples' false) ltB_wk UZ (λ{pins s σ H} I its h2 at' s' k E' Q' q'=>?_) (λ{pins s σ H} I c d x y hx hy s' k Q' q'=>?_)
 ·have gen:∀(l:List Value),(∀v∈l,∃(c:Addr) (r:SY),v=.ref c/\HZ H c r)->∃fs:List Value,KatTups s'.heap l fs/\fs.length=l.length/\∀v∈fs,Looks (model X.prog X.w) s'.heap (typeOf v) (.type "tuple"):=by
   intro l
   induction l with
   | nil=>intro _;exact ⟨[],.nil,rfl,λv hv=>by simp at hv⟩
   | cons v l ih =>
    intro hl
    obtain⟨fs,f1,f2,f3⟩:=ih λx hx=>hl x (u0 _ hx)
    obtain⟨c,r,rfl,a,b,hc,ha,hb⟩:=hl v A0
    obtain⟨_,itc,rc,ob,e1,e2,m,e3,_⟩:=(show ObjOk X.prog X.w H s.heap c (.tup [.ref a,.ref b]) from I.hok c _ hc)
    obtain⟨u1,u2,rfl,r1,r2⟩:=KJ rc
    cases r1
    obtain⟨_,itb,rb,oa,g1,g2,_⟩:=(show ObjOk X.prog X.w H s.heap a (.tup (r.1.map V.int)) from I.hok a _ ha)
    refine ⟨.ref a :: fs,.cons (k _ _ e1) e2 e3 rfl f1,by simp[f2],λv hv=>?_⟩
    rcases B2.mp hv with rfl|hv
    ·have:=(show Looks (model X.prog X.w) s'.heap (typeOf (.ref a)) oa.cls from (Looks.ld (k _ _ g1)).andThen .now)
     rw[g2]at this
     exact this
    ·exact f3 v hv
  obtain⟨fs,f1,f2,f3⟩:=gen its at'
  exact kat_kind (T:=.type "tuple") f1 (by omega) f3 (by decide) q'
 ·obtain⟨a1,b1,hc1,ha1,hb1⟩:=hx
  obtain⟨a2,b2,hc2,ha2,hb2⟩:=hy
  obtain⟨_,ic,rc,oc,c1,c2,m1,c3,_⟩:=(show ObjOk X.prog X.w H s.heap c (.tup [.ref a1,.ref b1]) from I.hok c _ hc1)
  obtain⟨_,id',rd,od,d1,d2,m2,d3,_⟩:=(show ObjOk X.prog X.w H s.heap d (.tup [.ref a2,.ref b2]) from I.hok d _ hc2)
  obtain⟨u1,u2,rfl,r1,r2⟩:=KJ rc
  cases r1;cases r2
  obtain⟨w1,w2,rfl,r3,r4⟩:=KJ rd
  cases r3;cases r4
  have I':Inv X pins σ H { s with heap:=s'.heap }:=I.kept (t':=s.toks) k
  have lt1:∀{a b:Addr}{x y:List Int}{Q:Bool->Shared->Prop},H a=some (.tup (x.map V.int))->H b=some (.tup (y.map V.int))->Q (HT.lexLt x y) s'->wpAny (model X.prog X.w) X.A.in1.in1 (oneLt' false (.ref a) (.ref b)) Q (λ_ _=>False) s':=λ{a b x y Q} ha hb hq=>by
   obtain⟨_,ia,ra,ta⟩:=(show ObjOk X.prog X.w H s'.heap a (.tup (x.map V.int)) from I'.hok a _ ha)
   obtain⟨_,ib,rb,tb⟩:=(show ObjOk X.prog X.w H s'.heap b (.tup (y.map V.int)) from I'.hok b _ hb)
   exact kat_one _ _ (HT.lt_tupInts ta.t tb.t (tX ra) (tX rb) hu1 hq)
  refine kat_lt (k _ _ c1) c3 (k _ _ d1) d3 (kat_cons ?_)
  refine NU I hu1 ha1 ha2 k _ _ _ _ ?_
  unfold uV at q'
  refine kat_go (λq=>kat_yes (kat_cons ?_)) (λq=>kat_no ?_)
  ·have q:=of_decide_eq_true q
   rw[if_pos q]at q'
   refine NU I hu1 hb1 hb2 k _ _ _ _ ?_
   refine kat_go (λz=>kat_yes ?_) (λz=>kat_no ?_)
   ·have z:=of_decide_eq_true z
    rw[z,SG.lex_wk.irr]at q'
    exact q'
   ·exact lt1 hb1 hb2 q'
  ·have q:=of_decide_eq_false q
   rw[if_neg q]at q'
   exact lt1 ha1 ha2 q'
end L2
namespace L3
open PySem PySem.Spec PyProof.Rows L2
noncomputable abbrev MF(b:SY):D:=.tuple [.tuple (b.1.map n0),.tuple (b.2.map n0)]
noncomputable def EE:D->(Sl->Prop)->Prop
 | .list ds,Q=>∃rows:List SY,ds=rows.map MF/\rows.length<=sizeLine/\∀rows':List SY,rows'.Perm rows->rows'.Pairwise (λa b=>uV b a=false)->Q (.ow (.list (rows'.map MF)))
 | _,_=>False
theorem xk{K:Fg}{F:Hp}{v:V}{r:SY}(h:Da K F v (MF r)):∃c,v=.ref c/\HZ F c r:=by
 cases h with
 | tup h t =>
  cases t with
  | cons h1 t =>
   cases t with
   | cons h2 t =>
    cases t
    obtain⟨a,rfl,ha⟩:=pk h1
    obtain⟨b,rfl,hb⟩:=pk h2
    exact ⟨_,rfl,a,b,h,ha,hb⟩
theorem Yy{K:Fg}{F:Hp}{c:Addr}{r:SY}(h:HZ F c r):Da K F (.ref c) (MF r):=by
 obtain⟨a,b,h1,h2,h3⟩:=h
 exact .tup h1 (.cons (.tup h2 (DaAll.ints _)) (.cons (.tup h3 (DaAll.ints _)) .nil))
theorem yk{K:Fg}:VQ K (LU K HZ uk uV) (o1 EE):=vx λG F σ H ρ x d Q Qd R h1 w k=>by
 cases d<;>first|exact w.elim|skip
 case list ds =>
  obtain⟨rows,e,hz,w⟩:=w
  subst e
  obtain⟨a,us,rfl,e1,d1⟩:=h1.list R.sub
  have hl:=d1.length
  rw[i0]at hl
  have hrep:∀v∈us,∃c r,v=.ref c/\HZ F c r/\r∈rows:=λv hv=>by
   obtain⟨d,hd,dv⟩:=d1.mem v hv
   obtain⟨r,hr,rfl⟩:=K0.mp hd
   obtain⟨c,rfl,hc⟩:=xk dv
   exact ⟨c,r,rfl,hc,hr⟩
  have up:∀{c:Addr}{r:SY},HZ F c r->HZ H c r:=λ{c r} ⟨a,b,h1,h2,h3⟩=>⟨a,b,R.sub _ _ h1,R.sub _ _ h2,R.sub _ _ h3⟩
  have hfe:∀v∈us,uk H v=uk F v:=λv hv=>by
   obtain⟨c,r,rfl,hc,_⟩:=hrep v hv
   rw[UZ F c r hc,UZ H c r (up hc)]
  refine ⟨a,us,rfl,SqL.of e1,by omega,λv hv=>?_,λp us' hp p' o'=>?_⟩
  ·obtain⟨c,r,rfl,hc,_⟩:=hrep v hv
   exact ⟨c,r,rfl,up hc⟩
  ·have em:us.map (uk F)=rows:=by
    refine DaAll.map_eq (K:=K) (F:=F) (g:=MF) (λv a h=>?_) d1
    obtain⟨c,rfl,hc⟩:=xk h
    exact UZ F c a hc
   have ee:us'.map (uk H)=us'.map (uk F):=G2 λv hv=>hfe v (p'.mem_iff.mp hv)
   rw[ee]at o'
   have dall:DaAll K F us' ((us'.map (uk F)).map MF):=by
    rw[P0]
    refine DaAll.map_of λv hv=>?_
    obtain⟨c,r,rfl,hc,_⟩:=hrep v (p'.mem_iff.mp hv)
    show Da K F (.ref c) (MF (uk F (.ref c)))
    rw[UZ F c r hc]
    exact Yy hc
   obtain⟨R',r'⟩:=R.newOw (o:=.lst us') (d:=.list _) hp dall
   exact k _ _ F _ (Sub.refl _) R' r' (w _ (by rw[<- em];exact p'.map _) o')
theorem bG{X:Cx}{K:Fg}(h:X.K=K)(hu:X.A.units+2 < cLine):hX X (.builtin "sorted") (LU K HZ uk uV):=by subst h;exact LF hu
end L3
namespace L2
open PySem PySem.Spec PyProof.Rows PySem.W
noncomputable def NF(td ty tx:TE):TE:=λσ H Q=>td σ H λx H1=>∃a,x=.ref a/\FN H1 a/\ty σ H1 λy H2=>tx σ H2 λz H3=>∃kvs k,H3 a=some (.dK kvs)/\y=kV k/\kvs.length < sizeLine /\
 (∀v,wX kvs k=some v->Q v H3)/\(wX kvs k=none->Q z (HQ H3 a (.dK (aZ kvs k z))))
section
variable {X:Cx}{o e f:Expr}{apos cpos:Pos}{td ty tx:TE}
theorem zk(ho:PE X o td)(he:PE X e ty)(hf:PE X f tx)(m:M2 X o "setdefault" apos e f cpos):PE X (.Call (.Attribute o "setdefault" apos) [e,f] [] cpos) (NF td ty tx):=by
 intro pins s σ H Q I h
 refine wpAny_Call_method m.base m.few m.line PySem.F.plainAttrs_dict PySem.F.slot_dict_setdefault PySem.F.type_dict_setdefault (gX (ho pins s σ H _ I h) λu s1 ⟨x,H1,I1,rx,a,ex,d,q1⟩=>?_)
 subst ex
 obtain rfl:u=U1 a:=rx
 obtain⟨t1,t2,_⟩:=Hj I1 d
 refine ⟨t1,t2,?_⟩
 rw[m.trees]
 refine Calls.callWith_builtin rfl (Calls.evalArgs_plain (Calls.spliced_cons (gX (he pins s1 σ H1 _ I1 q1) λiv s2 ⟨y,H2,I2,ry,q2⟩ =>
   Calls.spliced_cons (gX (hf pins s2 σ H2 _ I2 q2) λfv s3 ⟨z,H3,I3,rz,kvs,k,ea,ey,hz,q3,q4⟩=>Calls.spliced_nil ?_))))
 subst ey
 obtain⟨zz,hd,vs,rel,dd⟩:=Ej I3.hok ea
 have hv:=rel.val k
 refine call_meetsIn PySem.F.slot_dict_setdefault dd.typeIs PySem.F.entry_dict_setdefault (PySem.F.args_dict_setdefault_3 _ _ _) (kt_meets_setdefault (TQ X.prog X.w) a (HV ry) hd fv) ⟨vs,dd,by rw[<- rel.length];exact zz,λv ev=>?_,λev h' dd' hs=>?_⟩
 ·rw[ev]at hv
  cases l:wX kvs k with
  | none=>rw[l]at hv;exact hv.elim
  | some w =>
   rw[l]at hv
   exact ⟨w,H3,I3.tok _,hv,q3 w l⟩
 ·rw[ev]at hv
  cases l:wX kvs k with
  | some w=>rw[l]at hv;exact hv.elim
  | none =>
   have hl:(aZ kvs k z).length<=sizeLine:=by have:=xZ kvs k z;omega
   have he:∃q,h'.get? a=some q:=let ⟨q,_,_,hq,_⟩:=dd';⟨q,hq⟩
   exact ⟨z,_,MY I3 (by rw[ea];exact True.intro) hs he (VG hl hd (rel.put k rz) dd'),rz,q4 l⟩
end
end L2
namespace L3
open PySem PySem.Spec PyProof.Rows L2
noncomputable abbrev Tb:=List (Int×List Int)
noncomputable def rQ:Tb->Int->List Int
 | [],_=>[]
 | t :: r,k=>if t.1=k then t.2 else rQ r k
noncomputable def HP:V->Addr
 | .ref b=>b
 | _=>0
noncomputable def RD(kvs:List (GQ×V)):List Addr:=kvs.map λkv=>HP kv.2
inductive TL (X:Hp):List (GQ×V)->Tb->Prop
 | nil:TL X [] []
 | cons {k:Int}{b:Addr}{l:List Int}{kvs:List (GQ×V)}{tb:Tb}:X b=some (.lst (l.map V.int))->TL X kvs tb->TL X ((.inl k,.ref b) :: kvs) ((k,l) :: tb)
theorem TL.mono{X X':Hp}:∀{kvs:List (GQ×V)}{tb:Tb},(∀b∈RD kvs,X' b=X b)->TL X kvs tb->TL X' kvs tb
 | _,_,_,.nil=>.nil
 | _,_,h,.cons e t=>.cons ((h _ A0).trans e) (TL.mono (λb hb=>h b (u0 _ hb)) t)
theorem TL.len{X:Hp}:∀{kvs:List (GQ×V)}{tb:Tb},TL X kvs tb->kvs.length=tb.length
 | _,_,.nil=>rfl
 | _,_,.cons _ t=>by rw[K1,K1,TL.len t]
theorem TL.none{X:Hp}{k:Int}:∀{kvs:List (GQ×V)}{tb:Tb},TL X kvs tb->wX kvs (.inl k)=Option.none->rQ tb k=[]
 | _,_,.nil,_=>rfl
 | _,_,.cons (k:=k0) e t,h=>by
  by_cases z:k0=k
  ·subst z;rw[bZ rfl]at h;cases h
  ·rw[cZ (by intro q;cases q;exact z rfl)]at h
   unfold rQ
   rw[if_neg z]
   exact TL.none t h
theorem TL.some{X:Hp}{k:Int}{v:V}:∀{kvs:List (GQ×V)}{tb:Tb},TL X kvs tb->wX kvs (.inl k)=Option.some v->∃b,v=.ref b/\b∈RD kvs/\X b=Option.some (.lst ((rQ tb k).map V.int))
 | _,_,.nil,h=>by cases h
 | _,_,.cons (k:=k0) (b:=b0) e t,h=>by
  by_cases z:k0=k
  ·subst z
   rw[bZ rfl]at h
   cases h
   unfold rQ
   rw[if_pos rfl]
   exact ⟨b0,rfl,A0,e⟩
  ·rw[cZ (by intro q;cases q;exact z rfl)]at h
   obtain⟨b,h1,h2,h3⟩:=TL.some t h
   unfold rQ
   rw[if_neg z]
   exact ⟨b,h1,u0 _ h2,h3⟩
theorem TL.app{X:Hp}{k j:Int}{b:Addr}:∀{kvs:List (GQ×V)}{tb:Tb},TL X kvs tb->(RD kvs).Nodup->wX kvs (.inl k)=Option.some (.ref b) ->
  ∃tb':Tb,TL (HQ X b (.lst ((rQ tb k++[j]).map V.int))) kvs tb'/\(∀t,rQ tb' t=if t=k then rQ tb k++[j] else rQ tb t)/\tb'.length=tb.length
 | _,_,.nil,_,h=>by cases h
 | _,_,.cons (k:=k0) (b:=b0) (l:=l0) (kvs:=kvs) (tb:=tb) e t,nd,h=>by
  have nd':b0∉RD kvs/\(RD kvs).Nodup:=Z4.mp nd
  by_cases z:k0=k
  ·subst z
   rw[bZ rfl]at h
   have h:b0=b:=by injection h with h;injection h
   subst h
   refine ⟨(k0,l0++[j]) :: tb,.cons ?_ (t.mono λb hb=>?_),λt'=>?_,by simp⟩
   ·show HQ X b0 (.lst ((rQ ((k0,l0) :: tb) k0++[j]).map V.int)) b0=_
    unfold rQ
    rw[if_pos rfl,iQ]
   ·exact cQ λq=>nd'.1 (by rw[<- q];exact hb)
   ·unfold rQ
    rw[if_pos rfl]
    by_cases q:k0=t'
    ·rw[if_pos q,if_pos q.symm]
    ·rw[if_neg q,if_neg (λy=>q y.symm),if_neg q]
  ·rw[cZ (by intro q;cases q;exact z rfl)]at h
   obtain⟨tb',h1,h2,h3⟩:=TL.app (j:=j) t nd'.2 h
   have el:rQ ((k0,l0) :: tb) k=rQ tb k:=by show (if k0=k then l0 else rQ tb k)=_;rw[if_neg z]
   obtain⟨b1,e1,hb1,_⟩:=t.some h
   have e1:b=b1:=by injection e1
   subst e1
   rw[el]
   refine ⟨(k0,l0) :: tb',.cons ?_ h1,λt'=>?_,by simp[h3]⟩
   ·rw[cQ λq=>nd'.1 (by rw[q];exact hb1)];exact e
   ·show (if k0=t' then l0 else rQ tb' t')=if t'=k then rQ tb k++[j] else (if k0=t' then l0 else rQ tb t')
    rw[h2 t']
    by_cases q:k0=t'
    ·rw[if_pos q,if_neg (λy=>z (q.trans y)),if_pos q]
    ·rw[if_neg q,if_neg q]
theorem JW(k:GQ)(p:Addr)(kvs:List (GQ×V)):RD (kvs++[(k,.ref p)])=RD kvs++[p]:=by unfold RD;rw[T2];rfl
structure DLs(X:Hp)(d:Addr)(tb:Tb):Prop where
 ex:∃kvs:List (GQ×V),X d=some (.dK kvs)/\TL X kvs tb/\(RD kvs).Nodup/\d∉RD kvs/\∀a o,X a=some o->a=d\/a∈RD kvs
 ne:tb≠[]
noncomputable abbrev FE(tb:Tb):D:=.dict (tb.map λt=>(.int t.1,.list (t.2.map n0)))
theorem TL.da{K:Fg}{X:Hp}:∀{kvs:List (GQ×V)}{tb:Tb},TL X kvs tb->DaKV K X kvs (tb.map λt=>(.int t.1,.list (t.2.map n0)))
 | _,_,.nil=>.nil
 | _,_,.cons e t=>.cons (k:=.inl _) (.lst e (DaAll.ints _)) (TL.da t)
theorem DLs.da{K:Fg}{X:Hp}{d:Addr}{tb:Tb}(h:DLs X d tb):Da K X (.ref d) (FE tb):=by
 obtain⟨kvs,h1,h2,_⟩:=h.ex
 exact .dk (.inl h1) h2.da
theorem TL.lst{X:Hp}:∀{kvs:List (GQ×V)}{tb:Tb},TL X kvs tb->∀a∈RD kvs,∃xs,X a=Option.some (.lst xs)
 | _,_,.nil,_,h=>by cases h
 | _,_,.cons e t,a,h=>by
  rcases B2.mp h with rfl|h
  ·exact ⟨_,e⟩
  ·exact t.lst a h
theorem DLs.kind{X:Hp}{d:Addr}{tb:Tb}(h:DLs X d tb){a:Addr}{xs:List V}:X a≠some (.tup xs):=λe=>by
 obtain⟨kvs,h1,h2,_,_,h5⟩:=h.ex
 rcases h5 a _ e with rfl|z
 ·rw[h1]at e;cases e
 ·obtain⟨ys,e2⟩:=h2.lst a z
  rw[e2]at e;cases e
theorem DLs.app{X:Hp}{d b:Addr}{tb:Tb}{kvs:List (GQ×V)}{k j:Int}(h:DLs X d tb)(e:X d=some (.dK kvs))(v:wX kvs (.inl k)=some (.ref b)) :
  X b=some (.lst ((rQ tb k).map V.int))/\∃tb':Tb,DLs (HQ X b (.lst ((rQ tb k++[j]).map V.int))) d tb'/\(∀t,rQ tb' t=if t=k then rQ tb k++[j] else rQ tb t)/\tb'.length<=tb.length+1:=by
 obtain⟨kvs',h1,h2,h3,h4,h5⟩:=h.ex
 have:kvs'=kvs:=by rw[h1]at e;cases e;rfl
 subst this
 obtain⟨b1,e1,m1,l1⟩:=h2.some v
 have e1:b=b1:=by injection e1
 subst e1
 obtain⟨tb',a1,a2,a3⟩:=h2.app (j:=j) h3 v
 have hbd:d≠b:=λz=>h4 (by rw[z];exact m1)
 refine ⟨l1,tb',⟨⟨kvs',by rw[cQ hbd];exact h1,a1,h3,h4,λa o ea=>?_⟩,λz=>?_⟩,a2,by omega⟩
 ·by_cases q:a=b
  ·exact .inr (by rw[q];exact m1)
  ·rw[cQ q]at ea;exact h5 a o ea
 ·subst z
  have:=h.ne
  cases tb with
  | nil=>exact this rfl
  | cons _ _=>cases a3
theorem KW{k j:Int}:∀{tb:Tb},rQ tb k=[]->(∀t∈tb,t.1≠k)->∀t,rQ (tb++[(k,[j])]) t=if t=k then rQ tb k++[j] else rQ tb t
 | [],_,_,t=>by
  show (if k=t then [j] else [])=_
  by_cases q:k=t
  ·rw[if_pos q,if_pos q.symm];rfl
  ·rw[if_neg q,if_neg (λy=>q y.symm)];rfl
 | p :: tb,h,hn,t=>by
  have hp:=hn p A0
  have h':rQ tb k=[]:=by
   have:(if p.1=k then p.2 else rQ tb k)=[]:=h
   rw[if_neg hp]at this
   exact this
  have ih:=KW (j:=j) h' (λt ht=>hn t (u0 _ ht)) t
  show (if p.1=t then p.2 else rQ (tb++[(k,[j])]) t)=if t=k then (if p.1=k then p.2 else rQ tb k)++[j] else (if p.1=t then p.2 else rQ tb t)
  rw[ih,if_neg hp]
  by_cases q:p.1=t
  ·rw[if_pos q,if_neg (λy=>hp (q.trans y)),if_pos q]
  ·rw[if_neg q,if_neg q]
theorem TL.keys{X:Hp}{k:Int}:∀{kvs:List (GQ×V)}{tb:Tb},TL X kvs tb->wX kvs (.inl k)=Option.none->∀t∈tb,t.1≠k
 | _,_,.nil,_,t,h=>by cases h
 | _,_,.cons (k:=k0) e t,h,u,hu=>by
  by_cases z:k0=k
  ·subst z;rw[bZ rfl]at h;cases h
  ·rw[cZ (by intro q;cases q;exact z rfl)]at h
   rcases B2.mp hu with rfl|hu
   ·exact z
   ·exact t.keys h u hu
theorem TL.snoc{X:Hp}{k:Int}{p:Addr}{l:List Int}(hp:X p=Option.some (HO.lst (l.map V.int))):∀{kvs:List (GQ×V)}{tb:Tb},TL X kvs tb->TL X (kvs++[(.inl k,.ref p)]) (tb++[(k,l)])
 | _,_,.nil=>.cons hp .nil
 | _,_,.cons e t=>.cons e (t.snoc hp)
theorem DLs.put{X:Hp}{d p:Addr}{tb:Tb}{kvs:List (GQ×V)}{k j:Int}(h:DLs X d tb)(e:X d=some (.dK kvs))(v:wX kvs (.inl k)=none)(hp:X p=none) :
  ∃tb':Tb,DLs (HQ (HQ X d (.dK (aZ kvs (.inl k) (.ref p)))) p (.lst [V.int j])) d tb'/\(∀t,rQ tb' t=if t=k then rQ tb k++[j] else rQ tb t)/\tb'.length<=tb.length+1:=by
 obtain⟨kvs',h1,h2,h3,h4,h5⟩:=h.ex
 have:kvs'=kvs:=by rw[h1]at e;cases e;rfl
 subst this
 have hpd:d≠p:=λz=>by subst z;rw[h1]at hp;cases hp
 have hpa:p∉RD kvs':=λz=>by obtain⟨xs,ex⟩:=h2.lst p z;rw[ex]at hp;cases hp
 rw[nH _ v]
 refine ⟨tb++[(k,[j])],⟨⟨_,by rw[cQ hpd];exact iQ,?_,?_,?_,λa o ea=>?_⟩,by simp⟩,KW (h2.none v) (h2.keys v),by simp⟩
 ·refine TL.snoc (l:=[j]) iQ (h2.mono λb hb=>?_)
  rw[cQ λz=>hpa (by rw[<- z];exact hb),cQ λz=>h4 (by rw[<- z];exact hb)]
 ·rw[JW,List.nodup_append]
  exact ⟨h3,by simp,λa ha b hb z=>hpa (by rw[<- K2.mp hb,<- z];exact ha)⟩
 ·rw[JW,O2]
  rintro (z|z)
  ·exact h4 z
  ·exact hpd (K2.mp z)
 ·rw[JW,O2]
  by_cases q:a=p
  ·exact .inr (.inr (by rw[q];simp))
  ·rw[cQ q]at ea
   by_cases q2:a=d
   ·exact .inl q2
   ·rw[cQ q2]at ea
    rcases h5 a o ea with z|z
    ·exact .inl z
    ·exact .inr (.inl z)
structure Xt(G:Gh)(F:Hp)(σ:L2.St)(ρ:Ev)(H X:Hp):Prop where
 sub:Sub X H
 off:∀a o,X a=some o->F a=none/\G.H0 a=none/\∀(i:Nat) (s:Sl),ρ[i]?=some (some s)->LQ s=true->σ[i]?≠some (some (V.ref a))
noncomputable def lZ(A B:Hp):Hp:=λa=>match A a with
 | some o=>some o
 | none=>B a
theorem cK{A B:Hp}{a:Addr}{o:HO}(h:A a=some o):lZ A B a=some o:=by unfold lZ;rw[h]
theorem jY{A B:Hp}{a:Addr}(h:A a=none):lZ A B a=B a:=by unfold lZ;rw[h]
theorem TY{A B:Hp}{a:Addr}{o:HO}(h:lZ A B a=some o):A a=some o\/(A a=none/\B a=some o):=by
 unfold lZ at h
 cases e:A a with
 | some u=>rw[e]at h;exact .inl h
 | none=>rw[e]at h;exact .inr ⟨rfl,h⟩
theorem UY{A B:Hp}{a:Addr}(h1:A a=none)(h2:B a=none):lZ A B a=none:=by rw[jY h1];exact h2
section
variable {K:Fg}{G:Gh}{F F' H H' X:Hp}{σ:L2.St}{ρ ρ':Ev}{a:Addr}{o:HO}{d:D}{v:V}
theorem Rel.withX(R:Rel K G F σ H ρ)(x:Xt G F σ ρ H X)(hio:∀i,G.io i=none):Rel K ⟨lZ G.H0 X,G.F0,G.io⟩ F σ H ρ where
 len:=R.len
 sub:=R.sub
 sub0:=R.sub0
 fn:=λa o e=>by
  rcases R.fn a o e with z|z
  ·exact .inl z
  ·refine .inr (UY z ?_)
   cases q:X a with
   | none=>rfl
   | some u=>have:=(x.off a u q).1;rw[this]at e;cases e
 keep:=λa o e n=>by
  rcases TY e with z|⟨_,z⟩
  ·exact R.keep a o z n
  ·exact x.sub a o z
 fz:=R.fz
 ow:=R.ow
 new:=λi d a e ea=>UY (R.new i d a e ea) (by
   cases q:X a with
   | none=>rfl
   | some u=>exact absurd ea ((x.off a u q).2.2 i _ e rfl))
 io:=R.io
 ioi:=R.ioi
 ap:=R.ap
theorem Rel.offX(R:Rel K G F σ H ρ)(x:Xt G F σ ρ H X)(hio:∀i,G.io i=none)(R':Rel K ⟨lZ G.H0 X,G.F0,G.io⟩ F' σ H' ρ'):Rel K G F' σ H' ρ'/\Xt G F' σ ρ' H' X:=by
 have hx0:∀{a u},X a=some u->G.H0 a=none:=λ{a u} q=>(x.off a u q).2.1
 refine ⟨⟨R'.len,R'.sub,R'.sub0,λa o e=>?_,λa o e n=>R'.keep a o (cK e) n,R'.fz,R'.ow,λi d a e ea=>?_,R'.io,R'.ioi,R'.ap⟩,λa o e=>?_,λa o e=>⟨?_,hx0 e,λi s es w z=>?_⟩⟩
 ·rcases R'.fn a o e with z|z
  ·exact .inl z
  ·refine .inr ?_
   have z:lZ G.H0 X a=none:=z
   cases q:G.H0 a with
   | none=>rfl
   | some u=>rw[cK q]at z;cases z
 ·have z:lZ G.H0 X a=none:=R'.new i d a e ea
  cases q:G.H0 a with
  | none=>rfl
  | some u=>rw[cK q]at z;cases z
 ·exact R'.keep a o (by show lZ G.H0 X a=_;rw[jY (hx0 e)];exact e) λi=>by show G.io i≠_;rw[hio i];exact λz=>nomatch z
 ·cases q:F' a with
  | none=>rfl
  | some u =>
   exfalso
   rcases R'.fn a u q with z|z
   ·have:=R.sub0 a u z
    rw[(x.off a o e).1]at this
    cases this
   ·have z:lZ G.H0 X a=none:=z
    rw[jY (hx0 e),e]at z
    cases z
 ·cases s with
  | fz d=>cases w
  | ow d =>
   have q:lZ G.H0 X a=none:=R'.new i d a es z
   rw[jY (hx0 e),e]at q
   cases q
  | io d =>
   obtain⟨b,hb⟩:=R'.ioi i d es
   have hb:G.io i=some b:=hb
   rw[hio i]at hb
   cases hb
theorem Xt.asg(x:Xt G F σ ρ H X)(i:Nat)(v:V)(d:D):Xt G F (σ.set i (some v)) (ρ.set i (some (.fz d))) H X:=⟨x.sub,λa o e=>⟨(x.off a o e).1,(x.off a o e).2.1,λj s es w z=>by
  rcases oQ es with⟨rfl,q⟩|⟨n,q⟩
  · cases q;cases w
  · rw[O0 (L1 n)]at z
    exact (x.off a o e).2.2 j s q w z⟩⟩
theorem Xt.drop(x:Xt G F σ ρ H X)(i:Nat):Xt G F σ (ρ.set i none) H X:=⟨x.sub,λa o e=>⟨(x.off a o e).1,(x.off a o e).2.1,λj s es w z=>by
  rcases oQ es with⟨rfl,q⟩|⟨n,q⟩
  · cases q
  · exact (x.off a o e).2.2 j s q w z⟩⟩
end
noncomputable def Ak(i:Nat)(tk:TD):TD:=λρ Q=>∃tb:Tb,tb≠[]/\ρ[i]?=some (some (.fz (FE tb)))/\tk ρ λr ρ1=>∃k:Int,r=.fz (.int k)/\Q (.fz (.list ((rQ tb k).map n0))) ρ1
theorem SD{K:Fg}{F:Hp}{k:Int}:∀{kvs:List (GQ×V)}{tb:Tb},DaKV K F kvs (tb.map λt=>(.int t.1,.list (t.2.map n0)))->(wX kvs (.inl k)=none/\rQ tb k=[])\/∃v,wX kvs (.inl k)=some v/\Da K F v (.list ((rQ tb k).map n0))
 | [],[],_=>.inl ⟨rfl,rfl⟩
 | [],_ :: _,h=>by cases h
 | _ :: _,[],h=>by cases h
 | (k0,v0) :: kvs,t :: tb,h=>by
  generalize e:((t :: tb).map λt=>((.int t.1,.list (t.2.map n0)):D×D))=es at h
  cases h with
  | cons hv hr =>
   injection e with e1 e2
   injection e1 with e1 e3
   subst e2
   subst e3
   cases k0 with
   | inr x=>cases e1
   | inl j =>
    have ej:t.1=j:=by injection e1
    subst ej
    by_cases z:t.1=k
    ·refine .inr ⟨v0,by rw[<- z];exact bZ rfl,?_⟩
     show Da K F v0 (.list ((if t.1=k then t.2 else rQ tb k).map n0))
     rw[if_pos z]
     exact hv
    ·have ev:wX ((Sum.inl t.1,v0) :: kvs:List (GQ×V)) (Sum.inl k)=wX kvs (Sum.inl k):=cZ λq=>z (by injection q)
     have el:rQ (t :: tb) k=rQ tb k:=by show (if t.1=k then t.2 else rQ tb k)=_;rw[if_neg z]
     rw[ev,el]
     exact SD hr
theorem iM{K:Fg}{F:Hp}{v:V}{tb:Tb}(ne:tb≠[])(h:Da K F v (FE tb)):∃a kvs,v=.ref a/\Rd F a (.dK kvs)/\DaKV K F kvs (tb.map λt=>(.int t.1,.list (t.2.map n0))):=by
 cases tb with
 | nil=>exact absurd rfl ne
 | cons t tb =>
  generalize e:FE (t :: tb)=d at h
  cases h with
  | dk h1 h2 =>
   injection e with e
   rw[e]
   exact ⟨_,_,rfl,h1,h2⟩
  | dt h1 h2 =>
   injection e with e
   cases h2 with
   | nil=>cases e
   | cons _ _=>injection e with e _;injection e with e _;cases e
  | scr h1 =>
   injection e with e
   injection e with e _
   injection e with e _
   cases e
  | exc h1 =>
   injection e with e
   injection e with e _
   injection e with e _
   cases e
  | _=>cases e
theorem GE{K:Fg}{i:Nat}{tk:TD}{σ:L2.St}{H:Hp}{Q:VK}(h:lift K (Ak i tk) σ H Q):Ij (qZ i) (lift K tk) (iH bW) σ H Q:=by
 obtain⟨G,F,ρ,Qd,R,⟨tb,ne,ei,w⟩,q⟩:=h
 obtain⟨v,hv,dv⟩:=R.fz i _ ei
 obtain⟨a,kvs,rfl,hr,hk⟩:=iM ne dv
 refine ⟨_,hv,a,rfl,.inl ⟨kvs,R.sub.rd hr⟩,G,F,ρ,_,R,w,λv' H' F' r ρ' s' R' res ⟨k,er,qd⟩=>?_⟩
 subst er
 have res:Da K F' v' (.int k):=res
 cases res
 refine ⟨u4 _,λp hp=>⟨wX kvs (.inl k),.inl ⟨kvs,.inl k,?_,rfl,rfl⟩,?_⟩⟩
 ·have h1:Rd H' a (.dK kvs):=R'.sub.rd (s'.rd hr)
  exact (Sub.new hp).rd h1
 ·have hp':H' p=none:=hp
  have R1:Rel K G F' σ (HQ H' p (.lst [])) ρ':=R'.laid hp'
  rcases SD (k:=k) hk with⟨e1,e2⟩|⟨v,e1,e2⟩
  ·rw[e1]
   obtain⟨s2,R2⟩:=R1.grow (a:=p) (o:=.lst []) (R'.h0 hp') iQ (R'.nobody hp')
   rw[e2]at qd
   exact q (.ref p) _ _ (.fz (.list [])) ρ' (s'.trans s2) R2 (show Da K _ (.ref p) (.list []) from .lst iQ .nil) qd
  ·rw[e1]
   exact q v _ F' (.fz (.list ((rQ tb k).map n0))) ρ' s' R1 (show Da K F' v _ from e2.mono s') qd
theorem HE{X:Cx}{K:Fg}{i:Nat}{tk:TD}{x:Str}{e:Expr}{p apos lp cpos:Pos}(hu:X.A.units+1 < cLine)(hv:WE X (.Name x p) (pQ K (.inl i)))(he:WE X e (lift K tk))(m:M2 X (.Name x p) "get" apos e (.List [] lp) cpos) :
  WE X (.Call (.Attribute (.Name x p) "get" apos) [e,.List [] lp] [] cpos) (lift K (Ak i tk)):=⟨aV (Jj hu hv.h he.h (cW fJ) m) GE⟩
noncomputable def Sm(r:List Int)(j:Nat):Int:=(r.take j).sum
noncomputable def IE(r:List Int)(n:Int)(l:Nat):List (Nat×Nat):=((V0 (l+1)).filter λj=>decide (Sm r j=Sm r (l+1) - n)).map λj=>(j,l)
noncomputable def FK(r:List Int)(n:Int)(i:Nat):List (Nat×Nat):=(V0 i).flatMap (IE r n)
noncomputable abbrev Oz(p:Nat×Nat):D:=.tuple [.int (p.1:Nat),.int (p.2:Nat)]
theorem cG(r:List Int)(n:Int)(i:Nat):FK r n (i+1)=FK r n i++IE r n i:=by unfold FK;rw[i5,J4];simp
theorem Zy(r:List Int)(n:Int)(l:Nat):(IE r n l).length<=l+1:=by
 unfold IE
 rw[i0]
 have:=O4 (λj=>decide (Sm r j=Sm r (l+1) - n)) (V0 (l+1))
 rw[B4]at this
 exact this
theorem UD(r:List Int)(n:Int):∀i:Nat,i<=120->(FK r n i).length<=i * 121
 | 0,_=>G0 _
 | i+1,h=>by
  have:=UD r n i (by omega)
  have:=Zy r n i
  rw[cG,M0]
  omega
theorem OU{r:List Int}{i:Nat}{x:Int}(h:r[i]?=some x):Sm r (i+1)=Sm r i+x:=by
 unfold Sm
 have hi:=(W0.mp h).1
 rw[List.take_succ,List.sum_append,h]
 simp
noncomputable abbrev IP:TD:=SZ [.inl 3,.inl 1] (o2 (dj λi j=>.int (i - j)))
noncomputable abbrev jO:TD:=LH 4 [.inr (WJ (NH (Ak 2 IP)) ["first"] [5] (sC 0) yH (zU [.inr (wH 0),.inr (wH 1)] KH))] CD
noncomputable abbrev Bk(i:Nat)(t:TE):TE:=FB (tY λi j=>.int (i+j)) (qZ i) t
noncomputable def Ck(K:Fg):TS:=cV (dJ (Bk 3 (qZ 6)) (JX 3)) (cV (sY (lift K jO)) (sY (VM K "list" LY (NF (qZ 2) (qZ 3) (iH bW)) (uY (Bk 5 (tC (.int 1))) bW))))
noncomputable def aB(K:Fg):TS:=cV (dJ (lD [(tC (.int 0),iH (uY (tC (.int 0)) bW))]) (JX 2)) (cV (dJ (tC (.int 0)) (JX 3)) (cV (dJ (iH bW) (JX 4))
  (cV (Oq (UQ K (MU (.inl 0))) (Kq K 2 (zV (JX 5) (zV (JX 6) gv))) (Ck K)) (Jq (qZ 4)))))
noncomputable def bB:qK:=λE ρ=>∃(r:List Int) (n:Int),r.length<=120/\ρ=[some (.fz (.list (r.map n0))),some (.fz (.int n)),none,none,none,none,none]/\∀ρ',E.rt (.ow (.list ((FK r n r.length).map Oz))) ρ'
noncomputable abbrev GY(r:List Int)(n t:Int)(ps:List (Nat×Nat))(y z:Option Sl):Ev:=[some (.fz (.list (r.map n0))),some (.fz (.int n)),none,some (.fz (.int t)),some (.ow (.list (ps.map Oz))),y,z]
structure St(K:Fg)(G:Gh)(F1:Hp)(r:List Int)(n:Int)(i:Nat)(σ:L2.St)(H:Hp):Prop where
 ex:∃(F X:Hp) (d:Addr) (tb:Tb),Sub F1 F/\Rel K G F σ H (GY r n (Sm r i) (FK r n i) none none)/\Xt G F σ (GY r n (Sm r i) (FK r n i) none none) H X/\σ[2]?=some (some (.ref d))/\DLs X d tb/\tb.length<=i+1/\∀t,rQ tb t=((V0 (i+1)).filter λj=>decide (Sm r j=t)).map λ(j:Nat)=>(j:Int)
theorem Da.int_of{K:Fg}{F:Hp}{v:V}{i:Int}(h:Da K F v (.int i)):v=.int i:=by cases h;rfl
theorem GK{K:Fg}{G:Gh}{F H:Hp}{σ:L2.St}{ρ:Ev}{j:Nat}{i:Int}(R:Rel K G F σ H ρ)(e:ρ[j]?=some (some (.fz (.int i)))):σ[j]?=some (some (.int i)):=by
 obtain⟨v,hv,dv⟩:=R.fz j _ e
 rw[dv.int_of]at hv
 exact hv
theorem Dk{K:Fg}{G:Gh}{F H X:Hp}{σ:L2.St}{d:Addr}{tb:Tb}{r:List Int}{n t:Int}{ps:List (Nat×Nat)}{i one:Int}(R:Rel K G F σ H (GY r n t ps (some (.fz (.int i))) (some (.fz (.int one)))))(hio:∀i,G.io i=none)
  (x:Xt G F σ (GY r n t ps (some (.fz (.int i))) (some (.fz (.int one)))) H X) (hd:σ[2]?=some (some (.ref d))) (D:DLs X d tb) :
  Rel K ⟨lZ G.H0 X,lZ F X,λ_=>none⟩ (lZ F X) σ H [some (.fz (.list (r.map n0))),some (.fz (.int n)),some (.fz (FE tb)),some (.fz (.int t)),some (.ow (.list (ps.map Oz))),some (.fz (.int i)),some (.fz (.int one))]:=by
 have sF:Sub F (lZ F X):=λa o e=>cK e
 have sX:Sub X (lZ F X):=λa o e=>by rw[jY (x.off a o e).1];exact e
 refine ⟨R.len,λa o e=>?_,Sub.refl _,λ_ _ e=>.inl e,λa o e _=>?_,λj dd e=>?_,λj s e w=>?_,λj dd a e ea=>?_,λj a e=>(by cases e),λj dd e=>?_,λj k s u a e1 w1 e2 w2 h1 h2=>?_⟩
 ·rcases TY e with z|⟨_,z⟩
  ·exact R.sub a o z
  ·exact x.sub a o z
 ·rcases TY e with z|⟨_,z⟩
  ·exact R.keep a o z λi=>by rw[hio i];exact λz=>nomatch z
  ·exact x.sub a o z
 ·match j,e with
  | 0,e=>cases e;obtain⟨v,h1,h2⟩:=R.fz 0 _ rfl;exact ⟨v,h1,h2.mono sF⟩
  | 1,e=>cases e;obtain⟨v,h1,h2⟩:=R.fz 1 _ rfl;exact ⟨v,h1,h2.mono sF⟩
  | 2,e=>cases e;exact ⟨_,hd,D.da.mono sX⟩
  | 3,e=>cases e;obtain⟨v,h1,h2⟩:=R.fz 3 _ rfl;exact ⟨v,h1,h2.mono sF⟩
  | 4,e=>cases e
  | 5,e=>cases e;obtain⟨v,h1,h2⟩:=R.fz 5 _ rfl;exact ⟨v,h1,h2.mono sF⟩
  | 6,e=>cases e;obtain⟨v,h1,h2⟩:=R.fz 6 _ rfl;exact ⟨v,h1,h2.mono sF⟩
  | j+7,e=>simp at e
 ·match j,e with
  | 0,e=>cases e;cases w
  | 1,e=>cases e;cases w
  | 2,e=>cases e;cases w
  | 3,e=>cases e;cases w
  | 4,e =>
   cases e
   obtain⟨a,o,h1,h2,h3,h4⟩:=R.ow 4 _ rfl rfl
   refine ⟨a,o,h1,UY h2 ?_,h3,h4.mono sF⟩
   cases q:X a with
   | none=>rfl
   | some u=>exact absurd h1 ((x.off a u q).2.2 4 _ rfl rfl)
  | 5,e=>cases e;cases w
  | 6,e=>cases e;cases w
  | j+7,e=>simp at e
 ·match j,e with
  | 0,e=>cases e
  | 1,e=>cases e
  | 2,e=>cases e
  | 3,e=>cases e
  | 4,e =>
   refine UY (R.new 4 _ a rfl ea) ?_
   cases q:X a with
   | none=>rfl
   | some u=>exact absurd ea ((x.off a u q).2.2 4 _ rfl rfl)
  | 5,e=>cases e
  | 6,e=>cases e
  | j+7,e=>simp at e
 ·match j,e with
  | 0,e=>cases e
  | 1,e=>cases e
  | 2,e=>cases e
  | 3,e=>cases e
  | 4,e=>cases e
  | 5,e=>cases e
  | 6,e=>cases e
  | j+7,e=>simp at e
 ·have own:∀{j:Nat}{s:Sl},([some (.fz (.list (r.map n0))),some (.fz (.int n)),some (.fz (FE tb)),some (.fz (.int t)),some (.ow (.list (ps.map Oz))),some (.fz (.int i)),some (.fz (.int one))]:Ev)[j]?=some (some s)->LQ s=true->j=4:=λ{j s} e w=>by
   match j,e with
   | 0,e=>cases e;cases w
   | 1,e=>cases e;cases w
   | 2,e=>cases e;cases w
   | 3,e=>cases e;cases w
   | 4,e=>rfl
   | 5,e=>cases e;cases w
   | 6,e=>cases e;cases w
   | j+7,e=>simp at e
  rw[own e1 w1,own e2 w2]
noncomputable abbrev qN(r:List Int)(n t:Int)(tb:Tb)(ps:List (Nat×Nat))(i one:Int):Ev:=[some (.fz (.list (r.map n0))),some (.fz (.int n)),some (.fz (FE tb)),some (.fz (.int t)),some (.ow (.list (ps.map Oz))),some (.fz (.int i)),some (.fz (.int one))]
theorem yY:∀ps:List (Nat×Nat),noMutAll (ps.map Oz)=true
 | []=>rfl
 | p :: ps=>by show (true&&noMutAll (ps.map Oz))=true;rw[yY ps];rfl
theorem Pz{K:Fg}{G:Gh}{F F2 H H2 X:Hp}{σ:L2.St}{d:Addr}{tb:Tb}{r:List Int}{n t:Int}{ps qs:List (Nat×Nat)}{i one:Int}(R:Rel K G F σ H (GY r n t ps (some (.fz (.int i))) (some (.fz (.int one)))))(hio:∀i,G.io i=none)
  (x:Xt G F σ (GY r n t ps (some (.fz (.int i))) (some (.fz (.int one)))) H X) (D:DLs X d tb) (R2:Rel K ⟨lZ G.H0 X,lZ F X,λ_=>none⟩ F2 σ H2 (qN r n t tb qs i one)) :
  ∃F3,Sub F F3/\Rel K G F3 σ H2 (GY r n t qs (some (.fz (.int i))) (some (.fz (.int one))))/\Xt G F3 σ (GY r n t qs (some (.fz (.int i))) (some (.fz (.int one)))) H2 X:=by
 have sX2:Sub X F2:=λa o e=>R2.sub0 a o (by show lZ F X a=_;rw[jY (x.off a o e).1];exact e)
 have cut:∀a o,(λa=>match X a with|some _=>none|none=>F2 a:Hp) a=some o->X a=none/\F2 a=some o:=λa o e=>by
  have e:(match X a with|some _=>none|none=>F2 a:Option HO)=some o:=e
  cases q:X a with
  | some u=>rw[q]at e;cases e
  | none=>rw[q]at e;exact ⟨rfl,e⟩
 have cut2:∀{a o},X a=none->F2 a=some o->(λa=>match X a with|some _=>none|none=>F2 a:Hp) a=some o:=λ{a o} q e=>by
  show (match X a with|some _=>none|none=>F2 a:Option HO)=some o
  rw[q];exact e
 have cut3:∀{a o},X a=some o->(λa=>match X a with|some _=>none|none=>F2 a:Hp) a=none:=λ{a o} q=>by
  show (match X a with|some _=>none|none=>F2 a:Option HO)=none
  rw[q]
 have xn:∀{a o},F a=some o->X a=none:=λ{a o} e=>by
  cases q:X a with
  | none=>rfl
  | some u=>rw[(x.off a u q).1]at e;cases e
 have sF:Sub F (λa=>match X a with|some _=>none|none=>F2 a:Hp):=λa o e=>cut2 (xn e) (R2.sub0 a o (cK e))
 have mv:∀{v dd},Da K F v dd->Da K (λa=>match X a with|some _=>none|none=>F2 a:Hp) v dd:=λ{v dd} h=>h.mono sF
 refine ⟨_,sF,⟨R2.len,λa o e=>R2.sub a o (cut a o e).2,λa o e=>sF a o (R.sub0 a o e),λa o e=>?_,λa o e m=>?_,λj dd e=>?_,λj s e w=>?_,λj dd a e ea=>?_,λj a e=>?_,λj dd e=>?_,λj k s u a e1 w1 e2 w2 h1 h2=>?_⟩,⟨λa o e=>R2.sub a o (sX2 a o e),λa o e=>⟨cut3 e,(x.off a o e).2.1,λj s es w z=>?_⟩⟩⟩
 ·obtain⟨q1,q2⟩:=cut a o e
  rcases R2.fn a o q2 with z|z
  ·have z:lZ F X a=some o:=z
   rcases TY z with z|⟨_,z⟩
   ·exact R.fn a o z
   ·rw[q1]at z;cases z
  ·have z:lZ G.H0 X a=none:=z
   cases q:G.H0 a with
   | none=>exact .inr rfl
   | some u=>rw[cK q]at z;cases z
 ·exact R2.keep a o (cK e) λi=>(λz=>nomatch z)
 ·match j,e with
  | 0,e=>cases e;obtain⟨v,h1,h2⟩:=R.fz 0 _ rfl;exact ⟨v,h1,mv h2⟩
  | 1,e=>cases e;obtain⟨v,h1,h2⟩:=R.fz 1 _ rfl;exact ⟨v,h1,mv h2⟩
  | 2,e=>cases e
  | 3,e=>cases e;obtain⟨v,h1,h2⟩:=R.fz 3 _ rfl;exact ⟨v,h1,mv h2⟩
  | 4,e=>cases e
  | 5,e=>cases e;obtain⟨v,h1,h2⟩:=R.fz 5 _ rfl;exact ⟨v,h1,mv h2⟩
  | 6,e=>cases e;obtain⟨v,h1,h2⟩:=R.fz 6 _ rfl;exact ⟨v,h1,mv h2⟩
  | j+7,e=>simp at e
 ·match j,e with
  | 0,e=>cases e;cases w
  | 1,e=>cases e;cases w
  | 2,e=>cases e
  | 3,e=>cases e;cases w
  | 4,e =>
   cases e
   obtain⟨a,o,h1,h2,h3,h4⟩:=R2.ow 4 _ rfl rfl
   cases o with
   | lst us =>
    have h4:DaAll K F2 us (qs.map Oz):=h4
    refine ⟨a,_,h1,?_,h3,(h4.noMut (λb xs eb=>cut2 ?_ eb) (yY qs):DaAll K _ us (qs.map Oz))⟩
    ·cases q:X a with
     | some u=>rfl
     | none=>exact h2
    ·cases q:X b with
     | none=>rfl
     | some u =>
      have:=sX2 b u q
      rw[eb]at this
      have:HO.tup xs=u:=by injection this
      subst this
      exact absurd q D.kind
   | _=>exact (h4:False).elim
  | 5,e=>cases e;cases w
  | 6,e=>cases e;cases w
  | j+7,e=>simp at e
 ·match j,e with
  | 0,e=>cases e
  | 1,e=>cases e
  | 2,e=>cases e
  | 3,e=>cases e
  | 4,e=>exact R.new 4 _ a rfl ea
  | 5,e=>cases e
  | 6,e=>cases e
  | j+7,e=>simp at e
 ·rw[hio j]at e;cases e
 ·match j,e with
  | 0,e=>cases e
  | 1,e=>cases e
  | 2,e=>cases e
  | 3,e=>cases e
  | 4,e=>cases e
  | 5,e=>cases e
  | 6,e=>cases e
  | j+7,e=>simp at e
 ·have own:∀{j:Nat}{s:Sl},(GY r n t qs (some (.fz (.int i))) (some (.fz (.int one))))[j]?=some (some s)->LQ s=true->j=4:=λ{j s} e w=>by
   match j,e with
   | 0,e=>cases e;cases w
   | 1,e=>cases e;cases w
   | 2,e=>cases e
   | 3,e=>cases e;cases w
   | 4,e=>rfl
   | 5,e=>cases e;cases w
   | 6,e=>cases e;cases w
   | j+7,e=>simp at e
  rw[own e1 w1,own e2 w2]
 ·match j,es with
  | 0,es=>cases es;cases w
  | 1,es=>cases es;cases w
  | 2,es=>cases es
  | 3,es=>cases es;cases w
  | 4,es=>exact (x.off a o e).2.2 4 _ rfl rfl z
  | 5,es=>cases es;cases w
  | 6,es=>cases es;cases w
  | j+7,es=>simp at es
theorem jM{r:List Int}{n t:Int}{tb:Tb}{ps:List (Nat×Nat)}{i:Nat}{one:Int}(ne:tb≠[])(hl:rQ tb (t - n)=((V0 (i+1)).filter λj=>decide (Sm r j=t - n)).map λ(j:Nat)=>(j:Int))(hz:ps.length+(i+1)<=20000)(hi:i<=1000)
  {Q:Sl->Ev->Prop} (q:∀v,Q v (qN r n t tb (ps++((V0 (i+1)).filter λj=>decide (Sm r j=t - n)).map λj=>(j,i)) i one)):jO (qN r n t tb ps i one) Q:=by
 refine ⟨tb,ne,rfl,t - n,rfl,?_⟩
 have hfl:=O4 (λj=>decide (Sm r j=t - n)) (V0 (i+1))
 rw[B4]at hfl
 rw[hl]
 refine ⟨by rw[i0,i0];exact A1 hfl (A1 (show i+1<=1001 by omega) (by decide)),bJ (λd=>.tuple [d,.int i]) (λd hd N hN=>hN) ?_⟩
 refine ⟨by rw[i0,i0,i0,i0];exact A1 (show ps.length+((V0 (i+1)).filter λj=>decide (Sm r j=t - n)).length<=20000 by omega) (by decide),?_⟩
 have e:ps.map Oz++((((V0 (i+1)).filter λj=>decide (Sm r j=t - n)).map λ(j:Nat)=>(j:Int)).map n0).map (λd=>Z1 [d,.int i])=(ps++((V0 (i+1)).filter λj=>decide (Sm r j=t - n)).map λj=>(j,i)).map Oz:=by
  rw[T2,P0,P0,P0]
  rfl
 rw[e]
 exact q (.fz .none)
theorem aU{r:List Int}{tb tb':Tb}{i:Nat}(h:∀t,rQ tb t=((V0 (i+1)).filter λj=>decide (Sm r j=t)).map λ(j:Nat)=>(j:Int))
  (h':∀t,rQ tb' t=if t=Sm r (i+1) then rQ tb (Sm r (i+1))++[((i:Int)+1)] else rQ tb t) (t:Int):rQ tb' t=((V0 (i+1+1)).filter λj=>decide (Sm r j=t)).map λ(j:Nat)=>(j:Int):=by
 rw[h' t,i5,List.filter_append,T2]
 by_cases q:t=Sm r (i+1)
 ·subst q
  rw[if_pos rfl,h,u6 (by simp)]
  rfl
 ·rw[if_neg q,h,v6 (by simpa using λz=>q z.symm)]
  simp
theorem au{K:Fg}{G:Gh}{F F1 H X:Hp}{σ:L2.St}{d:Addr}{tb:Tb}{r:List Int}{n:Int}{i:Nat}{one:Int}{D:Ends}(hio:∀i,G.io i=none)(hr:r.length<=120)(hi:r[i]?=some one)(s1:Sub F1 F)
  (R:Rel K G F σ H (GY r n (Sm r i) (FK r n i) none none)) (x:Xt G F σ (GY r n (Sm r i) (FK r n i) none none) H X) (hd:σ[2]?=some (some (.ref d))) (dl:DLs X d tb) (hlen:tb.length<=i+1)
  (hl:∀t,rQ tb t=((V0 (i+1)).filter λj=>decide (Sm r j=t)).map λ(j:Nat)=>(j:Int)) (nx:∀σ' H',St K G F1 r n (i+1) σ' H'->D.nx σ' H') :
  Ck K D ((σ.set 5 (some (.int (i:Int)))).set 6 (some (.int one))) H:=by
 have hir:=(W0.mp hi).1
 have es:=OU hi
 have hlen7:σ.length=7:=R.len
 have Ra:Rel K G F _ H (GY r n (Sm r i) (FK r n i) (some (.fz (.int i))) (some (.fz (.int one)))):=(R.asg (i:=5) (v:=.int i) (s:=.fz (.int i)) trivial (Da.int _)).asg (i:=6) (v:=.int one) (s:=.fz (.int one)) trivial (Da.int _)
 have xa:Xt G F _ (GY r n (Sm r i) (FK r n i) (some (.fz (.int i))) (some (.fz (.int one)))) H X:=(x.asg 5 (.int i) (.int i)).asg 6 (.int one) (.int one)
 have hd2:((σ.set 5 (some (.int (i:Int)))).set 6 (some (.int one)))[2]?=some (some (.ref d)):=by rw[O0 (by decide),O0 (by decide)];exact hd
 generalize (σ.set 5 (some (V.int (i:Int)))).set 6 (some (V.int one))=σa at Ra xa hd2
 have h3:=GK Ra (j:=3) rfl
 have h6:=GK Ra (j:=6) rfl
 refine ⟨_,h3,_,h6,_,_,rfl,rfl,?_⟩
 suffices hs:cV (sY (lift K jO)) (sY (VM K "list" LY (NF (qZ 2) (qZ 3) (iH bW)) (uY (Bk 5 (tC (.int 1))) bW))) D (σa.set 3 (some (V.int (Sm r (i+1))))) H by
  rw[es]at hs
  exact hs
 have Rb:Rel K G F (σa.set 3 (some (V.int (Sm r (i+1))))) H (GY r n (Sm r (i+1)) (FK r n i) (some (.fz (.int i))) (some (.fz (.int one)))):=by
  have:=Ra.asg (i:=3) (v:=.int (Sm r i+one)) (s:=.fz (.int (Sm r i+one))) trivial (Da.int _)
  rw[<- es]at this
  exact this
 have xb:Xt G F (σa.set 3 (some (V.int (Sm r (i+1))))) (GY r n (Sm r (i+1)) (FK r n i) (some (.fz (.int i))) (some (.fz (.int one)))) H X:=by
  have:=xa.asg 3 (.int (Sm r i+one)) (.int (Sm r i+one))
  rw[<- es]at this
  exact this
 have hd3:(σa.set 3 (some (.int (Sm r (i+1)))))[2]?=some (some (.ref d)):=by rw[O0 (by decide)];exact hd2
 generalize σa.set 3 (some (V.int (Sm r (i+1))))=σb at Rb xb hd3
 have hps:=UD r n i (by omega)
 refine ⟨_,_,_,λv ρ2=>ρ2=qN r n (Sm r (i+1)) tb (FK r n (i+1)) i one,Dk Rb hio xb hd3 dl,jM dl.ne (hl _) (by omega) (by omega) (λv=>?_),λv H2 F2 rr ρ2 s2 R2 res q=>?_⟩
 ·rw[cG]
  rfl
 ·subst q
  obtain⟨F3,s3,R3,x3⟩:=Pz Rb hio xb dl R2
  obtain⟨kvs,k1,k2,k3,k4,k5⟩:=dl.ex
  have kd:H2 d=some (.dK kvs):=x3.sub _ _ k1
  have g3:=GK R3 (j:=3) rfl
  have g5:=GK R3 (j:=5) rfl
  have kl:kvs.length<=121:=by rw[k2.len];omega
  refine ⟨_,hd3,d,rfl,.inl ⟨kvs,.inl kd⟩,_,g3,u4 _,λp hp=>⟨kvs,.inl (Sm r (i+1)),?_,rfl,o4 kl (by decide),λv ev=>?_,λev=>?_⟩⟩
  ·rw[cQ (jQ kd hp)];exact kd
  ·obtain⟨b,rfl,mb,lb⟩:=k2.some ev
   obtain⟨lb2,tb',d',t',l'⟩:=dl.app (j:=(i:Int)+1) k1 ev
   have hb2:H2 b=some (.lst ((rQ tb (Sm r (i+1))).map V.int)):=x3.sub _ _ lb
   have hbp:b≠p:=jQ hb2 hp
   have hb3:HQ H2 p (.lst []) b=some (.lst ((rQ tb (Sm r (i+1))).map V.int)):=by rw[cQ hbp];exact hb2
   have ll:(rQ tb (Sm r (i+1))).length<=121:=by
    rw[hl,i0]
    have:=O4 (λj=>decide (Sm r j=Sm r (i+1))) (V0 (i+1))
    rw[B4]at this
    omega
   refine ⟨.inl ⟨rfl,_,SqL.of hb3⟩,_,g5,_,_,rfl,rfl,b,_,_,rfl,rfl,hb3,by rw[i0];exact o4 ll (by decide),?_⟩
   have ob:=x3.off b _ lb
   have R4:=(R3.laid (o:=.lst []) hp).scrap (a:=b) (o:=.lst ((rQ tb (Sm r (i+1))++[(i:Int)+1]).map V.int)) ob.1 ob.2.1 ob.2.2
   have R5:Rel K G F3 σb _ (GY r n (Sm r (i+1)) (FK r n (i+1)) none none):=(R4.drop (i:=5) (λdd z=>nomatch z)).drop (i:=6) (λdd z=>nomatch z)
   have x5:Xt G F3 σb (GY r n (Sm r (i+1)) (FK r n (i+1)) none none) (HQ (HQ H2 p (.lst [])) b (.lst ((rQ tb (Sm r (i+1))++[(i:Int)+1]).map V.int))) (HQ X b (.lst ((rQ tb (Sm r (i+1))++[(i:Int)+1]).map V.int))):=by
    have x4:=(x3.drop 5).drop 6
    refine ⟨λa o e=>?_,λa o e=>?_⟩
    ·by_cases q:a=b
     ·subst q;rw[iQ]at e ⊢;exact e
     ·rw[cQ q]at e ⊢
      have ha:=x4.sub a o e
      rw[cQ (jQ ha hp)]
      exact ha
    ·by_cases q:a=b
     ·subst q;exact x4.off a _ lb
     ·rw[cQ q]at e;exact x4.off a o e
   refine nx _ _ ⟨F3,_,d,tb',s1.trans s3,?_,?_,hd3,d',by omega,aU hl t'⟩
   ·have e:(rQ tb (Sm r (i+1))).map V.int++[V.int ((i:Int)+1)]=(rQ tb (Sm r (i+1))++[(i:Int)+1]).map V.int:=by simp
    rw[e]
    exact R5
   ·have e:(rQ tb (Sm r (i+1))).map V.int++[V.int ((i:Int)+1)]=(rQ tb (Sm r (i+1))++[(i:Int)+1]).map V.int:=by simp
    rw[e]
    exact x5
  ·have hXp:X p=none:=by
    cases q:X p with
    | none=>rfl
    | some u=>rw[x3.sub p u q]at hp;cases hp
   obtain⟨tb',d',t',l'⟩:=dl.put (p:=p) (j:=(i:Int)+1) k1 ev hXp
   have hdp:d≠p:=jQ kd hp
   have hp3:HQ (HQ H2 p (.lst [])) d (.dK (aZ kvs (.inl (Sm r (i+1))) (.ref p))) p=some (.lst []):=by rw[cQ (L1 hdp)];exact iQ
   refine ⟨.inl ⟨rfl,_,SqL.of hp3⟩,_,g5,_,_,rfl,rfl,p,_,_,rfl,rfl,hp3,by decide,?_⟩
   have od:=x3.off d _ k1
   have R4:=((R3.laid (o:=.lst []) hp).scrap (a:=d) (o:=.dK (aZ kvs (.inl (Sm r (i+1))) (.ref p))) od.1 od.2.1 od.2.2).scrap (a:=p) (o:=.lst [V.int ((i:Int)+1)]) (R3.f0 hp) (R3.h0 hp) (R3.nobody hp)
   have R5:Rel K G F3 σb _ (GY r n (Sm r (i+1)) (FK r n (i+1)) none none):=(R4.drop (i:=5) (λdd z=>nomatch z)).drop (i:=6) (λdd z=>nomatch z)
   refine nx _ _ ⟨F3,_,d,tb',s1.trans s3,R5,?_,hd3,d',by omega,aU hl t'⟩
   have x4:=(x3.drop 5).drop 6
   have np:=(R3.drop (i:=5) (λdd z=>nomatch z)).drop (i:=6) (λdd z=>nomatch z)
   refine ⟨λa o e=>?_,λa o e=>?_⟩
   ·by_cases q:a=p
    ·subst q
     rw[iQ]at e ⊢
     exact e
    ·rw[cQ q]at e ⊢
     by_cases q2:a=d
     ·subst q2;rw[iQ]at e ⊢;exact e
     ·rw[cQ q2]at e ⊢
      rw[cQ q]
      exact x4.sub a o e
   ·by_cases q:a=p
    ·subst q
     exact ⟨np.f0 hp,np.h0 hp,np.nobody hp⟩
    ·rw[cQ q]at e
     by_cases q2:a=d
     ·subst q2;exact x4.off a _ k1
     ·rw[cQ q2]at e;exact x4.off a o e
noncomputable def kO:Hp:=λ_=>none
theorem bu{r:List Int}{i:Nat}{one:Int}(h:r[i]?=some one):(EK (r.map n0))[i]?=some (.tuple [.int (i:Nat),.int one]):=by
 unfold EK
 rw[X0,Z8,X0,h]
 simp
theorem Ek(r:List Int):(EK (r.map n0)).length=r.length:=by simp[EK]
theorem Fk{p b:Addr}(h:p≠b):DLs (HQ (HQ kO b (.lst [.int 0])) p (.dK [(.inl 0,.ref b)])) p [(0,[0])]:=by
 refine ⟨⟨[(.inl 0,.ref b)],iQ,.cons (l:=[0]) ?_ .nil,by simp[RD],?_,λa o e=>?_⟩,by simp⟩
 ·rw[cQ (L1 h)];exact iQ
 ·show p∉[b]
  simpa using h
 ·by_cases q:a=p
  ·exact .inl q
  ·rw[cQ q]at e
   by_cases q2:a=b
   ·exact .inr (by rw[q2];show b∈[b];simp)
   ·rw[cQ q2]at e;cases e
theorem OF(r:List Int)(t:Int):rQ [(0,[0])] t=((V0 (0+1)).filter λj=>decide (Sm r j=t)).map λ(j:Nat)=>(j:Int):=by
 have e:Sm r 0=0:=rfl
 show (if (0:Int)=t then [0] else [])=(([0]:List Nat).filter λj=>decide (Sm r j=t)).map λ(j:Nat)=>(j:Int)
 by_cases q:(0:Int)=t
 ·rw[if_pos q,u6 (by rw[e];exact decide_eq_true q)];rfl
 ·rw[if_neg q,v6 (by rw[e,decide_eq_false q];decide)];rfl
theorem cu{K:Fg}{G:Gh}{F H X:Hp}{σ:L2.St}{d:Addr}{r:List Int}{n:Int}{D:Ends}(hio:∀i,G.io i=none)(hr:r.length<=120)
  (R:Rel K G F σ H (GY r n 0 [] none none)) (x:Xt G F σ (GY r n 0 [] none none) H X) (hd:σ[2]?=some (some (.ref d))) (dl:DLs X d [(0,[0])])
  (nx:∀F1,Sub F F1->∀σ' H',St K G F1 r n r.length σ' H'->D.nx σ' H'):Oq (UQ K (MU (.inl 0))) (Kq K 2 (zV (JX 5) (zV (JX 6) gv))) (Ck K) D σ H:=by
 refine ⟨_,F,GY r n 0 [] none none,λds ρ2=>ds=EK (r.map n0)/\ρ2=GY r n 0 [] none none,R.withX x hio,⟨rfl,rfl⟩,λJ H' F' ds ρ' s' R' wk qd=>?_⟩
 obtain⟨rfl,rfl⟩:=qd
 obtain⟨R1,x1⟩:=R.offX x hio R'
 refine ⟨λi m σ H=>m=r.length - i/\i<=r.length/\St K G F' r n i σ H,⟨_,rfl,u4 _,⟨F',X,d,_,Sub.refl _,R1,x1,hd,dl,by simp,OF r⟩⟩,?_⟩
 rintro i m σ2 H2 ⟨rfl,hi,⟨Fc,Xc,dc,tb,s,Rc,xc,hdc,dlc,hl1,hl2⟩⟩
 obtain⟨hgo,hst⟩:=wk i H2 Fc s Rc.sub
 cases e:r[i]? with
 | none =>
  have hl:r.length<=i:=M4.mp e
  have hi:i=r.length:=by omega
  subst hi
  exact .inl ⟨hst (Ek r),nx F' s' _ _ ⟨Fc,Xc,dc,tb,s,Rc,xc,hdc,dlc,hl1,hl2⟩⟩
 | some one =>
  have hl:=(W0.mp e).1
  obtain⟨go,yl⟩:=hgo _ (bu e)
  refine .inr ⟨go,λσ' H'=>St K G F' r n (i+1) σ' H',λσ' H' S=>⟨r.length - (i+1),by omega,rfl,hl,S⟩,λxv H3 y=>?_⟩
  obtain⟨F2,t1,t2,t3,t4,t5⟩:=yl xv H3 y
  have R2:=Rc.turn t1 t2 t3 t4
  have x2:Xt G F2 σ2 (GY r n (Sm r i) (FK r n i) none none) H3 Xc:=⟨λa o ea=>t4 a o (xc.sub a o ea),λa o ea=>⟨(by
    cases q:F2 a with
    | none=>rfl
    | some u =>
      exfalso
      rcases t2 a u q with z|z
      · rw[(xc.off a o ea).1]at z;cases z
      · rw[xc.sub a o ea]at z;cases z),(xc.off a o ea).2⟩⟩
  cases t5 with
  | tup ha hds =>
   rename_i a xs
   cases hds with
   | cons h1 hds =>
    cases hds with
    | cons h2 hds =>
     cases hds
     have h1:=h1.int_of
     have h2:=h2.int_of
     subst h1
     subst h2
     refine ⟨a,_,rfl,SqT.of (t3 _ _ ha),rfl,_,_,rfl,_,_,rfl,rfl,?_⟩
     exact au hio hr e (s.trans t1) R2 x2 hdc dlc hl1 hl2 λσ' H' S=>S
theorem JE{K:Fg}{E:Ends}{σ:L2.St}{H:Hp}(h:sQ K bB E σ H):aB K E σ H:=by
 obtain⟨G,F,ρ,D,R,⟨r,n,hr,rfl,q⟩,nx,rt,bk,ct⟩:=h
 have hio:∀i,G.io i=none:=λi=>by
  cases e:G.io i with
  | none=>rfl
  | some a =>
   obtain⟨dd,h1,_⟩:=R.io i a e
   match i,h1 with
   | 0,h1=>cases h1
   | 1,h1=>cases h1
   | 2,h1=>cases h1
   | 3,h1=>cases h1
   | 4,h1=>cases h1
   | 5,h1=>cases h1
   | 6,h1=>cases h1
   | j+7,h1=>simp at h1
 intro p hp
 refine ⟨by show 1<=sizeLine;decide,λb hb=>?_⟩
 have hbp:b≠p:=λz=>by subst z;rw[iQ]at hb;cases hb
 have hbH:H b=none:=by rw[cQ hbp]at hb;exact hb
 refine ⟨by rw[cQ (L1 hbp)];exact iQ,[(.inl 0,.ref b)],rfl,by simp,?_⟩
 have em:OZ [] [((.inl 0:GQ),V.ref b)]=[(.inl 0,.ref b)]:=rfl
 rw[em]
 have R1:=(((R.laid (o:=.dK []) hp).laid (o:=.lst [.int 0]) hb).scrap (a:=p) (o:=.dK [(.inl 0,.ref b)]) (R.f0 hp) (R.h0 hp) (R.nobody hp)).blank (i:=2) (v:=.ref p) trivial
 have R2:=R1.asg (i:=3) (v:=.int 0) (s:=.fz (.int 0)) trivial (Da.int _)
 refine ⟨u4 _,λf hf=>?_⟩
 obtain⟨R3,res⟩:=R2.newOw (a:=f) (o:=.lst []) (d:=.list []) hf .nil
 have R4:Rel K G F _ _ (GY r n 0 [] none none):=R3.asg (i:=4) trivial res
 have hfp:f≠p:=λz=>by subst z;rw[iQ]at hf;cases hf
 have hfb:f≠b:=λz=>by subst z;rw[cQ hbp,iQ]at hf;cases hf
 have hl7:σ.length=7:=R.len
 refine cu (d:=p) (X:=HQ (HQ kO b (.lst [.int 0])) p (.dK [(.inl 0,.ref b)])) hio hr R4 ?_ ?_ (Fk (L1 hbp)) λF1 s1 σ' H' S=>?_
 ·have two:∀{a o},HQ (HQ kO b (.lst [.int 0])) p (.dK [(.inl 0,.ref b)]) a=some o->(a=p/\o=.dK [(.inl 0,.ref b)])\/(a=b/\o=.lst [.int 0]):=λ{a o} e=>by
   by_cases q1:a=p
   ·subst q1;rw[iQ]at e;exact .inl ⟨rfl,by injection e with e;exact e.symm⟩
   ·rw[cQ q1]at e
    by_cases q2:a=b
    ·subst q2;rw[iQ]at e;exact .inr ⟨rfl,by injection e with e;exact e.symm⟩
    ·rw[cQ q2]at e;cases e
  have offs:∀{a:Addr},a≠f->H a=none->F a=none/\G.H0 a=none/\∀(i:Nat) (s:Sl),(GY r n 0 [] none none)[i]?=some (some s)->LQ s=true->(((σ.set 2 (some (V.ref p))).set 3 (some (V.int 0))).set 4 (some (V.ref f)))[i]?≠some (some (V.ref a)):=λ{a} haf ha=>by
   refine ⟨R.f0 ha,R.h0 ha,λi s e w z=>?_⟩
   match i,e with
   | 0,e=>cases e;cases w
   | 1,e=>cases e;cases w
   | 2,e=>cases e
   | 3,e=>cases e;cases w
   | 4,e =>
    rw[hZ (by simp[hl7])]at z
    injection z with z;injection z with z;injection z with z
    exact haf z.symm
   | 5,e=>cases e
   | 6,e=>cases e
   | j+7,e=>simp at e
  refine ⟨λa o e=>?_,λa o e=>?_⟩
  ·rcases two e with⟨rfl,rfl⟩|⟨rfl,rfl⟩
   ·rw[cQ (L1 hfp)];exact iQ
   ·rw[cQ (L1 hfb),cQ hbp];exact iQ
  ·rcases two e with⟨rfl,rfl⟩|⟨rfl,rfl⟩
   ·exact offs (L1 hfp) hp
   ·exact offs (L1 hfb) hbH
 ·rw[O0 (by decide),O0 (by decide)]
  exact hZ (by omega)
 ·obtain⟨Fc,Xc,dc,tb,s,Rc,xc,hdc,dlc,hl1,hl2⟩:=S.ex
  obtain⟨v,hv,res⟩:=Rc.forgetRes (i:=4) rfl
  exact ⟨v,hv,rt v σ' H' Fc _ _ (s1.trans s) (Rc.forget (i:=4) rfl) res (q _)⟩
theorem Gk{X:Cx}{K:Fg}{sts:List Stmt}(h:PSs X sts (aB K)):WSs X sts (sQ K bB):=⟨MC h JE⟩
end L3
namespace L2
open PySem PySem.Spec PyProof.Rows PySem.W
theorem LE{X:Cx}{pins:List (Addr×Obj)}{σ:St}{H:Hp}{s:Shared}{c d:Addr}{x y:SY}{A:Around}(I:Inv X pins σ H s)(hu:A.units+1 < cLine)(hx:HZ H c x)(hy:HZ H d y):SeqAt.EqAt A s (.ref c) (.ref d) (decide (x=y)):=by
 by_cases e:c=d
 ·subst e
  have:=(UZ H c x hx).symm.trans (UZ H c y hy)
  rw[decide_eq_true this]
  exact SeqAt.EqAt.same _
 ·obtain⟨a1,b1,hc1,ha1,hb1⟩:=hx
  obtain⟨a2,b2,hc2,ha2,hb2⟩:=hy
  obtain⟨_,ic,rc,tc⟩:=(show ObjOk X.prog X.w H s.heap c (.tup [.ref a1,.ref b1]) from I.hok c _ hc1)
  obtain⟨_,id',rd,td⟩:=(show ObjOk X.prog X.w H s.heap d (.tup [.ref a2,.ref b2]) from I.hok d _ hc2)
  obtain⟨u1,u2,rfl,r1,r2⟩:=KJ rc
  obtain⟨w1,w2,rfl,r3,r4⟩:=KJ rd
  cases r1;cases r2;cases r3;cases r4
  have hu1:A.in1.units < cLine:=hu
  have h:=SeqAt.RcAt.tuples (A:=A) (s:=s) (e:=λk=>if k=0 then decide (x.1=y.1) else decide (x.2=y.2)) tc.t td.t (Nat.lt_of_succ_lt hu) λj h1 h2=>by
   rcases j with _|_|j
   ·exact NU I hu1 ha1 ha2 λ_ _ z=>z
   ·exact NU I hu1 hb1 hb2 λ_ _ z=>z
   ·exact absurd h1 (by simp)
  have hv:((V0 (min #[U1 a1,U1 b1].size #[U1 a2,U1 b2].size)).all (λk=>if k=0 then decide (x.1=y.1) else decide (x.2=y.2))&&#[U1 a1,U1 b1].size==#[U1 a2,U1 b2].size)=decide (x=y):=by
   show ((V0 2).all (λk=>if k=0 then decide (x.1=y.1) else decide (x.2=y.2))&&true)=_
   rw[show V0 2=[0,1] from rfl,N5]
   cases x;cases y
   simp
  rw[<- hv]
  exact SeqAt.EqAt.of_refs e h
noncomputable def kM(H:Hp)(x:SY)(y:Value):Bool:=@decide (∃c,y=.ref c/\HZ H c x) (Classical.propDecidable _)
theorem PU{H:Hp}{x y:SY}{c:Addr}(h:HZ H c y):kM H x (.ref c)=decide (y=x):=by
 by_cases e:y=x
 ·subst e
  rw[decide_eq_true rfl]
  exact @decide_eq_true _ (Classical.propDecidable _) ⟨c,rfl,h⟩
 ·rw[decide_eq_false e]
  refine @decide_eq_false _ (Classical.propDecidable _) ?_
  rintro⟨c',h1,h2⟩
  cases h1
  exact e ((UZ H c y h).symm.trans (UZ H c x h2))
noncomputable def lM(K:q0):R2:=λx y H Q=>∃(p b:Addr) (xs:List V) (bx:SY) (bs:List SY),y=.ref p/\x=.ref b/\SqL K H p xs/\HZ H b bx/\xs.length=bs.length/\(∀(i:Nat) v,xs[i]?=some v->∃c q,bs[i]?=some q/\v=.ref c/\HZ H c q)/\Q (.bl (decide (bx∈bs))) H
theorem ME{X:Cx}{K:q0}(hK:X.K=K)(hu:X.A.units+2 < cLine):OpR X (compareOp .In) (lM K):=by
 subst hK
 intro pins s σ H x y v u Q I rx ry h
 obtain⟨p,b,xs,bx,bs,rfl,rfl,hq,hb,hl,hxs,q⟩:=h
 cases ry
 cases rx
 obtain⟨its,r,pl,hz⟩:=I.list hq
 have len:=r.length
 have at':∀w∈its,∃c q',w=.ref c/\HZ H c q'/\q'∈bs:=λw hw=>by
  obtain⟨i,hi⟩:=G5.mp hw
  obtain⟨x,ex,rx⟩:=r.getV hi
  obtain⟨c,q',e1,rfl,e3⟩:=hxs i x ex
  cases rx
  exact ⟨c,q',rfl,e3,Y1 e1⟩
 refine SeqAt.in_listAt (kM H bx) pl.isList (λw hw=>?_) ⟨.bl _,H,I,rfl,?_⟩
 ·obtain⟨c,q',rfl,h1,_⟩:=at' w (by simpa using hw)
  rw[PU h1]
  exact LE I (show X.A.in1.units+1 < cLine from hu) h1 hb
 ·have e:its.toArray.any (kM H bx)=decide (bx∈bs):=by
   rw[show its.toArray.any (kM H bx)=its.any (kM H bx) by simp,N5,List.any_eq_true,decide_eq_true_eq]
   constructor
   ·rintro⟨w,hw,e⟩
    obtain⟨c,q',rfl,h1,h2⟩:=at' w hw
    rw[PU h1,decide_eq_true_eq]at e
    rw[<- e]
    exact h2
   ·intro hm
    obtain⟨i,hi⟩:=G5.mp hm
    have hil:i < its.length:=by rw[<- len,hl];exact (W0.mp hi).1
    obtain⟨x,ex,rx⟩:=r.getV (L0 hil)
    obtain⟨c,q',e1,rfl,e3⟩:=hxs i x ex
    rw[hi]at e1
    cases e1
    refine ⟨its[i],Q4 _,?_⟩
    have:its[i]=.ref c:=by revert rx;cases its[i]<;>intro rx<;>first|(cases rx;rfl)|cases rx
    rw[this,PU e3]
    exact decide_eq_true rfl
  rw[e]
  exact q
end L2
namespace L3
open PySem PySem.Spec PyProof.Rows L2
noncomputable abbrev rN(p:SY):D:=.tuple [.tuple (p.1.map n0),.tuple (p.2.map n0)]
theorem Hk{K:Fg}{F:Hp}{v:V}{p:SY}(h:Da K F v (rN p)):∃c,v=.ref c/\HZ F c p:=by
 cases h with
 | tup q t =>
  cases t with
  | cons h1 t =>
   cases t with
   | cons h2 t =>
    cases t
    cases h1 with
    | tup q1 t1 =>
     cases h2 with
     | tup q2 t2 =>
      rw[t1.intsV]at q1
      rw[t2.intsV]at q2
      exact ⟨_,rfl,_,_,q,q1,q2⟩
theorem dG{F H:Hp}{c:Addr}{p:SY}(s:Sub F H)(h:HZ F c p):HZ H c p:=by
 obtain⟨a,b,h1,h2,h3⟩:=h
 exact ⟨a,b,s _ _ h1,s _ _ h2,s _ _ h3⟩
noncomputable def mM:D->D->(Sl->Prop)->Prop:=λd e Q=>∃(bx:SY) (bs:List SY),d=rN bx/\e=.list (bs.map rN)/\Q (.fz (.bool (decide (bx∈bs))))
theorem NE{K:Fg}:VQ K (DY (lM K)) (o2 mM):=ux λG F σ H ρ x y d e Q Qd R h1 h2 w k=>by
 obtain⟨bx,bs,rfl,rfl,w⟩:=w
 obtain⟨a,us,rfl,e1,d1⟩:=h2.list R.sub
 have hb:∃c,x=.ref c/\HZ H c bx:=by
  rcases h1 with h1|⟨a,o,rfl,_,e,h1⟩
  ·obtain⟨c,rfl,h⟩:=Hk h1
   exact ⟨c,rfl,dG R.sub h⟩
  ·cases o<;>exact h1.elim
 obtain⟨c,rfl,hb⟩:=hb
 have hl:=d1.length
 rw[i0]at hl
 refine ⟨a,c,us,bx,bs,rfl,rfl,SqL.of e1,hb,hl,λi v hv=>?_,k _ H F (.fz _) (Sub.refl _) R (Da.bl _) w⟩
 have hi:i < bs.length:=by rw[<- hl];exact (W0.mp hv).1
 obtain⟨u,f1,f2⟩:=d1.get (i:=i) (d:=rN bs[i]) (by rw[X0,L0 hi];rfl)
 rw[hv]at f1
 cases f1
 obtain⟨c,rfl,g⟩:=Hk f2
 exact ⟨c,bs[i],L0 hi,rfl,dG R.sub g⟩
section
variable {X:Cx}{K:Fg}{e1 e2:Expr}{a b:AD}{pos:Pos}
theorem nM(hK:X.K=K)(hu:X.A.units+2 < cLine)(ha:WE X e1 (pQ K a))(hb:WE X e2 (pQ K b))(hm:behindInMarks .In e2=false:=by rfl):WE X (.Compare e1 [.In] [e2] pos) (lift K (SZ [a,b] (o2 mM))):=⟨vL NE (cD (ME hK hu) ha.h hb.h hm)⟩
end
end L3
namespace RM
noncomputable def AX:Nat->(Nat->Int)->Int
 | 0,g=>g 0
 | n+1,g=>AX n g+g (n+1)
theorem GX:∀(n:Nat) {g h:Nat->Int},(∀i,i<=n->g i=h i)->AX n g=AX n h
 | 0,g,h,e=>e 0 (G0 _)
 | n+1,g,h,e=>by
  show AX n g+g (n+1)=AX n h+h (n+1)
  rw[GX n λi hi=>e i (by omega),e (n+1) (G0 _)]
noncomputable def prodN:List Int->Nat
 | []=>1
 | a :: r=>a.toNat * prodN r
theorem FJ:∀{l:List Int},(∀c∈l,1<=c)->1<=prodN l
 | [],_=>G0 _
 | a :: r,h=>by
  have h1:=h a A0
  have h2:=FJ (l:=r) λc hc=>h c (u0 _ hc)
  exact V8 (show 1<=a.toNat by omega) h2
noncomputable def pre:List Int->(Nat->Int)->Nat->Int
 | [],f,k=>f k
 | _ :: r,f,k=>AX (k / prodN r) λi=>pre r (λk'=>f (i * prodN r+k')) (k % prodN r)
noncomputable def dif:List Int->(Nat->Int)->Nat->Int
 | [],f,k=>f k
 | _ :: r,f,k=>dif r (λk'=>f (k / prodN r * prodN r+k')) (k % prodN r) - (if k / prodN r=0 then 0 else dif r (λk'=>f ((k / prodN r - 1) * prodN r+k')) (k % prodN r))
noncomputable def prodI:List Int->Int
 | []=>1
 | a :: r=>a * prodI r
theorem prodI_append(l r:List Int):prodI (l++r)=prodI l * prodI r:=by
 induction l with
 | nil=>show prodI r=1 * prodI r;rw[W4]
 | cons a l ih=>show a * prodI (l++r)=a * prodI l * prodI r;rw[ih,v5]
theorem prodI_rev:∀l:List Int,prodI l.reverse=prodI l
 | []=>rfl
 | a :: r=>by
  rw[List.reverse_cons,prodI_append,prodI_rev r]
  show prodI r * (a * 1)=a * prodI r
  rw[B7,B8]
noncomputable def rowP(pl:List Int)(n:Nat):List (List Int):=(V0 n).map λi:Nat=>pl++[(i:Int)]
noncomputable def stepP(found:List (List Int))(n:Int):List (List Int):=found.flatMap λpl=>rowP pl n.toNat
noncomputable def placesOf(sd:List Int):List (List Int):=sd.foldl stepP [[]]
theorem Ik(pl:List Int)(n:Nat):(rowP pl n).length=n:=by simp[rowP]
theorem Qz(found:List (List Int))(n:Int):(stepP found n).length=found.length * n.toNat:=by
 induction found with
 | nil=>simp[stepP]
 | cons a r ih =>
  have:stepP (a :: r) n=rowP a n.toNat++stepP r n:=by simp[stepP]
  rw[this,M0,ih,Ik,K1,P6];omega
theorem bU:∀(sd:List Int) (f:List (List Int)),(∀c∈sd,1<=c)->((sd.foldl stepP f).length:Int)=f.length * prodI sd
 | [],f,_=>by show (f.length:Int)=f.length * 1;omega
 | a :: r,f,h=>by
  have h1:=h a A0
  rw[Q3,bU r _ λc hc=>h c (u0 _ hc),Qz]
  show ((f.length * a.toNat:Nat):Int) * prodI r=f.length * (a * prodI r)
  rw[N8,O7 (by omega),v5]
noncomputable def leqs(p:List Int)(o:List Int):List Bool:=(o.zip p).map λab=>decide (ab.1<=ab.2)
noncomputable def leq(p:List Int)(o:List Int):Bool:=(leqs p o).all id
noncomputable def tot(p:List Int)(pc:List (List Int×Int)):Int:=pc.foldl (λacc oc=>if leq p oc.1=true then acc+oc.2 else acc) 0
noncomputable def runOf(sd cs:List Int):List Int:=(placesOf sd).map λp=>tot p ((placesOf sd).zip cs)
noncomputable def addT(side step:Int)(xs:List Int)(i:Nat):List Int:=if 0 < (i:Int) / step % side then xs.set i (xs.getD i 0+xs.getD (i - step.toNat) 0) else xs
noncomputable def addN(side step:Int)(xs:List Int):Nat->List Int
 | 0=>xs
 | j+1=>addT side step (addN side step xs j) (step.toNat+j)
theorem Jk(side step:Int)(xs:List Int)(i:Nat):(addT side step xs i).length=xs.length:=by unfold addT;split<;>simp
theorem addN_len(side step:Int)(xs:List Int):∀j,(addN side step xs j).length=xs.length
 | 0=>rfl
 | j+1=>by show (addT _ _ _ _).length=_;rw[Jk,addN_len side step xs j]
noncomputable def addAlong(side step:Int)(xs:List Int):List Int:=addN side step xs (xs.length - step.toNat)
noncomputable def runProg:List Int->Int->List Int->List Int
 | [],_,xs=>xs
 | a :: r,st,xs=>runProg r (st * a) (addAlong a st xs)
theorem addAlong_len(a st:Int)(xs:List Int):(addAlong a st xs).length=xs.length:=addN_len _ _ _ _
theorem runProg_len:∀(l:List Int) (st:Int) (xs:List Int),(runProg l st xs).length=xs.length
 | [],_,_=>rfl
 | a :: r,st,xs=>by show (runProg r _ _).length=_;rw[runProg_len r,addAlong_len]
theorem HK:∀(l:List Int) (a st:Int) (xs:List Int),runProg (l++[a]) st xs=addAlong a (st * prodI l) (runProg l st xs)
 | [],a,st,xs=>by show addAlong a st xs=addAlong a (st * 1) xs;rw[B7]
 | b :: r,a,st,xs=>by
  show runProg (r++[a]) (st * b) (addAlong b st xs)=_
  rw[HK r a (st * b) (addAlong b st xs)]
  show _=addAlong a (st * (b * prodI r)) (runProg r (st * b) (addAlong b st xs))
  rw[v5]
theorem eK:∀(n:Nat) (g:Nat->Int),AX (n+1) g=g 0+AX n λt=>g (t+1)
 | 0,g=>rfl
 | n+1,g=>by
  show AX (n+1) g+g (n+1+1)=g 0+(AX n (λt=>g (t+1))+g (n+1+1))
  rw[eK n g];omega
theorem cU:∀(n:Nat) (g:Nat->Int),AX n (λt=>g (n - t))=AX n g
 | 0,g=>rfl
 | n+1,g=>by
  rw[eK]
  have e:AX n (λt=>g (n+1 - (t+1)))=AX n (λt=>g (n - t)):=GX n λi _=>by rw[Nat.add_sub_add_right]
  rw[e,cU n g]
  show g (n+1 - 0)+AX n g=AX n g+g (n+1)
  rw[Q7];omega
theorem prodN_I:∀{l:List Int},(∀c∈l,1<=c)->prodI l=(prodN l:Int)
 | [],_=>rfl
 | a :: r,h=>by
  have h1:=h a A0
  show a * prodI r=((a.toNat * prodN r:Nat):Int)
  rw[prodN_I λc hc=>h c (u0 _ hc),N8,O7 (by omega)]
theorem pre_congrU:∀(sd:List Int) {f g:Nat->Int} (k:Nat),(∀i,f i=g i)->pre sd f k=pre sd g k
 | [],f,g,k,e=>e k
 | a :: r,f,g,k,e=>GX _ λi _=>pre_congrU r _ λk'=>e _
theorem eG{side st:Nat}(hs:1<=side)(ht:1<=st)(xs:List Int):∀(j:Nat),j<=xs.length - st->∀k,k < xs.length ->
  (addN (side:Int) (st:Int) xs j).getD k 0=if k < st+j then AX (k / st % side) (λt=>xs.getD (k - t * st) 0) else xs.getD k 0
 | 0,_,k,hk=>by
  show xs.getD k 0=_
  split
  ·rename_i h
   rw[t7 (by omega),Nat.zero_mod]
   show _=xs.getD (k - 0 * st) 0
   rw[S7,Q7]
  ·rfl
 | j+1,hj,k,hk=>by
  have ih:=eG hs ht xs j (by omega)
  have hlen:=addN_len (side:Int) (st:Int) xs j
  have hi:st+j < xs.length:=by omega
  show (addT (side:Int) (st:Int) (addN (side:Int) (st:Int) xs j) ((st:Int).toNat+j)).getD k 0=_
  rw[W5]
  have hcond:((st+j:Nat):Int) / (st:Int) % (side:Int)=(((st+j) / st % side:Nat):Int):=by
   rw[Int.natCast_emod,Int.natCast_ediv]
  have hdiv:(st+j) / st=j / st+1:=by rw[A9,Nat.add_div_right _ (by omega)]
  unfold addT
  rw[hcond,W5,N3]
  by_cases hk1:k=st+j
  ·subst hk1
   rw[if_pos (by omega:st+j < st+(j+1))]
   by_cases hq:0 < (st+j) / st % side
   ·rw[if_pos (by omega),B1,Y6 (by omega),T3,ih _ hi,if_neg (by omega),ih j (by omega),if_pos (by omega)]
    obtain⟨q,hq'⟩:∃q,(st+j) / st % side=q+1:=⟨(st+j) / st % side - 1,by omega⟩
    have hq2:j / st % side=q:=by
     rw[hdiv]at hq'
     have h1:=Nat.mod_lt (j / st) (show 0 < side by omega)
     rw[Nat.add_mod]at hq'
     by_cases hs1:side=1
     ·subst hs1;rw[Nat.mod_one]at hq';omega
     ·rw[L6 (show 1 < side by omega)]at hq'
      by_cases h2:j / st % side+1 < side
      ·rw[L6 h2]at hq';omega
      ·have:j / st % side+1=side:=by omega
       rw[this,Nat.mod_self]at hq';omega
    rw[hq',hq2,eK]
    show _=xs.getD (st+j - 0 * st) 0+_
    rw[S7,Q7]
    congr 1
    refine GX q λi _=>?_
    congr 1
    rw[P6];omega
   ·rw[if_neg (by omega),ih _ hi,if_neg (by omega)]
    have:(st+j) / st % side=0:=by omega
    rw[this]
    show _=xs.getD (st+j - 0 * st) 0
    rw[S7,Q7]
  ·have e:(if 0 < (((st+j) / st % side:Nat):Int) then (addN (side:Int) (st:Int) xs j).set (st+j) ((addN (side:Int) (st:Int) xs j).getD (st+j) 0+(addN (side:Int) (st:Int) xs j).getD j 0) else addN (side:Int) (st:Int) xs j).getD k 0=(addN (side:Int) (st:Int) xs j).getD k 0:=by
    split
    ·rw[B1,O0 (L1 hk1),<- B1]
    ·rfl
   rw[e,ih k hk]
   by_cases h1:k < st+j
   ·rw[if_pos h1,if_pos (by omega)]
   ·rw[if_neg h1,if_neg (by omega)]
theorem du{side st:Nat}(hs:1<=side)(ht:1<=st)(xs:List Int)(k:Nat)(hk:k < xs.length):(addAlong (side:Int) (st:Int) xs).getD k 0=AX (k / st % side) (λt=>xs.getD (k - t * st) 0):=by
 unfold addAlong
 rw[W5,eG hs ht xs _ (G0 _) k hk]
 by_cases h:k < st+(xs.length - st)
 ·rw[if_pos h]
 ·omega
theorem prog_val:∀(sd:List Int),(∀c∈sd,1<=c)->∀(cs:List Int) (q:Nat),cs.length=q * prodN sd->∀k,k < cs.length ->
  (runProg sd.reverse 1 cs).getD k 0=pre sd (λk'=>cs.getD (k / prodN sd * prodN sd+k') 0) (k % prodN sd)
 | [],_,cs,q,hl,k,hk=>by
  show cs.getD k 0=cs.getD (k / 1 * 1+k % 1) 0
  rw[Nat.div_one,Nat.mul_one,Nat.mod_one,R7]
 | a :: r,h,cs,q,hl,k,hk=>by
  have h1:=h a A0
  have hr:∀c∈r,1<=c:=λc hc=>h c (u0 _ hc)
  have hm:=FJ hr
  obtain⟨an,rfl⟩:∃an:Nat,a=(an:Int):=⟨a.toNat,by omega⟩
  have han:1<=an:=by omega
  have hn:prodN ((an:Int) :: r)=an * prodN r:=by show (an:Int).toNat * prodN r=_;rw[W5]
  rw[hn]at hl ⊢
  rw[List.reverse_cons,HK,W4,prodI_rev,prodN_I hr]
  have ih:=prog_val r hr cs (q * an) (by rw[hl,y7])
  rw[du han hm _ k (by rw[runProg_len];exact hk)]
  show _=AX (k % (an * prodN r) / prodN r) λi=>pre r (λk'=>cs.getD (k / (an * prodN r) * (an * prodN r)+(i * prodN r+k')) 0) (k % (an * prodN r) % prodN r)
  generalize prodN r=m at *
  have e1:k % (an * m) / m=k / m % an:=by rw[S5 an m,Nat.mod_mul_right_div_self]
  have e2:k % (an * m) % m=k % m:=Nat.mod_mul_left_mod k an m
  have e3:k / (an * m)=k / m / an:=by rw[S5 an m,Nat.div_div_eq_div_mul]
  rw[e1,e2,e3,<- cU]
  refine GX _ λt htq=>?_
  have hq:k / m % an<=k / m:=Nat.mod_le _ _
  have e6:=O8 (k / m) an
  rw[S5 an]at e6
  obtain⟨u,hu⟩:∃u,u=k / m % an - t:=⟨_,rfl⟩
  rw[<- hu]
  have htm:u * m<=k:=A1 (K7 m (show u<=k / m by omega)) (Nat.div_mul_le_self k m)
  rw[ih (k - u * m) (by omega)]
  have e8:k=(k / m - u) * m+k % m+u * m:=by
   have h1:=O8 k m
   rw[S5]at h1
   have h2:k / m * m=(k / m - u) * m+u * m:=by rw[<- P6,Nat.sub_add_cancel (by omega)]
   omega
  have e9:k - u * m=k % m+m * (k / m - u):=by rw[S5 m];omega
  have hlt:=Nat.mod_lt k (show 0 < m by omega)
  have e4:(k - u * m) / m=k / m - u:=by rw[e9,Nat.add_mul_div_left _ _ (by omega),t7 hlt,T5]
  have e5:(k - u * m) % m=k % m:=by rw[e9,Nat.add_mul_mod_self_left,L6 hlt]
  rw[e4,e5]
  refine pre_congrU r _ λk'=>?_
  congr 1
  have e7:k / m - u=k / m / an * an+t:=by omega
  rw[e7,P6,y7];omega
noncomputable def T(p:List Int):List (List Int)->(Nat->Int)->Nat->Int
 | [],_,_=>0
 | o :: os,f,s=>(if leq p o=true then f s else 0)+T p os f (s+1)
theorem fG(p:List Int)(f:Nat->Int):∀(xs ys:List (List Int)) (s:Nat),T p (xs++ys) f s=T p xs f s+T p ys f (s+xs.length)
 | [],ys,s=>by show T p ys f s=0+T p ys f (s+0);rw[R7];omega
 | o :: os,ys,s=>by
  show _+T p (os++ys) f (s+1)=_+T p os f (s+1)+T p ys f (s+(os.length+1))
  rw[fG p f os ys (s+1),show s+1+os.length=s+(os.length+1) by omega];omega
theorem VD(p:List Int)(f:Nat->Int):∀(xs:List (List Int)) (s d:Nat),T p xs f (d+s)=T p xs (λk=>f (d+k)) s
 | [],_,_=>rfl
 | o :: os,s,d=>by
  show (if leq p o=true then f (d+s) else 0)+T p os f (d+s+1)=(if leq p o=true then f (d+s) else 0)+T p os _ (s+1)
  rw[show d+s+1=d+(s+1) by omega,VD p f os (s+1) d]
theorem cB(p:List Int):∀(ps:List (List Int)) (cs:List Int) (f:Nat->Int) (s:Nat) (acc:Int),ps.length=cs.length->(∀i,i < cs.length->f (s+i)=cs.getD i 0) ->
  (ps.zip cs).foldl (λacc oc=>if leq p oc.1=true then acc+oc.2 else acc) acc=acc+T p ps f s
 | [],_,f,s,acc,_,_=>by show acc=acc+0;omega
 | o :: os,[],f,s,acc,h,_=>by simp at h
 | o :: os,c :: cs,f,s,acc,h,hf=>by
  show (os.zip cs).foldl _ (if leq p o=true then acc+c else acc)=acc+((if leq p o=true then f s else 0)+T p os f (s+1))
  have h0:=hf 0 (by simp)
  rw[R7]at h0
  have h0:f s=c:=h0
  rw[cB p os cs f (s+1) _ (by simpa using h) λi hi=>by
    have:=hf (i+1) (by simp;omega)
    rw[show s+1+i=s+(i+1) by omega,this];rfl]
  rw[h0]
  split<;>omega
theorem IK:∀(sd:List Int) (f g:List (List Int)),sd.foldl stepP (f++g)=sd.foldl stepP f++sd.foldl stepP g
 | [],f,g=>rfl
 | a :: r,f,g=>by
  rw[Q3,Q3,Q3,show stepP (f++g) a=stepP f a++stepP g a by simp[stepP],IK r]
theorem LW(c:Int):∀(sd:List Int) (f:List (List Int)),sd.foldl stepP (f.map (c :: ·))=(sd.foldl stepP f).map (c :: ·)
 | [],f=>rfl
 | a :: r,f=>by
  rw[Q3,Q3,<- LW c r]
  congr 1
  simp[stepP,rowP,u7,w8]
  rfl
theorem dU:∀sd:List Int,sd.foldl stepP []=[]
 | []=>rfl
 | a :: r=>by rw[Q3];exact dU r
theorem gG(a:Int)(r:List Int):placesOf (a :: r)=(V0 a.toNat).flatMap λi:Nat=>(placesOf r).map ((i:Int) :: ·):=by
 have go:∀is:List Nat,r.foldl stepP (is.map λi:Nat=>[(i:Int)])=is.flatMap λi:Nat=>(placesOf r).map ((i:Int) :: ·):=by
  intro is
  induction is with
  | nil=>exact dU r
  | cons i is ih =>
   rw[Z0,E2,<- ih]
   have:r.foldl stepP ([(i:Int)] :: is.map λi:Nat=>[(i:Int)])=r.foldl stepP ([[(i:Int)]]++is.map λi:Nat=>[(i:Int)]):=rfl
   rw[this,IK]
   congr 1
   exact LW (i:Int) r [[]]
 have e:stepP [[]] a=(V0 a.toNat).map λi:Nat=>[(i:Int)]:=by simp[stepP,rowP]
 show r.foldl stepP (stepP [[]] a)=_
 rw[e,go]
theorem leq_cons(i i':Int)(p o:List Int):leq (i :: p) (i' :: o)=(decide (i'<=i)&&leq p o):=rfl
theorem dB(i:Int)(i':Int)(p:List Int)(f:Nat->Int):∀(xs:List (List Int)) (s:Nat),T (i :: p) (xs.map (i' :: ·)) f s=if i'<=i then T p xs f s else 0
 | [],s=>by simp[T]
 | o :: os,s=>by
  show (if leq (i :: p) (i' :: o)=true then f s else 0)+T (i :: p) (os.map (i' :: ·)) f (s+1)=_
  rw[leq_cons,dB i i' p f os (s+1)]
  by_cases h:i'<=i
  ·rw[if_pos h,if_pos h];simp[h,T]
  ·rw[if_neg h,if_neg h];simp[h]
theorem Kk(i:Nat)(p:List Int)(f:Nat->Int)(xs:List (List Int)):∀A:Nat,T ((i:Int) :: p) ((V0 A).flatMap λj:Nat=>xs.map ((j:Int) :: ·)) f 0 =
  if A=0 then 0 else AX (min i (A - 1)) λj=>T p xs (λk=>f (j * xs.length+k)) 0
 | 0=>by simp[T]
 | A+1=>by
  rw[i5,J4,fG,Kk i p f xs A,A6,dB]
  have hlen:((V0 A).flatMap λj:Nat=>xs.map ((j:Int) :: ·)).length=A * xs.length:=by
   induction A with
   | zero=>simp
   | succ A ih=>rw[i5,J4,M0,ih,A6,i0,P6];omega
  rw[hlen,T5,if_neg (by omega:¬A+1=0)]
  have e:=VD p f xs 0 (A * xs.length)
  rw[R7]at e
  by_cases hA:A=0
  ·subst hA
   rw[if_pos rfl,if_pos (by omega),show min i (0+1 - 1)=0 by omega]
   show 0+T p xs f (0 * xs.length)=T p xs (λk=>f (0 * xs.length+k)) 0
   rw[<- e];omega
  ·rw[if_neg hA]
   by_cases hi:A<=i
   ·rw[if_pos (by omega),show min i (A+1 - 1)=(A - 1)+1 by omega,show min i (A - 1)=A - 1 by omega]
    show _+T p xs f (A * xs.length)=AX (A - 1) _+T p xs (λk=>f ((A - 1+1) * xs.length+k)) 0
    rw[show A - 1+1=A by omega,<- e]
   ·rw[if_neg (by omega),show min i (A+1 - 1)=i by omega,show min i (A - 1)=i by omega];omega
theorem fK{sd:List Int}(h:∀c∈sd,1<=c):(placesOf sd).length=prodN sd:=by
 have h1:=bU sd [[]] h
 rw[prodN_I h]at h1
 have h6:(([[]]:List (List Int)).length:Int)=1:=rfl
 rw[h6]at h1
 unfold placesOf;omega
theorem iG{xs:List (List Int)}{i j:Nat}(hj:j < xs.length):∀A:Nat,i < A->((V0 A).flatMap λt:Nat=>xs.map ((t:Int) :: ·))[i * xs.length+j]?=some ((i:Int) :: xs[j])
 | 0,h=>by omega
 | A+1,h=>by
  have hlen:((V0 A).flatMap λj:Nat=>xs.map ((j:Int) :: ·)).length=A * xs.length:=by
   clear h
   induction A with
   | zero=>simp
   | succ A ih=>rw[i5,J4,M0,ih,A6,i0,P6];omega
  rw[i5,J4,A6]
  by_cases hi:i < A
  ·rw[X1,iG hj A hi]
   rw[hlen]
   have:=K7 xs.length (show i+1<=A by omega)
   rw[P6]at this;omega
  ·have:i=A:=by omega
   subst this
   rw[O1 (by rw[hlen];omega),hlen,N3,X0,L0 hj];rfl
theorem WD:∀(sd:List Int),(∀c∈sd,1<=c)->∀(f:Nat->Int) (k:Nat) (p:List Int),(placesOf sd)[k]?=some p->T p (placesOf sd) f 0=pre sd f k
 | [],_,f,k,p,hp=>by
  have hp:([[]]:List (List Int))[k]?=some p:=hp
  cases k with
  | zero =>
   have:[]=p:=by simpa using hp
   subst this
   show (if leq [] []=true then f 0 else 0)+0=f 0
   rw[if_pos (show leq [] []=true from rfl)];omega
  | succ k=>simp at hp
 | a :: r,h,f,k,p,hp=>by
  have h1:=h a A0
  have hr:∀c∈r,1<=c:=λc hc=>h c (u0 _ hc)
  have hm:=FJ hr
  have hl:=fK hr
  have hk:k < (placesOf (a :: r)).length:=(W0.mp hp).1
  rw[fK h]at hk
  have hk:k < a.toNat * prodN r:=hk
  have hi:k / prodN r < a.toNat:=Nat.div_lt_of_lt_mul (by rw[S5];exact hk)
  have hj:k % prodN r < (placesOf r).length:=by rw[hl];exact Nat.mod_lt _ (by omega)
  have ek:k=k / prodN r * (placesOf r).length+k % prodN r:=by rw[hl,S5];exact (O8 k _).symm
  rw[gG]at hp ⊢
  have hg:=iG (i:=k / prodN r) hj a.toNat hi
  rw[<- ek,hp]at hg
  have hg:=S1 hg
  subst hg
  rw[Kk,if_neg (by omega),show min (k / prodN r) (a.toNat - 1)=k / prodN r by omega]
  show _=AX (k / prodN r) λi=>pre r (λk'=>f (i * prodN r+k')) (k % prodN r)
  refine GX _ λi _=>?_
  rw[hl]
  exact WD r hr _ _ _ (L0 hj)
theorem runEq{sd cs:List Int}(hp:∀c∈sd,1<=c)(hc:cs.length=(placesOf sd).length):runProg sd.reverse 1 cs=runOf sd cs:=by
 have hl:=fK hp
 have hm:=FJ hp
 have l1:(runProg sd.reverse 1 cs).length=cs.length:=runProg_len _ _ _
 have l2:(runOf sd cs).length=cs.length:=by unfold runOf;rw[i0,hc]
 refine v8 (by rw[l1,l2]) λk k1 k2=>?_
 have hk:k < cs.length:=by omega
 have hkn:k < prodN sd:=by omega
 have e1:=prog_val sd hp cs 1 (by rw[hc,hl,Q6]) k hk
 rw[B1,L0 k1,T3,t7 hkn,L6 hkn]at e1
 rw[e1]
 have hkp:k < (placesOf sd).length:=by omega
 have e2:(runOf sd cs)[k]=tot (placesOf sd)[k] ((placesOf sd).zip cs):=by simp[runOf]
 rw[e2]
 have e3:=cB (placesOf sd)[k] (placesOf sd) cs (λi=>cs.getD i 0) 0 0 hc.symm λi _=>by rw[T5]
 unfold tot
 rw[e3,WD sd hp _ k _ (L0 hkp),Int.zero_add]
 exact pre_congrU sd k λi=>by rw[S7,T5]
end RM
namespace R48
open PySem L2 L3 PyProof.Rows
noncomputable def top(i:Nat):Stmt:=PySem.Challenge.pw_boxsums_k48_whole_best_and_counted.main.body.getD i (.Pass ⟨0,0,0,0⟩)
structure Txt(mg:Str->Option Value):Prop where
 len_:mg "len"=none
 isinstance_:mg "isinstance"=none
 int_:mg "int"=none
 bool_:mg "bool"=none
 list_:mg "list"=none
 tuple_:mg "tuple"=none
 range_:mg "range"=none
 zip_:mg "zip"=none
 all_:mg "all"=none
 sum_:mg "sum"=none
 repr_:mg "repr"=none
 sorted_:mg "sorted"=none
 max_:mg "max"=none
 enumerate_:mg "enumerate"=none
 reversed_:mg "reversed"=none
 min_:mg "min"=none
 abs_:mg "abs"=none
local macro_rules | `(tactic| walk_at "po")=>`(tactic| first | (show (0:Int) < _; decide) | (show (0:Int) < _; omega) | exact ⟨by decide,by decide⟩ | exact Or.inl ⟨by decide,by decide⟩ | exact Or.inr ⟨by decide,by decide⟩ | exact ⟨by omega,by omega⟩ | exact Or.inl ⟨by omega,by omega⟩ | exact Or.inr ⟨by omega,by omega⟩ | decide | omega | assumption)
section
variable {P:Program}{w:World}{K:q0}{mg:Str->Option Value}{base:Heap}
noncomputable abbrev MW(ns:List Int)(k l:Int):List (PyData×PyData):=[(.str "script",pK ns),(.str "at",.int k),(.str "left",.int l)]
noncomputable abbrev mX(ns:List Int)(k l:Int):PyData:=.dict (MW ns k l)
theorem Lk(ns:List Int)(k l:Int):Ez (MW ns k l) (.str "script")=some (pK ns):=by rfl
theorem lO(ns:List Int)(k l:Int):Ez (MW ns k l) (.str "at")=some (.int k):=by rfl
theorem PF(ns:List Int)(k l:Int):Ez (MW ns k l) (.str "left")=some (.int l):=by rfl
theorem JP(ns:List Int)(k l k':Int):PV (MW ns k l) (.inr "at") (.int k')=MW ns k' l:=by rfl
theorem mO(ns:List Int)(k l l':Int):PV (MW ns k l) (.inr "left") (.int l')=MW ns k l':=by rfl
theorem nO(ns:List Int)(k l:Int):(EY (MW ns k l) (.inr "at")).isSome=true:=by rfl
theorem Nk(ns:List Int)(k l:Int):(EY (MW ns k l) (.inr "left")).isSome=true:=by rfl
theorem z3(ns:List Int)(k l:Int):(MW ns k l).length < sizeLine:=by show 3 < sizeLine;decide
noncomputable def Pk:Con:=λargs Q=>∃ns:List Int,args=[.fz (pK ns)]/\∀o,Q (.ow (mX ns 0 0)) o
theorem fu:FnScope ["_law_script"] ["_law_script"] (fQ (top 32)):=⟨rfl,rfl,rfl,by decide +kernel,rfl,by decide +kernel,by decide +kernel⟩
theorem Qk{f:Addr}{fd:FuncData}(F:Fun K "_law_begin" "_law_begin" (top 32) f fd):FnOk P w K mg base fZ 1 f fd ["_law_script"] (eQ K Pk):=by
 have S:=fu
 refine YZ F S (λcdv A outer s H E hr=>(nQ (yQ (kE [(.inr "script",.inl 0),(.inr "at",.inr (.int 0)),(.inr "left",.inr (.int 0))] (by decide +kernel) (by decide) (by simp) (mD (mK iU (pv 0) (mK iU SJ (mK iU SJ kD))) rfl rfl (by simp) (by simp)))))) ?_ ?_
 ·rintro args Qd ⟨ns,rfl,_⟩;rfl
 ·rintro args Qd ⟨ns,rfl,q⟩
  exact ⟨qQ rfl,q _⟩
noncomputable def QU:Con:=λargs Q=>∃a k:Int,args=[.fz (.int a),.fz (.int k)]/\∀r o,0<=r->Q (.fz (.int r)) o
theorem gu:FnScope ["_law_cell","_law_k","_law_one","_law_two"] ["_law_cell","_law_k"] (fQ (top 33)):=⟨rfl,rfl,rfl,by decide +kernel,rfl,by decide +kernel,by decide +kernel⟩
theorem Rk{f:Addr}{fd:FuncData}(F:Fun K "_law_mixed" "_law_mixed" (top 33) f fd):FnOk P w K mg base fZ 1 f fd ["_law_cell","_law_k"] (eQ K QU):=by
 have S:=gu
 refine YZ F S (λcdv A outer s H E hr=>(dQ (vQ (i:=2) S.nd rfl (Or.inl rfl) (w_bin rJ eJ (wx (w_bin XX xX (wx (w_bin NQ CQ (wx (w_bin NQ CQ (wx (w_bin rJ eJ (wn 0) (wx gQ))) (wx (w_bin XX xX (wx gQ) (wn 1))))) (wx gQ))) (wx gQ))) (wx gQ)))
     (dQ (vQ (i:=3) S.nd rfl (Or.inl rfl) (w_bin rJ eJ (wx (w_bin NQ CQ (wx (w_bin NQ CQ (wx (w_bin XX xX (wn 2) (wn 2))) (wx (w_bin XX xX (wx gQ) (wn 2))))) (wn 1))) (wx gQ)))
     (nQ (yQ (w_bin QY HY (wx (w_bin rJ eJ (wx (w_bin NQ CQ (wx (w_bin NQ CQ (wx (w_bin XX xX (wn 3) (wn 3))) (wx (w_bin XX xX (wx gQ) (wn 3))))) (wx (w_bin XX xX (wx gQ) (wn 1))))) (wx gQ))) (wx gQ))))))) ?_ ?_
 ·rintro args Qd ⟨a,k,rfl,_⟩;rfl
 ·rintro args Qd ⟨a,k,rfl,q⟩
  refine ⟨qQ rfl,?_⟩
  refine ⟨by walk_at "po",.inl ⟨by decide,by decide⟩,.inr ⟨by decide,by decide⟩,by walk_at "po",?_⟩
  refine ⟨.inl ⟨by omega,by omega⟩,.inl ⟨by decide,by decide⟩,by walk_at "po",?_⟩
  refine ⟨.inl ⟨by omega,by omega⟩,.inl ⟨by decide,by decide⟩,.inl ⟨by decide,by decide⟩,by walk_at "po",⟨by decide,by decide⟩,?_⟩
  exact q _ _ (by omega)
structure CalsA(P:Program)(w:World)(K:q0)(mg:Str->Option Value)(base:Heap):Prop where
 law_mixed:Cal P w K mg base 1 "_law_mixed" ["_law_cell","_law_k"] (eQ K QU)
noncomputable def eU:Con:=λargs Q=>∃(ns:List Int) (k l m:Int),args=[.io (mX ns k l),.fz (.int m)]/\0<=k/\0<=l/\0 < m/\m < 1000000 /\
 ∀(r k' l':Int) (o:Ev),0<=r->r < m->0<=k'->0<=l'->Q (.fz (.int r)) (some (.io (mX ns k' l')) :: o)
theorem OE:FnScope ["_law_state","_law_most","_law_k","_law_script","_law_cell","_law_found"] ["_law_state","_law_most"] (fQ (top 34)):=⟨rfl,rfl,rfl,by decide +kernel,rfl,by decide +kernel,by decide +kernel⟩
theorem iu{f:Addr}{fd:FuncData}(F:Fun K "_law_take" "_law_take" (top 34) f fd)(T:Txt mg)(C:CalsA P w K mg base):FnOk P w K mg base fZ 2 f fd ["_law_state","_law_most"] (eQ K eU):=by
 have S:=OE
 refine YZ F S (λcdv A outer s H E hr=>(dQ (vQ (i:=2) S.nd rfl (Or.inl rfl) (CW (nK hr) (wn 0) (wx xY)))
     (dQ (vQ (i:=3) S.nd rfl (Or.inl rfl) (CW (nK hr) (wn 0) (wx xY)))
     (dQ (jZ (dX SH (zW (K:=K) rfl hr.units) (wx (CW (nK hr) (wn 0) (wx xY))) (wx gQ)) (dQ (Rx (nK hr) (wn 0) (wx xY) (w_bin NQ CQ (wn 2) (wx gQ)))
     (dQ (vQ (i:=4) S.nd rfl (Or.inl rfl) gQ)
     (dQ (jZ (dX ED bD (wx (xQ NX (OQ (K:=K) rfl) T.len_ PySem.boot_len (aQ (wn 3) bQ))) (wx gQ)) (nQ (vQ (i:=4) S.nd rfl (Or.inl rfl) (BX rfl (wn 3) (wx (w_bin rJ eJ (wn 2) (wx (xQ NX (OQ (K:=K) rfl) T.len_ PySem.boot_len (aQ (wn 3) bQ)))))))) rX)
     (dQ (jZ (Uw (dY (dX AL JI (wn 2) (wx (xQ NX (OQ (K:=K) rfl) T.len_ PySem.boot_len (aQ (wn 3) bQ)))) (PJ (dX RV aW (wx (xQ yx gH T.abs_ boot_abs (aQ (wn 4) bQ))) (wx (w_bin Jx tj (wx gQ) (wx gQ))))))) (nQ (yQ (w_bin rJ eJ (wx (QQ C.law_mixed (hr.mono (by first|decide|omega)) (aQ (wn 4) (aQ (wn 2) bQ)))) (wn 1)))) rX)
     (nQ (Rx (nK hr) (wn 0) (wx xY) (xQ yx gH T.abs_ boot_abs (aQ (wn 4) bQ)))))))) rX)
     (dQ (vQ (i:=5) S.nd rfl (Or.inl rfl) (w_bin rJ eJ (wx (CW (nK hr) (wn 0) (wx xY))) (wn 1)))
     (dQ (Rx (nK hr) (wn 0) (wx xY) (w_bin QY HY (wx (CW (nK hr) (wn 0) (wx xY))) (wn 1)))
     (nQ (fY (wn 5))))))))) ?_ ?_
 ·rintro args Qd ⟨ns,k,l,m,rfl,_⟩;rfl
 ·rintro args Qd ⟨ns,k,l,m,rfl,hk,hl,m0,m1,q⟩
  refine ⟨qQ rfl,?_⟩
  have fin:∀(k1 l1:Int) (c:Option Sl),0<=k1->0<=l1->sW (xU 5 (SZ [Sum.inr (SZ [Sum.inl 0,Sum.inr (dC (.str "left"))] (o2 QV)),Sum.inl 1] (o2 (fI Gz λi j=>.int (i % j)))))
    (sW (EJ 0 (Sum.inr (dC (.str "left"))) (SZ [Sum.inr (SZ [Sum.inl 0,Sum.inr (dC (.str "left"))] (o2 QV)),Sum.inl 1] (o2 (fI sj λi j=>.int (i / j))))) (NV 5))
    (TZ [Sl.io (mX ns k l),Sl.fz (.int m)] Qd) [some (.io (mX ns k1 l1)),some (.fz (.int m)),some (.fz (.int k)),some (.fz (pK ns)),c,none]:=λk1 l1 c hk1 hl1 =>
   ⟨_,PF ns k1 l1,m0,_,PF ns k1 l1,⟨m0,by omega⟩,z3 ns k1 l1,Nk ns k1 l1,q _ _ _ _ (P8 _ (by omega)) (U7 _ m0) hk1 (Int.ediv_nonneg hl1 (by omega))⟩
  refine ⟨_,lO ns k l,?_⟩
  refine ⟨_,Lk ns k l,?_⟩
  refine ⟨_,PF ns k l,?_⟩
  refine TX (λh1=>?_) (λh1=>?_)
  ·refine ⟨z3 ns k l,nO ns k l,?_⟩
   have tail:∀c:Int,sW (Wv (XM (iF (SZ [Sum.inl 2,Sum.inr (SZ [Sum.inl 3] (o1 lL))] (o2 (dj λi j=>.bool (decide (j<=i)))))) (iF (SZ [Sum.inr (SZ [Sum.inl 4] (o1 DC)),Sum.inr (SZ [Sum.inr (dC (.int 10)),Sum.inr (dC (.int 18))] (o2 (fI lv λi j=>.int (i ^ j.toNat))))] (o2 (dj λi j=>.bool (decide (i < j)))))))
         (gx (SZ [Sum.inr (EH QU [Sum.inl 4,Sum.inl 2]),Sum.inl 1] (o2 (fI Gz λi j=>.int (i % j))))) vD) (EJ 0 (Sum.inr (dC (.str "left"))) (SZ [Sum.inl 4] (o1 DC)))
      { nx:=λρ'=>sW (xU 5 (SZ [Sum.inr (SZ [Sum.inl 0,Sum.inr (dC (.str "left"))] (o2 QV)),Sum.inl 1] (o2 (fI Gz λi j=>.int (i % j)))))
          (sW (EJ 0 (Sum.inr (dC (.str "left"))) (SZ [Sum.inr (SZ [Sum.inl 0,Sum.inr (dC (.str "left"))] (o2 QV)),Sum.inl 1] (o2 (fI sj λi j=>.int (i / j))))) (NV 5)) (TZ [Sl.io (mX ns k l),Sl.fz (.int m)] Qd) ρ',
        rt:=(TZ [Sl.io (mX ns k l),Sl.fz (.int m)] Qd).rt,bk:=(TZ [Sl.io (mX ns k l),Sl.fz (.int m)] Qd).bk,ct:=(TZ [Sl.io (mX ns k l),Sl.fz (.int m)] Qd).ct }
      [some (.io (mX ns (k+1) l)),some (.fz (.int m)),some (.fz (.int k)),some (.fz (pK ns)),some (.fz (.int c)),none]:=λc=>by
    have done:gx (SZ [Sum.inr (EH QU [Sum.inl 4,Sum.inl 2]),Sum.inl 1] (o2 (fI Gz λi j=>.int (i % j)))) (TZ [Sl.io (mX ns k l),Sl.fz (.int m)] Qd)
      [some (.io (mX ns (k+1) l)),some (.fz (.int m)),some (.fz (.int k)),some (.fz (pK ns)),some (.fz (.int c)),none] :=
     ⟨c,k,rfl,λr _ hr=>⟨m0,q _ _ _ _ (P8 _ (by omega)) (U7 _ m0) (by omega) hl⟩⟩
    refine ⟨ns,rfl,?_⟩
    refine TX (λh3=>?_) (λh3=>?_)
    ·exact done
    ·refine ⟨⟨by decide,by decide,by decide⟩,?_⟩
     refine TX (λh4=>?_) (λh4=>?_)
     ·exact done
     ·refine ⟨z3 ns (k+1) l,Nk ns (k+1) l,?_⟩
      exact fin (k+1) _ _ (by omega) (by split<;>omega)
   refine ⟨ns,rfl,?_⟩
   refine TX (λh2=>?_) (λh2=>?_)
   ·have hpos:(0:Int) < (ns.length:Int):=of_decide_eq_true h2
    have hb:=U7 k hpos
    have ha:=P8 k (show (ns.length:Int)≠0 by omega)
    obtain⟨j,hj⟩:=w6 ha
    have hjl:j < ns.length:=by omega
    refine ⟨ns,rfl,hpos,ns,ns[j],rfl,?_,?_⟩
    ·rw[hj];exact KY (L0 hjl)
    ·exact tail _
   ·exact tail 0
  ·exact fin k l none hk hl
structure CalsB(P:Program)(w:World)(K:q0)(mg:Str->Option Value)(base:Heap):Prop where
 law_take:Cal P w K mg base 2 "_law_take" ["_law_state","_law_most"] (eQ K eU)
noncomputable def RU:Con:=λargs Q=>∃(ns:List Int) (k l:Int),args=[.io (mX ns k l)]/\0<=k/\0<=l/\∀(r k' l':Int) (o:Ev),0<=k'->0<=l'->-(10 ^ 30) < r->r < 10 ^ 30->Q (.fz (.int r)) (some (.io (mX ns k' l')) :: o)
theorem Sk:FnScope ["_law_state","_law_way"] ["_law_state"] (fQ (top 36)):=⟨rfl,rfl,rfl,by decide +kernel,rfl,by decide +kernel,by decide +kernel⟩
theorem Rz{f:Addr}{fd:FuncData}(F:Fun K "_law_number" "_law_number" (top 36) f fd)(C:CalsB P w K mg base):FnOk P w K mg base fZ 3 f fd ["_law_state"] (eQ K RU):=by
 have S:=Sk
 refine YZ F S (λcdv A outer s H E hr=>(dQ (vQ (i:=1) S.nd rfl (Or.inl rfl) (iX C.law_take (hr.mono (by first|decide|omega)) (aQ (wn 0) (aQ (wx gQ) bQ))))
     (dQ (jZ (dX RV aW (wn 1) (wx gQ)) (nQ (yQ (w_bin FZ DZ (wx (iX C.law_take (hr.mono (by first|decide|omega)) (aQ (wn 0) (aQ (wx gQ) bQ)))) (wx gQ)))) rX)
     (dQ (jZ (dX RV aW (wn 1) (wx gQ)) (nQ (yQ gQ)) rX)
     (dQ (jZ (dX RV aW (wn 1) (wx gQ)) (nQ (yQ (w_bin FZ DZ (wx (iX C.law_take (hr.mono (by first|decide|omega)) (aQ (wn 0) (aQ (wx gQ) bQ)))) (wx gQ)))) rX)
     (nQ (yQ (w_bin XX xX (wx (w_bin FZ DZ (wx gQ) (wx (w_bin XX xX (wx gQ) (wx (iX C.law_take (hr.mono (by first|decide|omega)) (aQ (wn 0) (aQ (wx gQ) bQ)))))))) (wx (w_bin FZ DZ (wx (w_bin FZ DZ (wx (w_bin Jx tj (wx gQ) (wx gQ))) (wx gQ))) (wx (iX C.law_take (hr.mono (by first|decide|omega)) (aQ (wn 0) (aQ (wx gQ) bQ)))))))))))))) ?_ ?_
 ·rintro args Qd ⟨ns,k,l,rfl,_⟩;rfl
 ·rintro args Qd ⟨ns,k,l,rfl,hk,hl,q⟩
  refine ⟨qQ rfl,?_⟩
  refine ⟨ns,k,l,_,rfl,hk,hl,by decide,by decide,λway k1 l1 _ w0 w1 hk1 hl1=>?_⟩
  refine TX (λ_=>?_) (λ_=>?_)
  ·exact ⟨ns,k1,l1,_,rfl,hk1,hl1,by decide,by decide,λr k2 l2 _ r0 r1 hk2 hl2=>q _ _ _ _ hk2 hl2 (by omega) (by omega)⟩
  refine TX (λ_=>?_) (λ_=>?_)
  ·exact q _ _ _ _ hk1 hl1 (by decide) (by decide)
  refine TX (λ_=>?_) (λ_=>?_)
  ·exact ⟨ns,k1,l1,_,rfl,hk1,hl1,by decide,by decide,λr k2 l2 _ r0 r1 hk2 hl2=>q _ _ _ _ hk2 hl2 (by omega) (by omega)⟩
  ·refine ⟨ns,k1,l1,_,rfl,hk1,hl1,by decide,by decide,λr k2 l2 _ r0 r1 hk2 hl2=>?_⟩
   refine ⟨.inl ⟨by decide,by decide⟩,⟨by decide,by decide,by decide⟩,ns,k2,l2,_,rfl,hk2,hl2,by decide,by decide,λr' k3 l3 _ r0' r1' hk3 hl3=>?_⟩
   have e:r=0\/r=1:=by omega
   refine ⟨.inl ⟨by omega,by omega⟩,q _ _ _ _ hk3 hl3 ?_ ?_⟩
   ·rcases e with rfl|rfl
    ·show -(10 ^ 30:Int) < (1 - 2 * 0) * (10 ^ 30 - 1 - r');omega
    ·show -(10 ^ 30:Int) < (1 - 2 * 1) * (10 ^ 30 - 1 - r');omega
   ·rcases e with rfl|rfl
    ·show (1 - 2 * 0) * (10 ^ 30 - 1 - r') < (10 ^ 30:Int);omega
    ·show (1 - 2 * 1) * (10 ^ 30 - 1 - r') < (10 ^ 30:Int);omega
end
section
variable {P:Program}{w:World}{K:q0}{mg:Str->Option Value}{base:Heap}
structure CalsC(P:Program)(w:World)(K:q0)(mg:Str->Option Value)(base:Heap):Prop where
 law_take:Cal P w K mg base 2 "_law_take" ["_law_state","_law_most"] (eQ K eU)
 law_number:Cal P w K mg base 3 "_law_number" ["_law_state"] (eQ K RU)
noncomputable def sN(c:Int):Prop:=-(10 ^ 30) < c/\c < 10 ^ 30
noncomputable def Tk:Con:=λargs Q=>∃(ns:List Int) (k l:Int) (n:Nat),args=[.io (mX ns k l),.fz (.int n)]/\0<=k/\0<=l/\n<=1000 /\
 ∀(cs:List Int) (k' l':Int) (o:Ev),cs.length=n->(∀c∈cs,sN c)->0<=k'->0<=l'->Q (.ow (.list (cs.map n0))) (some (.io (mX ns k' l')) :: o)
theorem ju:FnScope ["_law_state","_law_many","_law_some"] ["_law_state","_law_many"] (fQ (top 37)):=⟨rfl,rfl,rfl,by decide +kernel,rfl,by decide +kernel,by decide +kernel⟩
theorem Uk{f:Addr}{fd:FuncData}(F:Fun K "_law_cells" "_law_cells" (top 37) f fd)(T:Txt mg)(C:CalsC P w K mg base):FnOk P w K mg base fZ 4 f fd ["_law_state","_law_many"] (eQ K Tk):=by
 have S:=ju
 refine YZ F S (λcdv A outer s H E hr=>(dQ (vQ (i:=2) S.nd rfl (Or.inr rfl) (zX (aQ (wx (iX C.law_number (hr.mono (by first|decide|omega)) (aQ (wn 0) bQ))) (aQ (wx (iX C.law_number (hr.mono (by first|decide|omega)) (aQ (wn 0) bQ))) bQ))))
     (dQ (jZ (dX SH (zW (K:=K) rfl hr.units) (wx (iX C.law_take (hr.mono (by first|decide|omega)) (aQ (wn 0) (aQ (wx gQ) bQ)))) (wx gQ)) (nQ (yQ (fX rfl (own:=["_law_k"]) (fr:=[2,0]) (by kernel_rfl) (eY T.range_ (aQ (wn 1) bQ)) (λ_ _ _ _=>(lQ (i:=0) (by decide +kernel:Q1 (["_law_k","_law_some","_law_state"]:List Str)) rfl (Or.inl rfl))) (λ_ _ _ _=>qV) (λ_ _ _ _=>(BX rfl (wn 1) (wx (iX C.law_take (hr.mono (by first|decide|omega)) (aQ (wn 2) (aQ (wx gQ) bQ))))))))) rX)
     (nQ (yQ (fX rfl (own:=["_law_k"]) (fr:=[0]) (by kernel_rfl) (eY T.range_ (aQ (wn 1) bQ)) (λ_ _ _ _=>(lQ (i:=0) (by decide +kernel:Q1 (["_law_k","_law_state"]:List Str)) rfl (Or.inl rfl))) (λ_ _ _ _=>qV) (λ_ _ _ _=>(iX C.law_number (hr.mono (by first|decide|omega)) (aQ (wn 1) bQ))))))))) ?_ ?_
 ·rintro args Qd ⟨ns,k,l,n,rfl,_⟩;rfl
 ·rintro args Qd ⟨ns,k,l,n,rfl,hk,hl,hn,q⟩
  refine ⟨qQ rfl,?_⟩
  refine ⟨ns,k,l,rfl,hk,hl,λa k1 l1 _ hk1 hl1 a0 a1=>?_⟩
  refine ⟨ns,k1,l1,rfl,hk1,hl1,λb k2 l2 _ hk2 hl2 b0 b1=>?_⟩
  refine ⟨ns,k2,l2,_,rfl,hk2,hl2,by decide,by decide,λr k3 l3 _ r0 r1 hk3 hl3=>?_⟩
  have hrl:(AQ 0 (n:Int).toNat).length<=sizeLine:=by rw[AQ,i0,B4];exact EQ (by omega)
  have hb:∀c∈[a,b],sN c:=λc hc=>by simp at hc;rcases hc with rfl|rfl;exact ⟨a0,a1⟩;exact ⟨b0,b1⟩
  refine TX (λ_=>?_) (λ_=>?_)
  ·refine ⟨by omega,by omega,hrl,HD (λrest acc τ=>∃(cs:List Int) (k4 l4:Int),τ=[none,some (.io (.list [.int a,.int b])),some (.io (mX ns k4 l4))]/\acc=cs.map n0/\cs.length+rest.length=n/\(∀c∈cs,sN c)/\0<=k4/\0<=l4) ?_ ?_
     ⟨[],k3,l3,rfl,rfl,by simp[AQ],λc hc=>by simp at hc,hk3,hl3⟩⟩
   ·rintro d ds acc τ ⟨cs,k4,l4,rfl,rfl,hlen,hB,hk4,hl4⟩ N hN
    refine ⟨ns,k4,l4,_,rfl,hk4,hl4,by decide,by decide,λj k5 l5 _ j0 j1 hk5 hl5=>?_⟩
    have hj:j=0\/j=1:=by omega
    rcases hj with rfl|rfl
    ·exact ⟨.int a,rfl,hN _ _ ⟨cs++[a],k5,l5,rfl,by simp[Sl.d],by simp at hlen ⊢;omega,λc hc=>by rcases O2.mp hc with z|z;exact hB c z;exact hb c (by simp at z ⊢;exact .inl z),hk5,hl5⟩⟩
    ·exact ⟨.int b,rfl,hN _ _ ⟨cs++[b],k5,l5,rfl,by simp[Sl.d],by simp at hlen ⊢;omega,λc hc=>by rcases O2.mp hc with z|z;exact hB c z;exact hb c (by simp at z ⊢;exact .inr z),hk5,hl5⟩⟩
   ·rintro acc τ ⟨cs,k4,l4,rfl,rfl,hlen,hB,hk4,hl4⟩
    exact q cs k4 l4 _ (by simpa using hlen) hB hk4 hl4
  ·refine ⟨by omega,by omega,hrl,HD (λrest acc τ=>∃(cs:List Int) (k4 l4:Int),τ=[none,some (.io (mX ns k4 l4))]/\acc=cs.map n0/\cs.length+rest.length=n/\(∀c∈cs,sN c)/\0<=k4/\0<=l4) ?_ ?_
     ⟨[],k3,l3,rfl,rfl,by simp[AQ],λc hc=>by simp at hc,hk3,hl3⟩⟩
   ·rintro d ds acc τ ⟨cs,k4,l4,rfl,rfl,hlen,hB,hk4,hl4⟩ N hN
    refine ⟨ns,k4,l4,rfl,hk4,hl4,λc k5 l5 _ hk5 hl5 c0 c1=>?_⟩
    exact hN _ _ ⟨cs++[c],k5,l5,rfl,by simp[Sl.d],by simp at hlen ⊢;omega,λc' hc=>by rcases O2.mp hc with z|z;exact hB c' z;rw[K2.mp z];exact ⟨c0,c1⟩,hk5,hl5⟩
   ·rintro acc τ ⟨cs,k4,l4,rfl,rfl,hlen,hB,hk4,hl4⟩
    exact q cs k4 l4 _ (by simpa using hlen) hB hk4 hl4
end
section
variable {P:Program}{w:World}{K:q0}{mg:Str->Option Value}{base:Heap}
theorem zJ(lo:Int)(n:Nat):AQ lo (n+1)=n0 lo :: AQ (lo+1) n:=by
 simp only[AQ,List.range_succ_eq_map,Z0,P0]
 refine congr (congrArg List.cons (by simp)) (G2 λa _=>?_)
 simp only[Function.comp_def,PyData.int.injEq,Int.natCast_succ]
 omega
noncomputable def prodI:List Int->Int
 | []=>1
 | a :: r=>a * prodI r
theorem HX:∀{l:List Int},(∀c∈l,1<=c)->1<=prodI l
 | [],_=>S6 _
 | a :: r,h=>by
  have h1:=h a A0
  have h2:=HX (l:=r) λc hc=>h c (u0 _ hc)
  show 1<=a * prodI r
  have:=Int.mul_le_mul h1 h2 (by decide) (by omega)
  omega
theorem prodI_append(l r:List Int):prodI (l++r)=prodI l * prodI r:=by
 induction l with
 | nil=>show prodI r=1 * prodI r;rw[W4]
 | cons a l ih=>show a * prodI (l++r)=a * prodI l * prodI r;rw[ih,v5]
structure Sd(sd:List Int):Prop where
 l1:1<=sd.length
 l3:sd.length<=3
 p:∀c∈sd,1<=c
 m:prodI sd<=120
structure S0(sd:List Int):Prop where
 l3:sd.length<=3
 p:∀c∈sd,1<=c
 m:prodI sd<=120
theorem Sd.s0{sd:List Int}(h:Sd sd):S0 sd:=⟨h.l3,h.p,h.m⟩
theorem jG{b:Int}(hb:1<=b):∀{l:List Int},(∀c∈l,1<=c/\c<=b)->prodI l<=b ^ l.length
 | [],_=>by show (1:Int)<=b ^ 0;rw[Int.pow_zero];decide
 | a :: r,h=>by
  have h1:=h a A0
  have h2:=jG hb (l:=r) λc hc=>h c (u0 _ hc)
  have h3:=HX (l:=r) λc hc=>(h c (u0 _ hc)).1
  show a * prodI r<=b ^ (r.length+1)
  rw[Int.pow_succ,B8 (b ^ r.length) b]
  exact Int.mul_le_mul h1.2 h2 (by omega) (by omega)
noncomputable abbrev kQ(p:List Int):PyData:=.tuple (p.map n0)
noncomputable def Vk:Con:=λargs Q=>∃(ns:List Int) (k l m:Int),args=[.io (mX ns k l),.fz (.int m)]/\0<=k/\0<=l/\1<=m/\m<=120 /\
 ∀(sd:List Int) (k' l':Int) (o:Ev),Sd sd->prodI sd<=120->0<=k'->0<=l'->Q (.fz (kQ sd)) (some (.io (mX ns k' l')) :: o)
theorem ku:FnScope ["_law_state","_law_most","_law_way","_law_found","_law_k","_law_side"] ["_law_state","_law_most"] (fQ (top 35)):=⟨rfl,rfl,rfl,by decide +kernel,rfl,by decide +kernel,by decide +kernel⟩
theorem Xk{f:Addr}{fd:FuncData}(F:Fun K "_law_sides" "_law_sides" (top 35) f fd)(T:Txt mg)(C:CalsB P w K mg base):FnOk P w K mg base fZ 3 f fd ["_law_state","_law_most"] (eQ K Vk):=by
 have S:=ku
 refine YZ F S (λcdv A outer s H E hr=>(dQ (vQ (i:=2) S.nd rfl (Or.inl rfl) (iX C.law_take (hr.mono (by first|decide|omega)) (aQ (wn 0) (aQ (wx gQ) bQ))))
     (dQ (jZ (dX RV aW (wx (iX C.law_take (hr.mono (by first|decide|omega)) (aQ (wn 0) (aQ (wx gQ) bQ)))) (wx gQ)) (nQ (yQ (ZX OX (ZQ (K:=K) rfl) T.tuple_ boot_tuple (aQ (wx (fX rfl (own:=["_law_one"]) (fr:=[0]) (by kernel_rfl) (nX rfl (BX rfl (wx (zX (aQ (wx (zX (aQ (wx gQ) bQ))) (aQ (wx (zX (aQ (wx gQ) (aQ (wx gQ) bQ)))) (aQ (wx (zX (aQ (wx gQ) (aQ (wx gQ) (aQ (wx gQ) bQ))))) bQ))))) (wn 2))) (λ_ _ _ _=>(lQ (i:=0) (by decide +kernel:Q1 (["_law_one","_law_state"]:List Str)) rfl (Or.inl rfl))) (λ_ _ _ _=>qV) (λ_ _ _ _=>(w_bin NQ CQ (wx gQ) (wx (iX C.law_take (hr.mono (by first|decide|omega)) (aQ (wn 1) (aQ (wn 0) bQ)))))))) bQ)))) rX)
     (dQ (vQ (i:=3) S.nd rfl (Or.inl rfl) (zX bQ))
     (dQ (RX [4,5] PassesOwn.never rfl (eY T.range_ (aQ (wx (w_bin NQ CQ (wn 2) (wx gQ))) bQ)) (lQ (i:=4) S.nd rfl (Or.inl rfl)) (dQ (vQ (i:=5) S.nd rfl (Or.inl rfl) (w_bin NQ CQ (wx gQ) (wx (iX C.law_take (hr.mono (by first|decide|omega)) (aQ (wn 0) (aQ (wx (xQ zx (Pq rfl) T.min_ boot_min (aQ (wn 1) (aQ (wx (BX rfl (wx (zX (aQ (wx gQ) (aQ (wx (wv 1)) bQ)))) (wx (iX C.law_take (hr.mono (by first|decide|omega)) (aQ (wn 0) (aQ (wx gQ) bQ)))))) bQ)))) bQ))))))
     (dQ (uJ (Ly xz rfl PySem.F.slot_list_insert PySem.F.type_list_insert lz (wn 3) (aQ (wx (iX C.law_take (hr.mono (by first|decide|omega)) (aQ (wn 0) (aQ (wx (w_bin NQ CQ (wn 4) (wx gQ))) bQ)))) (aQ (wx (wv 5)) bQ))))
     (nQ (vQ (i:=1) S.nd rfl (Or.inl rfl) (w_bin QY HY (wn 1) (wn 5)))))))
     (nQ (yQ (ZX OX (ZQ (K:=K) rfl) T.tuple_ boot_tuple (aQ (wn 3) bQ))))))))) ?_ ?_
 ·rintro args Qd ⟨ns,k,l,m,rfl,_⟩;rfl
 ·rintro args Qd ⟨ns,k,l,m,rfl,hk,hl,m1,m2,q⟩
  refine ⟨qQ rfl,?_⟩
  refine ⟨ns,k,l,_,rfl,hk,hl,by decide,by decide,λway k1 l1 _ w0 w1 hk1 hl1=>?_⟩
  refine ⟨ns,k1,l1,_,rfl,hk1,hl1,by decide,by decide,λr2 k2 l2 _ _ _ hk2 hl2=>?_⟩
  refine TX (λ_=>?_) (λ_=>?_)
  ·have pick:∃(n:Nat) (b:Int),AY [V4 [.int 12],V4 [.int 5,.int 5],V4 [.int 3,.int 3,.int 3]] way=some (.list (V1 n (.int b)))/\1<=n/\n<=3/\1<=b/\b<=12/\b ^ n<=27:=by
    have hw:way=0\/way=1\/way=2:=by omega
    rcases hw with rfl|rfl|rfl
    ·exact ⟨1,12,rfl,by decide,by decide,by decide,by decide,by decide⟩
    ·exact ⟨2,5,rfl,by decide,by decide,by decide,by decide,by decide⟩
    ·exact ⟨3,3,rfl,by decide,by decide,by decide,by decide,by decide⟩
   obtain⟨n,b,hat,n1,n3,b1,b12,hbn⟩:=pick
   refine ⟨_,hat,by rw[Q8];exact EQ (by omega),HD (λrest acc τ=>∃(cs:List Int) (k4 l4:Int),τ=[none,some (.io (mX ns k4 l4))]/\acc=cs.map n0/\(∃m',rest=V1 m' (.int b)/\cs.length+m'=n)/\(∀c∈cs,1<=c/\c<=b)/\0<=k4/\0<=l4) ?_ ?_
     ⟨[],k2,l2,rfl,rfl,⟨n,rfl,by simp⟩,λc hc=>by simp at hc,hk2,hl2⟩⟩
   ·rintro d ds acc τ ⟨cs,k4,l4,rfl,rfl,⟨m',em,hlen⟩,hB,hk4,hl4⟩ N hN
    cases m' with
    | zero=>cases em
    | succ m' =>
     rw[X3]at em
     cases em
     refine ⟨ns,k4,l4,_,rfl,hk4,hl4,by omega,by omega,λj k5 l5 _ j0 j1 hk5 hl5=>?_⟩
     exact hN _ _ ⟨cs++[1+j],k5,l5,rfl,by simp[Sl.d],⟨m',rfl,by simp;omega⟩,λc hc=>by rcases O2.mp hc with z|z;exact hB c z;rw[K2.mp z];omega,hk5,hl5⟩
   ·rintro acc τ ⟨cs,k4,l4,rfl,rfl,⟨m',em,hlen⟩,hB,hk4,hl4⟩
    cases m' with
    | succ m'=>cases em
    | zero =>
     have hp:=jG b1 hB
     rw[show cs.length=n by omega]at hp
     exact q cs k4 l4 _ ⟨by omega,by omega,λc hc=>(hB c hc).1,by omega⟩ (by omega) hk4 hl4
  ·refine ⟨by omega,by omega,PX (λrest ρ=>∃(mc:Int) (fs:List Int) (k4 l4:Int),ρ=[some (.io (mX ns k4 l4)),some (.fz (.int mc)),some (.fz (.int way)),some (.ow (.list (fs.map n0))),none,none] /\
       (∃n:Nat,rest=AQ fs.length n/\(fs.length:Int)+n=way+1)/\(∀c∈fs,1<=c)/\1<=mc/\prodI fs * mc<=m/\0<=k4/\0<=l4) ?_ ?_
     ⟨m,[],k2,l2,rfl,⟨(way+1).toNat,rfl,by simp;omega⟩,λc hc=>by simp at hc,by omega,by show 1 * m<=m;omega,hk2,hl2⟩⟩
   ·rintro d ds ρ ⟨mc,fs,k4,l4,rfl,⟨n,en,hlen⟩,hfp,hm1,hpm,hk4,hl4⟩ N hN
    cases n with
    | zero=>cases en
    | succ n =>
     have e2:AQ fs.length (n+1)=n0 fs.length :: AQ (fs.length+1) n:=by
      exact zJ _ _
     rw[e2]at en
     cases en
     have hp1:=HX hfp
     have hmc:mc<=m:=F9 (by have:=T4 hp1 (show (0:Int)<=mc by omega);omega) hpm
     refine ⟨ns,k4,l4,_,rfl,hk4,hl4,by decide,by decide,λr k5 l5 _ r0 r1 hk5 hl5=>?_⟩
     have pick:∃x:Int,AY [n0 12,n0 mc] r=some (.int x)/\1<=x:=by
      have:r=0\/r=1:=by omega
      rcases this with rfl|rfl
      ·exact ⟨12,rfl,by decide⟩
      ·exact ⟨mc,rfl,hm1⟩
     obtain⟨x,hx,hx1⟩:=pick
     refine ⟨_,hx,?_⟩
     refine ⟨ns,k5,l5,_,rfl,hk5,hl5,by split<;>omega,by split<;>omega,λr6 k6 l6 _ r60 r61 hk6 hl6=>?_⟩
     have hs1:1+r6<=mc:=by
      have:(if x < mc then x else mc)<=mc:=by split<;>omega
      omega
     refine ⟨ns,k6,l6,_,rfl,hk6,hl6,by omega,by omega,λr7 k7 l7 _ r70 r71 hk7 hl7=>?_⟩
     refine ⟨by rw[i0];exact N0 (show fs.length < 1000 by omega) (by decide),r70,by rw[i0];omega,⟨by omega,by omega⟩,?_⟩
     have ep:prodI (fs.take r7.toNat++(1+r6) :: fs.drop r7.toNat)=(1+r6) * prodI fs:=by
      rw[prodI_append]
      show prodI (fs.take r7.toNat) * ((1+r6) * prodI (fs.drop r7.toNat))=_
      rw[Int.mul_left_comm,<- prodI_append,Z3]
     have hl:(fs.take r7.toNat++(1+r6) :: fs.drop r7.toNat).length=fs.length+1:=by
      rw[M0,K1,S3,m6];omega
     refine hN _ ⟨mc / (1+r6),fs.take r7.toNat++(1+r6) :: fs.drop r7.toNat,k7,l7,?_,⟨n,by rw[hl];rfl,by rw[hl];omega⟩,?_,?_,?_,hk7,hl7⟩
     ·have e3:(fs.map n0).take r7.toNat++n0 (1+r6) :: (fs.map n0).drop r7.toNat=(fs.take r7.toNat++(1+r6) :: fs.drop r7.toNat).map n0:=by simp
      rw[<- e3];rfl
     ·intro c hc
      rcases O2.mp hc with z|z
      ·exact hfp c (X8 z)
      ·rcases B2.mp z with z|z
       ·omega
       ·exact hfp c (Y8 z)
     ·exact Int.le_ediv_of_mul_le (by omega) (by omega)
     ·rw[ep]
      have h1:(1+r6) * (mc / (1+r6))<=mc:=Int.mul_ediv_self_le (by omega)
      have h2:prodI fs * ((1+r6) * (mc / (1+r6)))<=prodI fs * mc:=W2 h1 (by omega)
      rw[B8 (1+r6) (prodI fs),v5]
      omega
   ·rintro ρ ⟨mc,fs,k4,l4,rfl,⟨n,en,hlen⟩,hfp,hm1,hpm,hk4,hl4⟩
    cases n with
    | succ n=>simp[AQ,i5]at en
    | zero =>
     have hp1:=HX hfp
     have:=W2 hm1 (show (0:Int)<=prodI fs by omega)
     exact q fs k4 l4 _ ⟨by omega,by omega,hfp,by omega⟩ (by omega) hk4 hl4
end
noncomputable def DQ{α:Type}(acc:List (List α)):List (List α)->List (List α)
 | []=>acc
 | c :: cs=>DQ (acc.flatMap λp=>c.map λx=>p++[x]) cs
noncomputable def vZ{α:Type}:List (List α)->Nat
 | []=>1
 | c :: cs=>c.length * vZ cs
theorem NW{α:Type}:∀{cs:List (List α)},(∀c∈cs,c≠[])->1<=vZ cs
 | [],_=>G0 _
 | c :: cs,h=>by
  have h1:1<=c.length:=List.length_pos_iff.mpr (h c A0)
  have h2:=NW (cs:=cs) λd hd=>h d (u0 _ hd)
  exact V8 h1 h2
theorem JK{α:Type}(c:List α):∀acc:List (List α),(acc.flatMap λp=>c.map λx=>p++[x]).length=acc.length * c.length
 | []=>by simp
 | p :: acc=>by rw[E2,M0,JK c acc,i0,K1,y9,A9]
theorem IX{α:Type}:∀(cs acc:List (List α)),(DQ acc cs).length=acc.length * vZ cs
 | [],acc=>by simp[DQ,vZ]
 | c :: cs,acc=>by rw[DQ,IX cs,JK,vZ,y7]
noncomputable def rng(s:Int):List Int:=(V0 s.toNat).map λ(n:Nat)=>(n:Int)
theorem OW(s:Int):AQ 0 s.toNat=(rng s).map n0:=by simp[AQ,rng,P0,Function.comp_def]
theorem GJ(s:Int):(rng s).length=s.toNat:=by simp[rng]
noncomputable def jX(sd:List Int):List (List Int):=DQ [[]] (sd.map rng)
theorem AJ:∀{sd:List Int},(∀c∈sd,1<=c)->(vZ (sd.map rng):Int)=prodI sd
 | [],_=>rfl
 | a :: r,h=>by
  have h1:=h a A0
  have h2:=AJ (sd:=r) λc hc=>h c (u0 _ hc)
  show ((((rng a).length * vZ (r.map rng):Nat)):Int)=a * prodI r
  rw[GJ,N8,h2]
  congr 1
  omega
section
variable {P:Program}{w:World}{K:q0}{mg:Str->Option Value}{base:Heap}
noncomputable def VY:Con:=λargs Q=>∃sd:List Int,(args=[.fz (kQ sd)]\/args=[.fz (.list (sd.map n0))])/\(∀c∈sd,1<=c)/\prodI sd<=1000/\sd.length<=3/\∀o,Q (.ow (.list ((jX sd).map kQ))) o
theorem Yk:FnScope ["_law_sides_here","_law_found","_law_side","_law_longer","_law_place"] ["_law_sides_here"] (fQ (top 38)):=⟨rfl,rfl,rfl,by decide +kernel,rfl,by decide +kernel,by decide +kernel⟩
theorem Sz{f:Addr}{fd:FuncData}(F:Fun K "_law_places" "_law_places" (top 38) f fd)(T:Txt mg):FnOk P w K mg base fZ 1 f fd ["_law_sides_here"] (eQ K VY):=by
 have S:=Yk
 refine YZ F S (λcdv A outer s H E hr=>(dQ (vQ (i:=1) S.nd rfl (Or.inl rfl) (zX (aQ (wx (EX bQ)) bQ)))
     (dQ (RX [2,3,4] PassesOwn.never rfl (nX rfl (wv 0)) (lQ (i:=2) S.nd rfl (Or.inl rfl)) (dQ (vQ (i:=3) S.nd rfl (Or.inl rfl) (zX bQ))
     (dQ (RX [4] PassesOwn.never rfl (nX rfl (wv 1)) (lQ (i:=4) S.nd rfl (Or.inr rfl)) (nQ (vQ (i:=3) S.nd rfl (Or.inl rfl) (w_bin NQ CQ (wn 3) (wx (fX rfl (own:=["_law_number_here"]) (fr:=[4]) (by kernel_rfl) (eY T.range_ (aQ (wn 2) bQ)) (λ_ _ _ _=>(lQ (i:=0) (by decide +kernel:Q1 (["_law_number_here","_law_place"]:List Str)) rfl (Or.inl rfl))) (λ_ _ _ _=>qV) (λ_ _ _ _=>(w_bin NQ CQ (wn 1) (wx (EX (aQ (wx (wv 0)) bQ)))))))))))
     (nQ (xF (i:=1) S.nd rfl (Or.inl rfl) (wn 3))))))
     (nQ (fY (wn 1)))))) ?_ ?_
 ·rintro args Qd ⟨sd,rfl|rfl,_⟩<;>rfl
 ·rintro args Qd ⟨sd,ha,hp,hm,h3,q⟩
  have main:∀(d0:PyData) (E:DE),E.nx [some (.fz d0),some (.ow (.list ((jX sd).map kQ))),none,none,none]->tJ [2,3,4] (sC 2)
    (sW (xU 3 (zU [] BD)) (sW (FD [4] (NH (wH 1)) (sC 4) (xU 3 (SZ [Sum.inl 3,Sum.inr (WJ (AU (Sum.inl 2)) ["_law_number_here"] [4] (sC 0) yH (SZ [Sum.inl 1,Sum.inr (zU [Sum.inr (wH 0)] KH)] (o2 zC)))] (o2 zC)))) (zH 1 3)))
    E (sd.map n0) [some (.fz d0),some (.ow (.list [.tuple []])),none,none,none]:=by
   intro d0 E hE
   refine PX (λrest ρ=>∃(acc:List (List Int)) (rs:List Int),ρ=[some (.fz d0),some (.ow (.list (acc.map kQ))),none,none,none]/\rest=rs.map n0/\(∀c∈rs,1<=c)/\DQ acc (rs.map rng)=jX sd/\(∀p∈acc,p.length+rs.length<=3)) ?_ ?_
    ⟨[[]],sd,rfl,rfl,hp,rfl,λp hp=>by simp at hp;subst hp;simpa using h3⟩
   ·rintro d ds ρ ⟨acc,rs,rfl,er,hr1,hacc,hl3⟩ N hN
    cases rs with
    | nil=>cases er
    | cons a rs =>
     cases er
     have ha1:=hr1 a A0
     have hr2:∀c∈rs,1<=c:=λc hc=>hr1 c (u0 _ hc)
     have hlp:=NW (cs:=rs.map rng) λc hc=>by
      obtain⟨x,hx,rfl⟩:=K0.mp hc
      intro z
      have:=congrArg U4 z
      rw[GJ]at this
      have:=hr2 x hx
      simp at *
      omega
     have htot:(acc.flatMap λp=>(rng a).map λx=>p++[x]).length<=1000:=by
      have h1:=IX (rs.map rng) (acc.flatMap λp=>(rng a).map λx=>p++[x])
      have h2:(DQ (acc.flatMap λp=>(rng a).map λx=>p++[x]) (rs.map rng))=jX sd:=hacc
      rw[h2]at h1
      have h3:=IX (sd.map rng) [[]]
      have h4:=AJ hp
      unfold jX at h1
      have:(acc.flatMap λp=>(rng a).map λx=>p++[x]).length<=(acc.flatMap λp=>(rng a).map λx=>p++[x]).length * vZ (rs.map rng):=A8 _ hlp
      simp only[E1,Q6]at h3
      omega
     refine PX (λrest ρ=>∃(lg rp:List (List Int)),ρ=[some (.fz d0),some (.fz (.list (acc.map kQ))),some (.fz (.int a)),some (.ow (.list (lg.map kQ))),none]/\rest=rp.map kQ/\(lg++rp.flatMap λp=>(rng a).map λx=>p++[x])=(acc.flatMap λp=>(rng a).map λx=>p++[x])/\(∀p∈rp,p∈acc)) ?_ ?_
      ⟨[],acc,rfl,rfl,rfl,λp hp=>hp⟩
     ·rintro d ds ρ ⟨lg,rp,rfl,er,he,hin⟩ M hM
      cases rp with
      | nil=>cases er
      | cons p rp =>
       cases er
       have hpl:=hl3 p (hin p A0)
       have hl5:lg.length+(rng a).length<=1000:=by
        have:=congrArg U4 he
        rw[M0,E2,M0,i0]at this
        omega
       have hra:a.toNat<=1000:=by rw[GJ]at hl5;omega
       refine ⟨by omega,by omega,by rw[AQ,i0,B4];exact EQ hra,bJ (λd=>.tuple (p.map n0++[d])) ?_ ?_⟩
       ·rintro d hd R hR
        exact ⟨by simp only[i0,E1];simp at hpl;exact EQ (by omega),hR⟩
       ·refine ⟨by rw[i0,i0,AQ,i0,B4];rw[GJ]at hl5;exact EQ (by omega),?_⟩
        refine hM _ ⟨lg++(rng a).map λx=>p++[x],rp,?_,rfl,by rw[Q2,<- he,E2],λp' hp'=>hin p' (u0 _ hp')⟩
        have e1:(lg.map kQ)++((AQ 0 a.toNat).map λd=>Z1 (p.map n0++[d]))=(lg++(rng a).map λx=>p++[x]).map kQ:=by
         rw[OW,T2,P0,P0]
         congr 1
         refine G2 λx _=>?_
         simp[kQ]
        rw[<- e1];rfl
     ·rintro ρ ⟨lg,rp,rfl,er,he,hin⟩
      cases rp with
      | cons p rp=>cases er
      | nil =>
       rw[v7,P2]at he
       refine hN _ ⟨acc.flatMap λp=>(rng a).map λx=>p++[x],rs,?_,rfl,hr2,hacc,λp hp=>?_⟩
       ·rw[he];rfl
       ·obtain⟨p',hp',hx⟩:=K3.mp hp
        obtain⟨x,_,rfl⟩:=K0.mp hx
        have:=hl3 p' hp'
        simp at this ⊢
        omega
   ·rintro ρ ⟨acc,rs,rfl,er,hr1,hacc,hl3⟩
    cases rs with
    | cons a rs=>cases er
    | nil =>
     have hacc:acc=jX sd:=hacc
     rw[hacc]
     exact hE
  rcases ha with rfl|rfl
  ·exact ⟨qQ rfl,main (kQ sd) _ (q _)⟩
  ·exact ⟨qQ rfl,main (.list (sd.map n0)) _ (q _)⟩
end
theorem kY{α β:Type}(f:α->β):∀(cs acc:List (List α)),(DQ acc cs).map (A4 f)=DQ (acc.map (A4 f)) (cs.map (A4 f))
 | [],acc=>rfl
 | c :: cs,acc=>by
  show (DQ (acc.flatMap λp=>c.map λx=>p++[x]) cs).map (A4 f)=DQ ((acc.map (A4 f)).flatMap λp=>(c.map f).map λx=>p++[x]) (cs.map (A4 f))
  rw[kY f cs]
  congr 1
  rw[w8,u7]
  congr 1
  funext p
  simp[P0,Function.comp_def]
section
variable {P:Program}{w:World}{K:q0}{mg:Str->Option Value}{base:Heap}
noncomputable def Zk:Con:=λargs Q=>∃cs:List (List PyData),args=[.fz (.list (cs.map V4))]/\(∀c∈cs,c≠[])/\vZ cs<=1000/\cs.length<=1000/\∀o,Q (.ow (.list ((DQ [[]] cs).map Z1))) o
theorem QE:FnScope ["choices","chosen","things","longer","ahead","thing"] ["choices"] (fQ (top 3)):=⟨rfl,rfl,rfl,by decide +kernel,rfl,by decide +kernel,by decide +kernel⟩
theorem lu{f:Addr}{fd:FuncData}(F:Fun K "one_of_each" "one_of_each" (top 3) f fd):FnOk P w K mg base fZ 1 f fd ["choices"] (eQ K Zk):=by
 have S:=QE
 refine YZ F S (λcdv A outer s H E hr=>(dQ (vQ (i:=1) S.nd rfl (Or.inl rfl) (zX (aQ (wx (EX bQ)) bQ)))
     (dQ (RX [2,3,4] PassesOwn.never rfl (nX rfl (wv 0)) (lQ (i:=2) S.nd rfl (Or.inl rfl)) (dQ (vQ (i:=3) S.nd rfl (Or.inl rfl) (zX bQ))
     (dQ (RX [4,5] PassesOwn.never rfl (nX rfl (wv 1)) (lQ (i:=4) S.nd rfl (Or.inl rfl)) (nQ (RX [5] PassesOwn.never rfl (nX rfl (wv 2)) (lQ (i:=5) S.nd rfl (Or.inl rfl)) (nQ (uJ (Ly pZ rfl PySem.F.slot_list_append PySem.F.type_list_append SX (wn 3) (aQ (wx (w_bin NQ CQ (wn 4) (wx (EX (aQ (wx (wv 5)) bQ))))) bQ)))))))
     (nQ (xF (i:=1) S.nd rfl (Or.inl rfl) (wn 3))))))
     (nQ (fY (wn 1)))))) ?_ ?_
 ·rintro args Qd ⟨cs,rfl,_⟩;rfl
 ·rintro args Qd ⟨cs,rfl,hne,hlen,hcl,q⟩
  refine ⟨qQ rfl,?_⟩
  refine PX (λrest ρ=>∃(acc rs:List (List PyData)),ρ=[some (.fz (.list (cs.map V4))),some (.ow (.list (acc.map Z1))),none,none,none,none]/\rest=rs.map V4/\(∀c∈rs,c≠[])/\acc.length * vZ rs=vZ cs/\DQ acc rs=DQ [[]] cs/\(∀p∈acc,p.length+rs.length<=1000)) ?_ ?_
   ⟨[[]],cs,rfl,rfl,hne,by simp,rfl,λp hp=>by simp at hp;subst hp;simpa using hcl⟩
  ·rintro d ds ρ ⟨acc,rs,rfl,er,hne',hln,hacc,hpl⟩ N hN
   cases rs with
   | nil=>cases er
   | cons c rs =>
    cases er
    have hr2:∀c∈rs,c≠[]:=λc hc=>hne' c (u0 _ hc)
    have hlp:=NW hr2
    have htot:(acc.flatMap λp=>c.map λx=>p++[x]).length<=1000:=by
     rw[JK]
     have h1:acc.length * (c.length * vZ rs)=vZ cs:=hln
     rw[<- y7]at h1
     have:acc.length * c.length<=acc.length * c.length * vZ rs:=A8 _ hlp
     omega
    refine PX (λrest ρ=>∃(lg rp:List (List PyData)),ρ=[some (.fz (.list (cs.map V4))),some (.fz (.list (acc.map Z1))),some (.fz (.list c)),some (.ow (.list (lg.map Z1))),none,none]/\rest=rp.map Z1/\(lg++rp.flatMap λp=>c.map λx=>p++[x])=(acc.flatMap λp=>c.map λx=>p++[x])/\(∀p∈rp,p∈acc)) ?_ ?_
     ⟨[],acc,rfl,rfl,rfl,λp hp=>hp⟩
    ·rintro d ds ρ ⟨lg,rp,rfl,er,he,hin⟩ M hM
     cases rp with
     | nil=>cases er
     | cons p rp =>
      cases er
      have hp1:=hpl p (hin p A0)
      have hl5:lg.length+c.length<=1000:=by
       have:=congrArg U4 he
       rw[M0,E2,M0,i0]at this
       omega
      refine PX (λrest ρ=>∃(pre:List PyData),c=pre++rest/\ρ=[some (.fz (.list (cs.map V4))),some (.fz (.list (acc.map Z1))),some (.fz (.list c)),some (.ow (.list ((lg++pre.map λx=>p++[x]).map Z1))),some (.fz (.tuple p)),none]) ?_ ?_
       ⟨[],rfl,by simp;rfl⟩
      ·rintro x ds' ρ ⟨pre,hc,rfl⟩ L hL
       refine ⟨by simp at hp1 ⊢;exact EQ (by omega),by rw[i0,M0,i0];have:=congrArg U4 hc;simp at this;exact N0 (show _ < 1000 by omega) (by decide),?_⟩
       refine hL _ ⟨pre++[x],by rw[hc];simp,?_⟩
       have e1:((lg++pre.map λx=>p++[x]).map Z1)++[Z1 (p++[x])]=((lg++(pre++[x]).map λx=>p++[x]).map Z1):=by simp
       rw[<- e1];rfl
      ·rintro ρ ⟨pre,hc,rfl⟩
       rw[P2]at hc
       subst hc
       exact hM _ ⟨lg++c.map λx=>p++[x],rp,rfl,rfl,by rw[Q2,<- he,E2],λp' hp'=>hin p' (u0 _ hp')⟩
    ·rintro ρ ⟨lg,rp,rfl,er,he,hin⟩
     cases rp with
     | cons p rp=>cases er
     | nil =>
      rw[v7,P2]at he
      refine hN _ ⟨acc.flatMap λp=>c.map λx=>p++[x],rs,by rw[he];rfl,rfl,hr2,?_,hacc,λp hp=>?_⟩
      ·rw[JK,y7];exact hln
      ·obtain⟨p',hp',hx⟩:=K3.mp hp
       obtain⟨x,_,rfl⟩:=K0.mp hx
       have:=hpl p' hp'
       simp at this ⊢
       omega
  ·rintro ρ ⟨acc,rs,rfl,er,hne',hln,hacc,hpl⟩
   cases rs with
   | cons a rs=>cases er
   | nil =>
    have hacc:acc=DQ [[]] cs:=hacc
    rw[hacc]
    exact q _
end
theorem pX(a b:List Int):VJ (a.map n0) (b.map n0)=(a.zip b).map λp=>Z1 [.int p.1,.int p.2]:=by
 rw[VJ,E8,P0];rfl
noncomputable def mZ(a b:Int):List Int:=(V0 (b+1 - a).toNat).map λ(n:Nat)=>a+(n:Int)
theorem kG(a b:Int):AQ a (b+1 - a).toNat=(mZ a b).map n0:=by simp[AQ,mZ,P0,Function.comp_def]
theorem lY(s:Int):mZ 0 (s - 1)=rng s:=by
 unfold mZ rng
 rw[show s - 1+1 - 0=s by omega]
 simp
noncomputable def CG(low high:List Int):List (List Int):=DQ [[]] ((low.zip high).map λp=>mZ p.1 p.2)
section
variable {P:Program}{w:World}{K:q0}{mg:Str->Option Value}{base:Heap}
structure CalsE(P:Program)(w:World)(K:q0)(mg:Str->Option Value)(base:Heap):Prop where
 one_of_each:Cal P w K mg base 1 "one_of_each" ["choices"] (eQ K Zk)
noncomputable def RE:Con:=λargs Q=>∃low high:List Int,args=[.fz (kQ low),.fz (kQ high)]/\low.length=high.length/\low.length<=3/\(∀p∈low.zip high,0<=p.1/\p.1<=p.2/\p.2<=1000)/\vZ ((low.zip high).map λp=>mZ p.1 p.2)<=1000/\∀o,Q (.ow (.list ((CG low high).map kQ))) o
theorem oM:FnScope ["low","high"] ["low","high"] (fQ (top 4)):=⟨rfl,rfl,rfl,by decide +kernel,rfl,by decide +kernel,by decide +kernel⟩
theorem SE{f:Addr}{fd:FuncData}(F:Fun K "places_between" "places_between" (top 4) f fd)(T:Txt mg)(C:CalsE P w K mg base):FnOk P w K mg base fZ 2 f fd ["low","high"] (eQ K RE):=by
 have S:=oM
 refine YZ F S (λcdv A outer s H E hr=>(nQ (yQ (QQ C.one_of_each (hr.mono (by first|decide|omega)) (aQ (wx (fX rfl (own:=["first","last"]) (fr:=[]) (by kernel_rfl) (XJ rfl T.zip_ (aQ (wn 0) (aQ (wn 1) bQ))) (λ_ _ _ _=>(BZ rfl rfl (uQ (lQ (i:=0) (by decide +kernel:Q1 (["first","last"]:List Str)) rfl (Or.inl rfl)) (uQ (lQ (i:=1) (by decide +kernel:Q1 (["first","last"]:List Str)) rfl (Or.inl rfl)) DX)))) (λ_ _ _ _=>qV) (λ_ _ _ _=>(TN rfl T.list_ T.range_ (aQ (wn 0) (aQ (wx (w_bin NQ CQ (wn 1) (wx gQ))) bQ)))))) bQ))))) ?_ ?_
 ·rintro args Qd ⟨low,high,rfl,_⟩;rfl
 ·rintro args Qd ⟨low,high,rfl,hl,h3,hb,hlen,q⟩
  refine ⟨qQ rfl,?_⟩
  have hz:(VJ (low.map n0) (high.map n0)).length<=sizeLine:=by rw[pX,i0,L4];exact EQ (by omega)
  refine ⟨hz,bJ (λd=>match d with | .tuple [.int a,.int b]=>.list (AQ a (b+1 - a).toNat)|_=>.none) ?_ ?_⟩
  ·intro d hd N hN
   rw[pX]at hd
   obtain⟨⟨a,b⟩,hp,rfl⟩:=K0.mp hd
   have hab:=hb _ hp
   simp only at hab
   exact ⟨rfl,⟨by omega,by omega,by omega,by omega⟩,by omega,hN⟩
  ·have e1:(VJ (low.map n0) (high.map n0)).map (λd=>match d with | .tuple [.int a,.int b]=>V4 (AQ a (b+1 - a).toNat)|_=>.none)=(((low.zip high).map λp=>mZ p.1 p.2).map (A4 n0)).map V4:=by
    rw[pX,P0,P0,P0]
    refine G2 λp _=>?_
    simp[kG]
   rw[e1]
   have hl2:vZ (((low.zip high).map λp=>mZ p.1 p.2).map (A4 n0))=vZ ((low.zip high).map λp=>mZ p.1 p.2):=by
    generalize (low.zip high).map (λp=>mZ p.1 p.2)=cs
    induction cs with
    | nil=>rfl
    | cons c cs ih=>simp[vZ,ih]
   refine ⟨((low.zip high).map λp=>mZ p.1 p.2).map (A4 n0),rfl,?_,by rw[hl2];exact hlen,by simp;omega,λo=>?_⟩
   ·intro c hc
    obtain⟨c',hc',rfl⟩:=K0.mp hc
    obtain⟨p,hp,rfl⟩:=K0.mp hc'
    have:=hb p hp
    intro z
    have:=congrArg U4 z
    simp[mZ]at this
    omega
   ·have e2:(DQ [[]] (((low.zip high).map λp=>mZ p.1 p.2).map (A4 n0))).map Z1=(CG low high).map kQ:=by
     have:=kY n0 ((low.zip high).map λp=>mZ p.1 p.2) [[]]
     simp only[Z0,q5]at this
     rw[<- this,P0];rfl
    rw[e2]
    exact q _
noncomputable def aw:Con:=λargs Q=>∃sd:List Int,args=[.fz (kQ sd)]/\sd.length<=1000/\∀o,Q (.fz (kQ (sd.map λ_=>0))) o
theorem nu:FnScope ["sides"] ["sides"] (fQ (top 9)):=⟨rfl,rfl,rfl,by decide +kernel,rfl,by decide +kernel,by decide +kernel⟩
theorem bw{f:Addr}{fd:FuncData}(F:Fun K "first_place" "first_place" (top 9) f fd)(T:Txt mg):FnOk P w K mg base fZ 1 f fd ["sides"] (eQ K aw):=by
 have S:=nu
 refine YZ F S (λcdv A outer s H E hr=>(nQ (yQ (ZX OX (ZQ (K:=K) rfl) T.tuple_ boot_tuple (aQ (wx (fX rfl (own:=["side"]) (fr:=[]) (by kernel_rfl) (nX rfl (wv 0)) (λ_ _ _ _=>(lQ (i:=0) (by decide +kernel:Q1 (["side"]:List Str)) rfl (Or.inl rfl))) (λ_ _ _ _=>qV) (λ_ _ _ _=>gQ))) bQ))))) ?_ ?_
 ·rintro args Qd ⟨sd,rfl,_⟩;rfl
 ·rintro args Qd ⟨sd,rfl,hl,q⟩
  refine ⟨qQ rfl,?_⟩
  refine ⟨by rw[i0];exact EQ hl,bJ (λ_=>.int 0) (λd hd N hN=>hN) ?_⟩
  have e:(sd.map n0).map (λ_=>n0 0)=(sd.map λ_=>0).map n0:=by simp[P0,Function.comp_def]
  rw[e]
  exact q _
noncomputable def cw:Con:=λargs Q=>∃sd:List Int,args=[.fz (kQ sd)]/\sd.length<=1000/\∀o,Q (.fz (kQ (sd.map λs=>s - 1))) o
theorem UE:FnScope ["sides"] ["sides"] (fQ (top 10)):=⟨rfl,rfl,rfl,by decide +kernel,rfl,by decide +kernel,by decide +kernel⟩
theorem ou{f:Addr}{fd:FuncData}(F:Fun K "last_place" "last_place" (top 10) f fd)(T:Txt mg):FnOk P w K mg base fZ 1 f fd ["sides"] (eQ K cw):=by
 have S:=UE
 refine YZ F S (λcdv A outer s H E hr=>(nQ (yQ (ZX OX (ZQ (K:=K) rfl) T.tuple_ boot_tuple (aQ (wx (fX rfl (own:=["side"]) (fr:=[]) (by kernel_rfl) (nX rfl (wv 0)) (λ_ _ _ _=>(lQ (i:=0) (by decide +kernel:Q1 (["side"]:List Str)) rfl (Or.inl rfl))) (λ_ _ _ _=>qV) (λ_ _ _ _=>(w_bin FZ DZ (wn 0) (wx gQ))))) bQ))))) ?_ ?_
 ·rintro args Qd ⟨sd,rfl,_⟩;rfl
 ·rintro args Qd ⟨sd,rfl,hl,q⟩
  refine ⟨qQ rfl,?_⟩
  refine ⟨by rw[i0];exact EQ hl,bJ (λd=>match d with | .int i=>.int (i - 1)|_=>.none) (λd hd N hN=>?_) ?_⟩
  ·obtain⟨i,_,rfl⟩:=K0.mp hd
   exact hN
  ·refine Eq.mpr (congrArg (λz=>Qd (.fz (.tuple z)) _) ?_) (q _)
   simp[P0,Function.comp_def]
structure CalsF(P:Program)(w:World)(K:q0)(mg:Str->Option Value)(base:Heap):Prop where
 places_between:Cal P w K mg base 2 "places_between" ["low","high"] (eQ K RE)
 first_place:Cal P w K mg base 1 "first_place" ["sides"] (eQ K aw)
 last_place:Cal P w K mg base 1 "last_place" ["sides"] (eQ K cw)
theorem QW:∀sd:List Int,((sd.map λ_=>(0:Int)).zip (sd.map λs=>s - 1))=sd.map λs=>(0,s - 1)
 | []=>rfl
 | a :: r=>by simp[QW r]
theorem dZ:∀{sd:List Int},(∀c∈sd,1<=c)->∀c∈sd,c<=prodI sd
 | a :: r,h,c,hc=>by
  have h1:=h a A0
  have hr:∀c∈r,1<=c:=λc hc=>h c (u0 _ hc)
  have h2:=HX hr
  show c<=a * prodI r
  rcases B2.mp hc with rfl|hc
  ·have:=W2 h2 (show (0:Int)<=c by omega);omega
  ·have h3:=dZ hr c hc
   have:=T4 h1 (show (0:Int)<=prodI r by omega);omega
noncomputable def RW:Con:=λargs Q=>∃sd:List Int,args=[.fz (kQ sd)]/\S0 sd/\∀o,Q (.ow (.list ((jX sd).map kQ))) o
theorem lG:FnScope ["sides"] ["sides"] (fQ (top 11)):=⟨rfl,rfl,rfl,by decide +kernel,rfl,by decide +kernel,by decide +kernel⟩
theorem SU{f:Addr}{fd:FuncData}(F:Fun K "all_places" "all_places" (top 11) f fd)(C:CalsF P w K mg base):FnOk P w K mg base fZ 3 f fd ["sides"] (eQ K RW):=by
 have S:=lG
 refine YZ F S (λcdv A outer s H E hr=>(nQ (yQ (QQ C.places_between (hr.mono (by first|decide|omega)) (aQ (wx (QQ C.first_place (hr.mono (by first|decide|omega)) (aQ (wn 0) bQ))) (aQ (wx (QQ C.last_place (hr.mono (by first|decide|omega)) (aQ (wn 0) bQ))) bQ)))))) ?_ ?_
 ·rintro args Qd ⟨sd,rfl,_⟩;rfl
 ·rintro args Qd ⟨sd,rfl,hsd,q⟩
  have h3:=hsd.l3
  refine ⟨qQ rfl,?_⟩
  refine ⟨sd,rfl,by omega,λo1=>?_⟩
  refine ⟨sd,rfl,by omega,λo2=>?_⟩
  have e:((sd.map λ_=>(0:Int)).zip (sd.map λs=>s - 1)).map (λp=>mZ p.1 p.2)=sd.map rng:=by
   rw[QW,P0]
   exact G2 λs _=>lY s
  refine ⟨sd.map λ_=>0,sd.map λs=>s - 1,rfl,by simp,by simpa using h3,λp hp=>?_,?_,λo3=>?_⟩
  ·rw[QW]at hp
   obtain⟨s,hs,rfl⟩:=K0.mp hp
   have h1:=hsd.p s hs
   have h2:=dZ hsd.p s hs
   have:=hsd.m
   exact ⟨by show (0:Int)<=0;decide,by show (0:Int)<=s - 1;omega,by show s - 1<=1000;omega⟩
  ·rw[e]
   have h1:=AJ hsd.p
   have:=hsd.m
   omega
  ·unfold CG
   rw[e]
   exact q _
end
section
variable {P:Program}{w:World}{K:q0}{mg:Str->Option Value}{base:Heap}
noncomputable def XD(sd pl:List Int):Int:=(sd.zip pl).foldl (λi p=>i * p.1+p.2) 0
noncomputable def dw:Con:=λargs Q=>∃sd pl:List Int,args=[.fz (kQ sd),.fz (kQ pl)]/\sd.length<=1000/\(∀s∈sd,0<=s/\s < 2 ^ 64)/\∀o,Q (.fz (.int (XD sd pl))) o
theorem qu:FnScope ["sides","place","index","side","number"] ["sides","place"] (fQ (top 5)):=⟨rfl,rfl,rfl,by decide +kernel,rfl,by decide +kernel,by decide +kernel⟩
theorem fw{f:Addr}{fd:FuncData}(F:Fun K "index_of" "index_of" (top 5) f fd)(T:Txt mg):FnOk P w K mg base fZ 1 f fd ["sides","place"] (eQ K dw):=by
 have S:=qu
 refine YZ F S (λcdv A outer s H E hr=>(dQ (vQ (i:=2) S.nd rfl (Or.inl rfl) gQ)
     (dQ (RX [3,4] PassesOwn.never rfl (XJ rfl T.zip_ (aQ (wn 0) (aQ (wn 1) bQ))) (BZ rfl rfl (uQ (lQ (i:=3) S.nd rfl (Or.inl rfl)) (uQ (lQ (i:=4) S.nd rfl (Or.inl rfl)) DX))) (nQ (vQ (i:=2) S.nd rfl (Or.inl rfl) (w_bin NQ CQ (wx (w_bin XX xX (wn 2) (wn 3))) (wn 4)))))
     (nQ (fY (wn 2)))))) ?_ ?_
 ·rintro args Qd ⟨sd,pl,rfl,_⟩;rfl
 ·rintro args Qd ⟨sd,pl,rfl,hl,hs,q⟩
  refine ⟨qQ rfl,?_⟩
  refine PX (λrest ρ=>∃(i:Int) (rs:List (Int×Int)),ρ=[some (.fz (kQ sd)),some (.fz (kQ pl)),some (.fz (.int i)),none,none]/\rest=rs.map (λp=>Z1 [.int p.1,.int p.2])/\(∀p∈rs,p∈sd.zip pl)/\rs.foldl (λi p=>i * p.1+p.2) i=XD sd pl) ?_ ?_
   ⟨0,sd.zip pl,rfl,pX _ _,λ_ h=>h,rfl⟩
  ·rintro d ds ρ ⟨i,rs,rfl,er,hin,hf⟩ N hN
   cases rs with
   | nil=>cases er
   | cons p rs =>
    cases er
    have hp:=hs p.1 (K4 (hin p A0)).1
    exact ⟨rfl,.inr ⟨by omega,by omega⟩,hN _ ⟨i * p.1+p.2,rs,rfl,rfl,λx hx=>hin x (u0 _ hx),hf⟩⟩
  ·rintro ρ ⟨i,rs,rfl,er,hin,hf⟩
   cases rs with
   | nil =>
    have hf:i=XD sd pl:=hf
    subst hf
    exact q _
   | cons _ _=>cases er
noncomputable abbrev vV(p:Int×Int):PyData:=.tuple [.int p.1,.int p.2]
noncomputable def ZZ(a b:Int):List (Int×Int):=if a=0 then [(b,1)] else [(a - 1,-1),(b,1)]
noncomputable def YD:Con:=λargs Q=>∃a b:Int,args=[.fz (.int a),.fz (.int b)]/\∀o,Q (.ow (.list ((ZZ a b).map vV))) o
theorem gw:FnScope ["first","last"] ["first","last"] (fQ (top 17)):=⟨rfl,rfl,rfl,by decide +kernel,rfl,by decide +kernel,by decide +kernel⟩
theorem Tz{f:Addr}{fd:FuncData}(F:Fun K "corner_numbers" "corner_numbers" (top 17) f fd)(T:Txt mg):FnOk P w K mg base fZ 1 f fd ["first","last"] (eQ K YD):=by
 have S:=gw
 refine YZ F S (λcdv A outer s H E hr=>(dQ (jZ (dX SH (zW (K:=K) rfl hr.units) (wn 0) (wx gQ)) (nQ (yQ (zX (aQ (wx (EX (aQ (wx (wv 1)) (aQ (wx gQ) bQ)))) bQ)))) rX)
     (nQ (yQ (zX (aQ (wx (EX (aQ (wx (w_bin FZ DZ (wn 0) (wx gQ))) (aQ (wx (BW (wx gQ))) bQ)))) (aQ (wx (EX (aQ (wx (wv 1)) (aQ (wx gQ) bQ)))) bQ))))))) ?_ ?_
 ·rintro args Qd ⟨a,b,rfl,_⟩;rfl
 ·rintro args Qd ⟨a,b,rfl,q⟩
  refine ⟨qQ rfl,?_⟩
  refine TX (λh=>?_) (λh=>?_)
  ·have h0:a=0:=by simpa using h
   have:=q
   simp only[ZZ,if_pos h0]at this
   exact this _
  ·have h0:a≠0:=by simpa using h
   have:=q
   simp only[ZZ,if_neg h0]at this
   exact this _
end
section
variable {P:Program}{w:World}{K:q0}{mg:Str->Option Value}{base:Heap}
noncomputable def mY(cs:List (Int×Int)):Int:=cs.foldl (λs p=>s * p.2) 1
noncomputable abbrev eB(cs:List (Int×Int)):PyData:=.tuple [.int (mY cs),kQ (cs.map (·.1))]
noncomputable def pM:PyData->PyData
 | .tuple [x,_]=>x
 | _=>.none
noncomputable def ZD:Con:=λargs Q=>∃cs:List (Int×Int),args=[.fz (.tuple (cs.map vV))]/\cs.length<=1000/\(∀p∈cs,-1<=p.2/\p.2<=1)/\∀o,Q (.fz (eB cs)) o
theorem iw:FnScope ["chosen","sign","pair"] ["chosen"] (fQ (top 18)):=⟨rfl,rfl,rfl,by decide +kernel,rfl,by decide +kernel,by decide +kernel⟩
theorem Uz{f:Addr}{fd:FuncData}(F:Fun K "signed_place" "signed_place" (top 18) f fd)(T:Txt mg):FnOk P w K mg base fZ 1 f fd ["chosen"] (eQ K ZD):=by
 have S:=iw
 refine YZ F S (λcdv A outer s H E hr=>(dQ (vQ (i:=1) S.nd rfl (Or.inl rfl) gQ)
     (dQ (RX [2] PassesOwn.never rfl (nX rfl (wv 0)) (lQ (i:=2) S.nd rfl (Or.inl rfl)) (nQ (vQ (i:=1) S.nd rfl (Or.inl rfl) (w_bin XX xX (wn 1) (wx (BX rfl (wn 2) (wx gQ)))))))
     (nQ (yQ (EX (aQ (wx (wv 1)) (aQ (wx (ZX OX (ZQ (K:=K) rfl) T.tuple_ boot_tuple (aQ (wx (fX rfl (own:=["pair"]) (fr:=[]) (by kernel_rfl) (nX rfl (wv 0)) (λ_ _ _ _=>(lQ (i:=0) (by decide +kernel:Q1 (["pair"]:List Str)) rfl (Or.inl rfl))) (λ_ _ _ _=>qV) (λ_ _ _ _=>(BX rfl (wn 0) (wx gQ))))) bQ))) bQ)))))))) ?_ ?_
 ·rintro args Qd ⟨cs,rfl,_⟩;rfl
 ·rintro args Qd ⟨cs,rfl,hl,hs,q⟩
  refine ⟨qQ rfl,?_⟩
  refine PX (λrest ρ=>∃(i:Int) (rs:List (Int×Int)),ρ=[some (.fz (.tuple (cs.map vV))),some (.fz (.int i)),none]/\rest=rs.map vV/\(∀p∈rs,p∈cs)/\rs.foldl (λs p=>s * p.2) i=mY cs) ?_ ?_
   ⟨1,cs,rfl,rfl,λ_ h=>h,rfl⟩
  ·rintro d ds ρ ⟨i,rs,rfl,er,hin,hf⟩ N hN
   cases rs with
   | nil=>cases er
   | cons p rs =>
    cases er
    have hp:=hs p (hin p A0)
    exact ⟨.int p.2,rfl,.inr ⟨by omega,by omega⟩,hN _ ⟨i * p.2,rs,rfl,rfl,λx hx=>hin x (u0 _ hx),hf⟩⟩
  ·rintro ρ ⟨i,rs,rfl,er,hin,hf⟩
   cases rs with
   | nil =>
    have hf:i=mY cs:=hf
    subst hf
    refine ⟨by rw[i0];exact EQ hl,bJ pM ?_ ?_⟩
    ·intro d hd N hN
     obtain⟨p,hp,rfl⟩:=K0.mp hd
     exact ⟨.int p.1,rfl,hN⟩
    ·have e:(cs.map vV).map pM=(cs.map (·.1)).map n0:=by rw[P0,P0];rfl
     rw[e]
     exact q _
   | cons _ _=>cases er
end
section
variable {P:Program}{w:World}{K:q0}{mg:Str->Option Value}{base:Heap}
structure CalsR(P:Program)(w:World)(K:q0)(mg:Str->Option Value)(base:Heap):Prop where
 one_of_each:Cal P w K mg base 1 "one_of_each" ["choices"] (eQ K Zk)
 corner_numbers:Cal P w K mg base 1 "corner_numbers" ["first","last"] (eQ K YD)
 signed_place:Cal P w K mg base 1 "signed_place" ["chosen"] (eQ K ZD)
noncomputable def Vz(lo hi:List Int):List (List (Int×Int)):=DQ [[]] ((lo.zip hi).map λp=>ZZ p.1 p.2)
theorem aq(a b:Int):∀p∈ZZ a b,-1<=p.2/\p.2<=1:=by
 unfold ZZ
 split<;>intro p hp<;>simp at hp
 ·subst hp;simp
 ·rcases hp with rfl|rfl<;>simp
theorem VE(a b:Int):ZZ a b≠[]:=by unfold ZZ;split<;>simp
theorem bq(a b:Int):(ZZ a b).length<=2:=by unfold ZZ;split<;>simp
noncomputable def mG:Con:=λargs Q=>∃sd lo hi:List Int,args=[.fz (kQ sd),.fz (.tuple [kQ lo,kQ hi])]/\lo.length=hi.length/\lo.length<=3/\∀o,Q (.ow (.list ((Vz lo hi).map eB))) o
theorem TU{α:Type}:∀{cs acc:List (List α)}{P:α->Prop},(∀c∈cs,∀x∈c,P x)->(∀p∈acc,∀x∈p,P x)->∀p∈DQ acc cs,∀x∈p,P x
 | [],acc,P,_,ha=>ha
 | c :: cs,acc,P,hc,ha=>by
  refine TU (cs:=cs) (λc' h=>hc c' (u0 _ h)) ?_
  intro p hp x hx
  obtain⟨q,hq,hp⟩:=K3.mp hp
  obtain⟨y,hy,rfl⟩:=K0.mp hp
  rcases O2.mp hx with h|h
  ·exact ha q hq x h
  ·rw[K2.mp h];exact hc c A0 y hy
theorem nG{α:Type}:∀{cs acc:List (List α)}{n:Nat},(∀p∈acc,p.length=n)->∀p∈DQ acc cs,p.length=n+cs.length
 | [],acc,n,ha=>λp hp=>by simpa using ha p hp
 | c :: cs,acc,n,ha=>λp hp=>by
  have:=nG (cs:=cs) (acc:=acc.flatMap λp=>c.map λx=>p++[x]) (n:=n+1) (λp hp=>by
    obtain⟨q,hq,hp⟩:=K3.mp hp
    obtain⟨y,hy,rfl⟩:=K0.mp hp
    simp[ha q hq]) p hp
  simp only[K1]
  omega
noncomputable def qM:PyData->PyData
 | .tuple [.int a,.int b]=>.list ((ZZ a b).map vV)
 | _=>.none
noncomputable def eP:PyData->Int×Int
 | .tuple [.int a,.int b]=>(a,b)
 | _=>(0,0)
theorem cq(cs:List (Int×Int)):(cs.map vV).map eP=cs:=by
 rw[P0]
 exact M9 cs
noncomputable def wI:PyData->PyData
 | .tuple ds=>eB (ds.map eP)
 | _=>.none
theorem SW{α:Type}:∀{cs:List (List α)},(∀c∈cs,c.length<=2)->vZ cs<=2 ^ cs.length
 | [],_=>by simp[vZ]
 | c :: cs,h=>by
  have h1:=h c A0
  have h2:=SW (cs:=cs) λc' hc=>h c' (u0 _ hc)
  simp only[vZ,K1,Nat.pow_succ]
  calc c.length * vZ cs<=2 * 2 ^ cs.length:=V8 h1 h2
   _=2 ^ cs.length * 2:=S5 _ _
theorem Wz:FnScope ["sides","box","choices"] ["sides","box"] (fQ (top 16)):=⟨rfl,rfl,rfl,by decide +kernel,rfl,by decide +kernel,by decide +kernel⟩
theorem QF{f:Addr}{fd:FuncData}(F:Fun K "corners" "corners" (top 16) f fd)(T:Txt mg)(C:CalsR P w K mg base):FnOk P w K mg base fZ 2 f fd ["sides","box"] (eQ K mG):=by
 have S:=Wz
 refine YZ F S (λcdv A outer s H E hr=>(dQ (yF (i:=2) S.nd rfl rfl rfl (own:=["first","last"]) (fr:=[]) (by kernel_rfl) (XJ rfl T.zip_ (aQ (wx (BX rfl (wn 1) (wx gQ))) (aQ (wx (BX rfl (wn 1) (wx gQ))) bQ))) (λ_ _ _ _=>(BZ rfl rfl (uQ (lQ (i:=0) (by decide +kernel:Q1 (["first","last"]:List Str)) rfl (Or.inl rfl)) (uQ (lQ (i:=1) (by decide +kernel:Q1 (["first","last"]:List Str)) rfl (Or.inl rfl)) DX)))) (λ_ _ _ _=>qV) (λ_ _ _ _=>(QQ C.corner_numbers (hr.mono (by first|decide|omega)) (aQ (wn 0) (aQ (wn 1) bQ)))))
     (nQ (yQ (fX rfl (own:=["chosen"]) (fr:=[]) (by kernel_rfl) (nX rfl (QQ C.one_of_each (hr.mono (by first|decide|omega)) (aQ (wx (wv 2)) bQ))) (λ_ _ _ _=>(lQ (i:=0) (by decide +kernel:Q1 (["chosen"]:List Str)) rfl (Or.inl rfl))) (λ_ _ _ _=>qV) (λ_ _ _ _=>(QQ C.signed_place (hr.mono (by first|decide|omega)) (aQ (wn 0) bQ)))))))) ?_ ?_
 ·rintro args Qd ⟨sd,lo,hi,rfl,_⟩;rfl
 ·rintro args Qd ⟨sd,lo,hi,rfl,hl,h3,q⟩
  refine ⟨qQ rfl,?_⟩
  have hz:(VJ (lo.map n0) (hi.map n0)).length<=sizeLine:=by rw[pX,i0,L4];exact EQ (by omega)
  refine ⟨kQ lo,rfl,kQ hi,rfl,hz,bJ qM ?_ ?_⟩
  ·intro d hd N hN
   rw[pX]at hd
   obtain⟨⟨a,b⟩,hp,rfl⟩:=K0.mp hd
   exact ⟨rfl,a,b,rfl,λo=>hN⟩
  ·have e1:(VJ (lo.map n0) (hi.map n0)).map qM=(((lo.zip hi).map λp=>ZZ p.1 p.2).map (A4 vV)).map V4:=by
    rw[pX,P0,P0,P0]
    rfl
   rw[e1]
   have hin:∀c∈((lo.zip hi).map λp=>ZZ p.1 p.2).map (A4 vV),∃p:Int×Int,c=(ZZ p.1 p.2).map vV:=λc hc=>by
    obtain⟨c',hc',rfl⟩:=K0.mp hc
    obtain⟨p,_,rfl⟩:=K0.mp hc'
    exact ⟨p,rfl⟩
   have hlen:vZ (((lo.zip hi).map λp=>ZZ p.1 p.2).map (A4 vV))<=1000:=by
    have h1:=SW (cs:=((lo.zip hi).map λp=>ZZ p.1 p.2).map (A4 vV)) λc hc=>by
     obtain⟨p,rfl⟩:=hin c hc
     rw[i0];exact bq _ _
    have h2:(((lo.zip hi).map λp=>ZZ p.1 p.2).map (A4 vV)).length<=3:=by simp;omega
    have h3:=b9 (n:=2) (by decide) h2
    omega
   refine ⟨((lo.zip hi).map λp=>ZZ p.1 p.2).map (A4 vV),rfl,?_,hlen,by simp;omega,λo=>?_⟩
   ·intro c hc z
    obtain⟨p,rfl⟩:=hin c hc
    exact VE _ _ (List.map_eq_nil_iff.mp z)
   have e2:DQ [[]] (((lo.zip hi).map λp=>ZZ p.1 p.2).map (A4 vV))=(Vz lo hi).map (A4 vV):=by
    have:=kY vV ((lo.zip hi).map λp=>ZZ p.1 p.2) [[]]
    simp only[Z0,q5]at this
    exact this.symm
   have hcl:(Vz lo hi).length<=1000:=by
    have h1:=IX (((lo.zip hi).map λp=>ZZ p.1 p.2).map (A4 vV)) [[]]
    rw[e2,i0]at h1
    simp only[E1,Q6]at h1
    omega
   rw[e2]
   refine ⟨by rw[i0,i0];exact EQ hcl,bJ wI ?_ ?_⟩
   ·intro d hd N hN
    obtain⟨d',hd',rfl⟩:=K0.mp hd
    obtain⟨cs,hcs,rfl⟩:=K0.mp hd'
    have h1:∀p∈cs,-1<=p.2/\p.2<=1:=TU (P:=λp:Int×Int=>-1<=p.2/\p.2<=1) (λc hc x hx=>by
      obtain⟨p,_,rfl⟩:=K0.mp hc
      exact aq _ _ x hx) (λp hp x hx=>by simp at hp;subst hp;simp at hx) cs hcs
    have h2:cs.length<=1000:=by
     have:=nG (n:=0) (λp hp=>by simp at hp;subst hp;rfl) cs hcs
     simp at this
     omega
    have h3:wI (.tuple (cs.map vV))=eB cs:=by rw[wI,cq]
    rw[h3]at hN
    exact ⟨cs,rfl,h2,h1,λo=>hN⟩
   ·have e3:(((Vz lo hi).map (A4 vV)).map Z1).map wI=(Vz lo hi).map eB:=by
     rw[P0,P0]
     refine G2 λcs _=>?_
     show wI (.tuple (cs.map vV))=eB cs
     rw[wI,cq]
    rw[e3]
    exact q _
end
section
variable {P:Program}{w:World}{K:q0}{mg:Str->Option Value}{base:Heap}
structure CalsS(P:Program)(w:World)(K:q0)(mg:Str->Option Value)(base:Heap):Prop where
 index_of:Cal P w K mg base 1 "index_of" ["sides","place"] (eQ K dw)
 corners:Cal P w K mg base 2 "corners" ["sides","box"] (eQ K mG)
noncomputable def tu(cl:List Int)(i:Int):Int:=(AY cl i).getD 0
noncomputable def unI:PyData->Int
 | .int i=>i
 | _=>0
theorem nZ(ns:List Int):(ns.map n0).map unI=ns:=by
 rw[P0];exact M9 ns
noncomputable def oO(sd cl:List Int):PyData->PyData
 | .tuple [.int s,.tuple ds]=>.int (s * tu cl (XD sd (ds.map unI)))
 | _=>.none
noncomputable def pO(sd cl lo hi:List Int):Int:=((Vz lo hi).map λcs=>mY cs * tu cl (XD sd (cs.map (·.1)))).sum
theorem jw(sd cl:List Int)(cs:List (Int×Int)):oO sd cl (eB cs)=.int (mY cs * tu cl (XD sd (cs.map (·.1)))):=by
 show n0 (mY cs * tu cl (XD sd (((cs.map (·.1)).map n0).map unI)))=_
 rw[nZ]
theorem rM{cs:List (Int×Int)}(h:∀p∈cs,-1<=p.2/\p.2<=1):-1<=mY cs/\mY cs<=1:=by
 have gen:∀(l:List (Int×Int)) (s:Int),(∀p∈l,-1<=p.2/\p.2<=1)->-1<=s/\s<=1->-1<=l.foldl (λs p=>s * p.2) s/\l.foldl (λs p=>s * p.2) s<=1:=by
  intro l
  induction l with
  | nil=>intro s _ hs;exact hs
  | cons p l ih =>
   intro s hl hs
   refine ih _ (λq hq=>hl q (u0 _ hq)) ?_
   have hp:=hl p A0
   have:p.2=-1\/p.2=0\/p.2=1:=by omega
   show -1<=s * p.2/\s * p.2<=1
   rcases this with e|e|e<;>rw[e]<;>omega
 exact gen cs 1 h (by decide)
theorem uu{lo hi:List Int}{cs:List (Int×Int)}(h:cs∈Vz lo hi):∀p∈cs,-1<=p.2/\p.2<=1 :=
 TU (P:=λp:Int×Int=>-1<=p.2/\p.2<=1) (λc hc x hx=>by
   obtain⟨p,_,rfl⟩:=K0.mp hc
   exact aq _ _ x hx) (λp hp x hx=>by simp at hp;subst hp;simp at hx) cs h
theorem wu(lo hi:List Int)(hl:lo.length=hi.length)(h3:lo.length<=3):(Vz lo hi).length<=1000:=by
 have h1:=IX ((lo.zip hi).map λp=>ZZ p.1 p.2) [[]]
 have h2:=SW (cs:=(lo.zip hi).map λp=>ZZ p.1 p.2) λc hc=>by
  obtain⟨p,_,rfl⟩:=K0.mp hc
  exact bq _ _
 have h4:((lo.zip hi).map λp=>ZZ p.1 p.2).length<=3:=by simp;omega
 have h5:=b9 (n:=2) (by decide) h4
 simp only[E1,Q6]at h1
 unfold Vz
 omega
noncomputable def fP(cl:List Int)(d:PyData):Prop:=d=kQ cl\/d=.list (cl.map n0)
noncomputable def XE:Con:=λargs Q=>∃(sd cl lo hi:List Int) (d:PyData),args=[.fz (kQ sd),.fz d,.fz (.tuple [kQ lo,kQ hi])]/\fP cl d/\lo.length=hi.length/\lo.length<=3/\sd.length<=1000/\(∀s∈sd,0<=s/\s < 2 ^ 64) /\
 (∀cs∈Vz lo hi,(AY cl (XD sd (cs.map (·.1)))).isSome=true)/\∀o,Q (.fz (.int (pO sd cl lo hi))) o
theorem sM:FnScope ["sides","table","box"] ["sides","table","box"] (fQ (top 19)):=⟨rfl,rfl,rfl,by decide +kernel,rfl,by decide +kernel,by decide +kernel⟩
theorem YE{f:Addr}{fd:FuncData}(F:Fun K "sum_by_running" "sum_by_running" (top 19) f fd)(T:Txt mg)(C:CalsS P w K mg base):FnOk P w K mg base fZ 3 f fd ["sides","table","box"] (eQ K XE):=by
 have S:=sM
 refine YZ F S (λcdv A outer s H E hr=>(nQ (yQ (xQ Kx (SV (K:=K) rfl rfl) T.sum_ boot_sum (aQ (wx (fX rfl (own:=["sign","place"]) (fr:=[1,0]) (by kernel_rfl) (nX rfl (QQ C.corners (hr.mono (by first|decide|omega)) (aQ (wn 0) (aQ (wn 2) bQ)))) (λ_ _ _ _=>(BZ rfl rfl (uQ (lQ (i:=0) (by decide +kernel:Q1 (["sign","place","table","sides"]:List Str)) rfl (Or.inl rfl)) (uQ (lQ (i:=1) (by decide +kernel:Q1 (["sign","place","table","sides"]:List Str)) rfl (Or.inl rfl)) DX)))) (λ_ _ _ _=>qV) (λ_ _ _ _=>(w_bin XX xX (wn 0) (wx (BX rfl (wn 2) (wx (QQ C.index_of (hr.mono (by first|decide|omega)) (aQ (wn 3) (aQ (wn 1) bQ)))))))))) bQ))))) ?_ ?_
 ·rintro args Qd ⟨sd,cl,lo,hi,d,rfl,_⟩;rfl
 ·rintro args Qd ⟨sd,cl,lo,hi,d,rfl,hdd,hl,h3,hsd,hs,hix,q⟩
  refine ⟨qQ rfl,?_⟩
  refine ⟨sd,lo,hi,rfl,hl,h3,λo=>⟨by rw[i0];exact EQ (wu lo hi hl h3),bJ (oO sd cl) ?_ ?_⟩⟩
  ·intro d hd N hN
   obtain⟨cs,hcs,rfl⟩:=K0.mp hd
   obtain⟨v,hv⟩:=m8.mp (hix cs hcs)
   have hb:=rM (uu hcs)
   rw[jw,show tu cl (XD sd (cs.map (·.1)))=v by rw[tu,hv];rfl]at hN
   rcases hdd with rfl|rfl
   all_goals exact ⟨rfl,sd,cs.map (·.1),rfl,hsd,hs,λo=>⟨.int v,zD n0 hv,.inl ⟨by omega,by omega⟩,hN⟩⟩
  ·have e3:((Vz lo hi).map eB).map (oO sd cl)=((Vz lo hi).map λcs=>mY cs * tu cl (XD sd (cs.map (·.1)))).map n0:=by
    rw[P0,P0]
    exact G2 λcs _=>jw sd cl cs
   rw[e3]
   exact ⟨_,rfl,q _⟩
end
noncomputable def ZE{α:Type}:List α->List (List α)->Prop
 | [],[]=>True
 | x :: xs,c :: cs=>x∈c/\ZE xs cs
 | _,_=>False
theorem oG{α:Type}:∀{cs acc:List (List α)}{p:List α},p∈DQ acc cs->∃a∈acc,∃q,p=a++q/\ZE q cs
 | [],acc,p,h=>⟨p,h,[],by simp,trivial⟩
 | c :: cs,acc,p,h=>by
  obtain⟨a',ha',q,rfl,hq⟩:=oG (cs:=cs) h
  obtain⟨a,ha,hb⟩:=K3.mp ha'
  obtain⟨x,hx,rfl⟩:=K0.mp hb
  exact ⟨a,ha,x :: q,by simp,hx,hq⟩
theorem nY{α:Type}{cs:List (List α)}{p:List α}(h:p∈DQ [[]] cs):ZE p cs:=by
 obtain⟨a,ha,q,rfl,hq⟩:=oG h
 simp at ha
 subst ha
 exact hq
theorem dq{x s:Int}(h:x∈rng s):0<=x/\x < s:=by
 unfold rng at h
 obtain⟨n,hn,rfl⟩:=K0.mp h
 have:=B3.mp hn
 omega
noncomputable def Wi:List Int->List Int->Prop
 | [],[]=>True
 | x :: xs,s :: ss=>(0<=x/\x < s)/\Wi xs ss
 | _,_=>False
theorem gK{sd p:List Int}(hm:p∈jX sd):Wi p sd:=by
 have h:=nY hm
 clear hm
 induction sd generalizing p with
 | nil=>cases p with
  | nil=>trivial
  | cons _ _=>exact h.elim
 | cons s ss ih=>cases p with
  | nil=>exact h.elim
  | cons x xs=>exact ⟨dq h.1,ih h.2⟩
theorem fB:∀{sd pl:List Int}{i m:Int},Wi pl sd->0<=i->i < m->0<=(sd.zip pl).foldl (λi p=>i * p.1+p.2) i/\(sd.zip pl).foldl (λi p=>i * p.1+p.2) i < m * prodI sd
 | [],[],i,m,_,h0,h1=>by simp[prodI];omega
 | [],_ :: _,_,_,h,_,_=>h.elim
 | _ :: _,[],_,_,h,_,_=>h.elim
 | s :: ss,x :: xs,i,m,h,h0,h1=>by
  have hx:=h.1
  have hs:0<=s:=by omega
  have e1:0<=i * s:=Int.mul_nonneg h0 hs
  have e2:i * s<=(m - 1) * s:=T4 (by omega) hs
  rw[Int.sub_mul,W4]at e2
  have:=fB (sd:=ss) (pl:=xs) (i:=i * s+x) (m:=m * s) h.2 (by omega) (by omega)
  rw[v5]at this
  exact this
theorem fq{cl:List Int}{i:Int}(h0:0<=i)(h1:i < cl.length):(AY cl i).isSome=true:=by
 have:i.toNat < cl.length:=by omega
 unfold AY QG
 simp[h0,h1,this]
theorem HJ{sd:List Int}(hp:∀c∈sd,1<=c):((jX sd).length:Int)=prodI sd:=by
 rw[jX,IX,<- AJ hp]
 simp
theorem TW:∀{p sd:List Int},Wi p sd->p.length=sd.length
 | [],[],_=>rfl
 | [],_ :: _,h=>h.elim
 | _ :: _,[],h=>h.elim
 | _ :: _,_ :: _,h=>by simp[TW h.2]
noncomputable def W{α:Type}:List (List α)->(List α->Int)->Int
 | [],g=>g []
 | c :: cs,g=>(c.map λx=>W cs λq=>g (x :: q)).sum
theorem pG{α β:Type}(f:β->Int)(h:α->List β):∀l:List α,((l.flatMap h).map f).sum=(l.map λa=>((h a).map f).sum).sum
 | []=>rfl
 | a :: l=>by simp[pG f h l]
theorem qG{α:Type}:∀(cs acc:List (List α)) (g:List α->Int),((DQ acc cs).map g).sum=(acc.map λa=>W cs λq=>g (a++q)).sum
 | [],acc,g=>by simp[DQ,W]
 | c :: cs,acc,g=>by
  rw[DQ,qG cs,pG]
  congr 1
  refine G2 λa _=>?_
  rw[P0,W]
  congr 1
  refine G2 λx _=>?_
  show (W cs λq=>g ((a++[x])++q))=W cs λq=>g (a++x :: q)
  congr 1
  funext q
  simp
theorem Xz{α:Type}(cs:List (List α))(g:List α->Int):((DQ [[]] cs).map g).sum=W cs g:=by
 rw[qG];simp
theorem kw{α:Type}(e:Int):∀(cs:List (List α)) (g:List α->Int),(W cs λq=>e * g q)=e * W cs g
 | [],g=>rfl
 | c :: cs,g=>by
  have hs:∀(l:List α) (f:α->Int),(l.map λx=>e * f x).sum=e * (l.map f).sum:=by
   intro l f
   induction l with
   | nil=>simp
   | cons a l ih=>simp[ih,Int.mul_add]
  simp only[W]
  rw[<- hs]
  congr 1
  exact G2 λx _=>kw e cs λq=>g (x :: q)
theorem UW:∀(l:List (Int×Int)) (s:Int),l.foldl (λs p=>s * p.2) s=s * mY l
 | [],s=>by simp[mY]
 | p :: l,s=>by
  have h1:=UW l (s * p.2)
  have h2:=UW l (1 * p.2)
  unfold mY at *
  simp only[Q3]
  rw[h1,h2,W4,v5]
theorem lw(p:Int×Int)(l:List (Int×Int)):mY (p :: l)=p.2 * mY l:=by
 have:=UW l (1 * p.2)
 rw[W4]at this
 unfold mY
 simp only[Q3,W4]
 exact this
noncomputable def qO(l:List Int):Int:=1 - 2 * (l.sum % 2)
theorem xI(l:List Int):qO (0 :: l)=qO l:=by simp[qO]
theorem RF{α:Type}:∀(cs:List (List α)),(W cs λ_=>(0:Int))=0
 | []=>rfl
 | c :: cs=>by
  simp only[W,RF cs]
  induction c with
  | nil=>rfl
  | cons a c ih=>simpa using ih
theorem gB{α:Type}:∀(cs:List (List α)) (f g:List α->Int),(W cs λq=>f q+g q)=W cs f+W cs g
 | [],f,g=>rfl
 | c :: cs,f,g=>by
  simp only[W,gB cs]
  induction c with
  | nil=>rfl
  | cons a c ih=>simp only[Z0,Y5,ih];omega
theorem aI{s:Int}{j:Nat}{x:Int}(h:(rng s)[j]?=some x):x=j/\(j:Int) < s:=by
 unfold rng at h
 rw[X0,J3]at h
 obtain⟨n,hn,rfl⟩:=h
 rw[W0]at hn
 obtain⟨h1,h2⟩:=hn
 simp at h1 h2
 omega
theorem gq{s:Int}(hs:1<=s):∀{acc:List (List Int)}{j':Nat}{a':List Int},(acc.flatMap λp=>(rng s).map λx=>p++[x])[j']?=some a' ->
  ∃(j:Nat) (a:List Int) (x:Int),acc[j]?=some a/\a'=a++[x]/\(0<=x/\x < s)/\(j':Int)=j * s+x
 | [],j',a',h=>by simp at h
 | a :: acc,j',a',h=>by
  rw[E2]at h
  rcases E9 j' ((rng s).map λx=>a++[x]).length with g|g
  ·rw[X1 g,X0,J3]at h
   obtain⟨x,hx,rfl⟩:=h
   obtain⟨rfl,h2⟩:=aI hx
   exact ⟨0,a,_,rfl,rfl,⟨by omega,h2⟩,by simp⟩
  ·rw[O1 g]at h
   obtain⟨j,b,x,h1,h2,h3,h4⟩:=gq hs h
   rw[i0,GJ]at g h4
   refine ⟨j+1,b,x,h1,h2,h3,?_⟩
   rw[show ((j+1:Nat):Int)=(j:Int)+1 by omega,Int.add_mul,W4]
   omega
theorem iq:∀{sd:List Int}{acc:List (List Int)}{k:Nat}{p:List Int},(∀c∈sd,1<=c)->(DQ acc (sd.map rng))[k]?=some p ->
  ∃(j:Nat) (a q:List Int),acc[j]?=some a/\p=a++q/\Wi q sd/\(sd.zip q).foldl (λi p=>i * p.1+p.2) (j:Int)=k
 | [],acc,k,p,_,h=>⟨k,p,[],h,by simp,trivial,rfl⟩
 | s :: ss,acc,k,p,hp,h=>by
  obtain⟨j',a',q',h1,h2,h3,h4⟩:=iq (sd:=ss) (λc hc=>hp c (u0 _ hc)) h
  obtain⟨j,a,x,g1,g2,g3,g4⟩:=gq (hp s A0) h1
  refine ⟨j,a,x :: q',g1,by rw[h2,g2];simp,⟨g3,h3⟩,?_⟩
  rw[g4]at h4
  exact h4
theorem bI{sd:List Int}(hp:∀c∈sd,1<=c){k:Nat}{p:List Int}(h:(jX sd)[k]?=some p):Wi p sd/\XD sd p=k:=by
 obtain⟨j,a,q,h1,h2,h3,h4⟩:=iq hp h
 have hj:j=0:=by
  rcases j with _|j
  ·rfl
  ·simp at h1
 subst hj
 simp at h1
 subst h1
 simp at h2
 subst h2
 exact ⟨h3,h4⟩
theorem jq{α:Type}:∀(cs:List (List α)) {f g:List α->Int},(∀q,ZE q cs->f q=g q)->W cs f=W cs g
 | [],f,g,h=>h [] trivial
 | c :: cs,f,g,h=>by
  show (c.map λx=>W cs λq=>f (x :: q)).sum=(c.map λx=>W cs λq=>g (x :: q)).sum
  congr 1
  exact G2 λx hx=>jq cs λq hq=>h (x :: q) ⟨hx,hq⟩
theorem mw{sd p:List Int}(h:Wi p sd):0<=XD sd p/\XD sd p < prodI sd:=by
 have:=fB h (S6 0) (by decide:(0:Int) < 1)
 rw[W4]at this
 exact this
theorem KK:∀l:List Int,RM.prodI l=prodI l
 | []=>rfl
 | a :: r=>by show a * RM.prodI r=a * prodI r;rw[KK r]
theorem prodN_I{l:List Int}(h:∀c∈l,1<=c):prodI l=(RM.prodN l:Int):=by rw[<- KK];exact RM.prodN_I h
noncomputable def LP(sd cl:List Int):List Int:=(V0 (RM.prodN sd)).map λk=>RM.dif sd (λi=>cl.getD i 0) k
noncomputable def DG(sd cl:List Int):List Int:=(V0 (RM.prodN sd)).map λk=>RM.pre sd (λi=>cl.getD i 0) k
theorem BJ{sd:List Int}(hp:∀c∈sd,1<=c):(jX sd).length=RM.prodN sd:=by
 have h1:=HJ hp
 rw[prodN_I hp]at h1
 omega
theorem nw(sd:List Int):jX sd=RM.placesOf sd:=by
 have gen:∀(sd:List Int) (acc:List (List Int)),DQ acc (sd.map rng)=sd.foldl RM.stepP acc:=by
  intro sd
  induction sd with
  | nil=>intro acc;rfl
  | cons a r ih =>
   intro acc
   show DQ (acc.flatMap λp=>(rng a).map λx=>p++[x]) (r.map rng)=r.foldl RM.stepP (RM.stepP acc a)
   rw[ih]
   congr 1
   unfold RM.stepP
   congr 1
   funext p
   simp[rng,RM.rowP]
 exact gen sd [[]]
theorem fU{sd cl:List Int}(hp:∀c∈sd,1<=c)(hl:cl.length=RM.prodN sd):RM.runProg sd.reverse 1 cl=DG sd cl:=by
 refine v8 (by rw[RM.runProg_len];simp[DG,hl]) λk h1 h2=>?_
 have hk:k < RM.prodN sd:=by rw[RM.runProg_len]at h1;omega
 have e1:=RM.prog_val sd hp cl 1 (by rw[hl,Q6]) k (by omega)
 rw[B1,L0 h1,T3,t7 hk,L6 hk]at e1
 rw[e1]
 simp only[DG,List.getElem_map,List.getElem_range]
 exact RM.pre_congrU sd k λi=>by rw[S7,T5]
theorem qw{sd cl:List Int}(hp:∀c∈sd,1<=c)(hl:cl.length=RM.prodN sd):RM.runOf sd cl=DG sd cl:=by
 rw[<- fU hp hl,RM.runEq hp (by rw[hl,<- BJ hp,nw])]
open PySem PySem.Spec L2 L3 PyProof.Rows
section
variable {P:Program}{w:World}{K:q0}{mg:Str->Option Value}{base:Heap}
theorem kq{xs:List Int}{i:Nat}(h:i < xs.length):AY (xs.map n0) (i:Int)=some (.int (xs.getD i 0)):=by
 refine KY ?_
 rw[X0,L0 h,B1,L0 h]
 rfl
theorem tw{n i:Nat}(h:i < n):QG n (i:Int)=some i:=by
 unfold QG
 simp
 omega
noncomputable def tM:Con:=λargs Q=>∃(xs:List Int) (side step:Int),args=[.io (.list (xs.map n0)),.fz (.int side),.fz (.int step)]/\xs.length<=1000/\1<=side/\side<=1000/\1<=step/\step<=1000 /\
 ∀o,Q (.fz .none) (some (.io (.list ((RM.addAlong side step xs).map n0))) :: o)
theorem uM:FnScope ["table","side","step","index"] ["table","side","step"] (fQ (top 15)):=⟨rfl,rfl,rfl,by decide +kernel,rfl,by decide +kernel,by decide +kernel⟩
theorem xu{f:Addr}{fd:FuncData}(F:Fun K "add_along" "add_along" (top 15) f fd)(T:Txt mg):FnOk P w K mg base fZ 1 f fd ["table","side","step"] (eQ K tM):=by
 have S:=uM
 refine YZ F S (λcdv A outer s H E hr=>(nQ (RX [3] PassesOwn.never rfl (lE T.range_ (aQ (wn 2) (aQ (wx (xQ NX (OQ (K:=K) rfl) T.len_ PySem.boot_len (aQ (wn 0) bQ))) bQ))) (lQ (i:=3) S.nd rfl (Or.inl rfl)) (nQ (jZ (dX ED bD (wx (w_bin rJ eJ (wx (w_bin QY HY (wn 3) (wn 2))) (wn 1))) (wx gQ)) (nQ (JL (w_bin NQ CQ (wx (BX rfl (wn 0) (wn 3))) (wx (BX rfl (wn 0) (wx (w_bin FZ DZ (wn 3) (wn 2)))))) (wn 0) (wn 3))) rX))))) ?_ ?_
 ·rintro args Qd ⟨xs,side,step,rfl,_⟩;rfl
 ·rintro args Qd ⟨xs,side,step,rfl,hx,a1,a2,b1,b2,q⟩
  refine ⟨qQ rfl,?_⟩
  have hst:((step.toNat:Nat):Int)=step:=O7 (by omega)
  refine ⟨⟨by omega,by omega,by rw[i0];omega,by rw[i0];omega⟩,?_⟩
  refine PX (λrest ρ=>∃(j m:Nat),ρ=[some (.io (.list ((RM.addN side step xs j).map n0))),some (.fz (.int side)),some (.fz (.int step)),none]/\rest=AQ (step+j) m/\j+m=xs.length - step.toNat) ?_ ?_
   ⟨0,xs.length - step.toNat,rfl,by rw[i0];congr 1<;>omega,by omega⟩
  ·rintro d ds ρ ⟨j,m,rfl,er,hjm⟩ N hN
   cases m with
   | zero=>cases er
   | succ m =>
    rw[zJ]at er
    cases er
    have hlen:=RM.addN_len side step xs j
    have hi:step.toNat+j < (RM.addN side step xs j).length:=by omega
    have ei:step+(j:Int)=((step.toNat+j:Nat):Int):=by omega
    have ei2:step+(j:Int) - step=((j:Nat):Int):=by omega
    have hj:j < (RM.addN side step xs j).length:=by omega
    have nextE:RM.addN side step xs (j+1)=RM.addT side step (RM.addN side step xs j) (step.toNat+j):=rfl
    have er2:AQ (step+(j:Int)+1) m=AQ (step+((j+1:Nat):Int)) m:=by congr 1;omega
    refine ⟨⟨by omega,by omega⟩,by show (0:Int) < side;omega,?_⟩
    refine TX (λh=>?_) (λh=>?_)
    ·have h:0 < (step+(j:Int)) / step % side:=of_decide_eq_true h
     refine ⟨.int ((RM.addN side step xs j).getD (step.toNat+j) 0),by rw[ei];exact kq hi,.int ((RM.addN side step xs j).getD j 0),by rw[ei2];exact kq hj,step.toNat+j,by rw[i0,ei];exact tw hi,?_⟩
     refine hN _ ⟨j+1,m,?_,er2,by omega⟩
     rw[nextE]
     unfold RM.addT
     rw[if_pos (by rw[<- ei];exact h),N3]
     have e3:((RM.addN side step xs j).set (step.toNat+j) ((RM.addN side step xs j).getD (step.toNat+j) 0+(RM.addN side step xs j).getD j 0)).map n0=((RM.addN side step xs j).map n0).set (step.toNat+j) (.int ((RM.addN side step xs j).getD (step.toNat+j) 0+(RM.addN side step xs j).getD j 0)):=by rw[List.map_set]
     rw[e3]
     rfl
    ·have h:¬0 < (step+(j:Int)) / step % side:=λz=>h (decide_eq_true z)
     refine hN _ ⟨j+1,m,?_,er2,by omega⟩
     rw[nextE]
     unfold RM.addT
     rw[if_neg (by rw[<- ei];exact h)]
     rfl
  ·rintro ρ ⟨j,m,rfl,er,hjm⟩
   cases m with
   | succ m=>rw[zJ]at er;cases er
   | zero =>
    have hj:j=xs.length - step.toNat:=by omega
    subst hj
    exact q _
structure CalsRO(P:Program)(w:World)(K:q0)(mg:Str->Option Value)(base:Heap):Prop where
 add_along:Cal P w K mg base 1 "add_along" ["table","side","step"] (eQ K tM)
noncomputable def UU:Con:=λargs Q=>∃(sd cl:List Int) (d:PyData),args=[.fz (.tuple [kQ sd,d])]/\fP cl d/\Sd sd/\cl.length=(jX sd).length/\∀o,Q (.ow (.list ((DG sd cl).map n0))) o
theorem yu:FnScope ["field","table","step","side"] ["field"] (fQ (top 14)):=⟨rfl,rfl,rfl,by decide +kernel,rfl,by decide +kernel,by decide +kernel⟩
theorem uw{f:Addr}{fd:FuncData}(F:Fun K "running_of" "running_of" (top 14) f fd)(T:Txt mg)(C:CalsRO P w K mg base):FnOk P w K mg base fZ 2 f fd ["field"] (eQ K UU):=by
 have S:=yu
 refine YZ F S (λcdv A outer s H E hr=>(dQ (vQ (i:=1) S.nd rfl (Or.inl rfl) (ZX cy (dF (K:=K) rfl) T.list_ boot_list (aQ (wx (BX rfl (wn 0) (wx gQ))) bQ)))
     (dQ (vQ (i:=2) S.nd rfl (Or.inl rfl) gQ)
     (dQ (RX [3] PassesOwn.never rfl (IL rfl T.reversed_ (aQ (wx (BX rfl (wn 0) (wx gQ))) bQ)) (lQ (i:=3) S.nd rfl (Or.inl rfl)) (dQ (uJ (iX C.add_along (hr.mono (by first|decide|omega)) (aQ (wn 1) (aQ (wn 3) (aQ (wn 2) bQ)))))
     (nQ (vQ (i:=2) S.nd rfl (Or.inl rfl) (w_bin XX xX (wn 2) (wn 3))))))
     (nQ (fY (wn 1))))))) ?_ ?_
 ·rintro args Qd ⟨sd,cl,d,rfl,_⟩;rfl
 ·rintro args Qd ⟨sd,cl,d,rfl,hd,hsd,hc,q⟩
  have hm:=hsd.m
  have hpl:=HJ hsd.p
  have hpN:=BJ hsd.p
  rw[<- fU hsd.p (by omega)]at q
  refine ⟨qQ rfl,?_⟩
  have main:∀E:DE,(E.nx [some (.fz (.tuple [kQ sd,d])),some (.ow (.list ((RM.runProg sd.reverse 1 cl).map n0))),none,none])->E.nx [some (.fz (.tuple [kQ sd,d])),some (.ow (.list ((RM.runProg sd.reverse 1 cl).map n0))),none,none]:=λ_ h=>h
  have key:∀rs:List Int,(∀c∈rs,1<=c)->(rs.map n0)=(rs.map n0):=λ_ _=>rfl
  refine ⟨d,rfl,?_⟩
  rcases hd with rfl|rfl
  all_goals
   refine ⟨kQ sd,rfl,?_⟩
   refine PX (λrest ρ=>∃(rs xs:List Int) (st:Int),ρ=[some (.fz _),some (.ow (.list (xs.map n0))),some (.fz (.int st)),none]/\rest=rs.map n0/\RM.runProg rs st xs=RM.runProg sd.reverse 1 cl/\xs.length=cl.length/\1<=st/\st * prodI rs<=120/\∀c∈rs,1<=c) ?_ ?_
    ⟨sd.reverse,cl,1,rfl,by rw[List.map_reverse],rfl,rfl,by decide,by rw[W4,<- KK,RM.prodI_rev,KK];exact hm,λc h=>hsd.p c (t8.mp h)⟩
   ·rintro d ds ρ ⟨rs,xs,st,rfl,er,hrun,hxl,h1,hp,hrs⟩ N hN
    cases rs with
    | nil=>cases er
    | cons a rs =>
     cases er
     have ha:=hrs a A0
     have hr':∀c∈rs,1<=c:=λc h=>hrs c (u0 _ h)
     have hrp:=HX hr'
     have hp2:st * a * prodI rs<=120:=by
      have:st * (a * prodI rs)<=120:=hp
      rw[v5];exact this
     have hsa:st * a<=120:=by
      have:=W2 hrp (show (0:Int)<=st * a from Int.mul_nonneg (by omega) (by omega))
      omega
     have hst:st<=120:=by
      have:=W2 ha (show (0:Int)<=st by omega)
      omega
     have ha2:a<=120:=by
      have:=T4 h1 (show (0:Int)<=a by omega)
      omega
     have hsa1:1<=st * a:=by
      have:=W2 ha (show (0:Int)<=st by omega)
      omega
     refine ⟨xs,a,st,rfl,by omega,ha,by omega,h1,by omega,λo=>?_⟩
     refine ⟨.inl ⟨by omega,by omega⟩,?_⟩
     exact hN _ ⟨rs,RM.addAlong a st xs,st * a,rfl,rfl,hrun,by rw[RM.addAlong_len];exact hxl,hsa1,hp2,hr'⟩
   ·rintro ρ ⟨rs,xs,st,rfl,er,hrun,hxl,h1,hp,hrs⟩
    cases rs with
    | nil =>
     have hrun:xs=RM.runProg sd.reverse 1 cl:=hrun
     rw[<- hrun]at q
     exact q _
    | cons _ _=>cases er
end
noncomputable def Bx:List Int->List Int->List Int->Prop
 | [],[],[]=>True
 | x :: lo,y :: hi,s :: sd=>(0<=x/\x<=y/\y < s)/\Bx lo hi sd
 | _,_,_=>False
theorem WY:∀{sd lo hi:List Int}{cs:List (Int×Int)},Bx lo hi sd->ZE cs ((lo.zip hi).map λq=>ZZ q.1 q.2)->Wi (cs.map (·.1)) sd
 | [],[],[],[],_,_=>trivial
 | [],[],[],_ :: _,_,h=>h.elim
 | _ :: _,_ :: _,_ :: _,[],_,h=>h.elim
 | s :: sd,x :: lo,y :: hi,c :: cs,h,k=>by
  refine ⟨?_,WY h.2 k.2⟩
  have h1:=h.1
  have k1:c∈ZZ x y:=k.1
  unfold ZZ at k1
  split at k1<;>simp at k1
  ·subst k1;show 0<=y/\y < s;omega
  ·rcases k1 with rfl|rfl
   ·show 0<=x - 1/\x - 1 < s;omega
   ·show 0<=y/\y < s;omega
 | [],[],_ :: _,_,h,_=>h.elim
 | [],_ :: _,z,_,h,_=>by cases z<;>exact h.elim
 | _ :: _,[],z,_,h,_=>by cases z<;>exact h.elim
 | _ :: _,_ :: _,[],_,h,_=>h.elim
noncomputable abbrev EG(p:List Int×Int):PyData:=.tuple [kQ p.1,.int p.2]
theorem cI(ps:List (List Int))(cl:List Int):VJ (ps.map kQ) (cl.map n0)=(ps.zip cl).map EG:=by
 unfold VJ
 rw[E8,P0]
 rfl
noncomputable def rO:PyData->PyData
 | .tuple [.int a,.int b]=>.bool (decide (a<=b))
 | _=>.none
noncomputable abbrev QX(b:List Int×List Int):PyData:=.tuple [kQ b.1,kQ b.2]
theorem iB:∀{sd lo hi:List Int},Wi lo sd->Wi hi sd->RM.leq hi lo=true->Bx lo hi sd
 | [],[],[],_,_,_=>trivial
 | s :: sd,x :: lo,y :: hi,h1,h2,h=>by
  rw[RM.leq_cons,P4]at h
  exact ⟨⟨h1.1.1,by simpa using h.1,h2.1.2⟩,iB h1.2 h2.2 h.2⟩
 | [],_ :: _,_,h,_,_=>h.elim
 | [],[],_ :: _,_,h,_=>h.elim
 | _ :: _,[],_,h,_,_=>h.elim
 | _ :: _,_ :: _,[],_,h,_=>h.elim
theorem LK:∀{sd lo hi:List Int}{x y s:Int},Bx lo hi sd->0<=x/\x<=y/\y < s->Bx (lo++[x]) (hi++[y]) (sd++[s])
 | [],[],[],_,_,_,_,h=>⟨h,trivial⟩
 | _ :: _,_ :: _,_ :: _,_,_,_,h1,h=>⟨h1.1,LK h1.2 h⟩
 | [],[],_ :: _,_,_,_,h,_=>h.elim
 | [],_ :: _,z,_,_,_,h,_=>by cases z<;>exact h.elim
 | _ :: _,[],z,_,_,_,h,_=>by cases z<;>exact h.elim
 | _ :: _,_ :: _,[],_,_,_,h,_=>h.elim
theorem iK:∀{sd lo hi:List Int},Bx lo hi sd->lo.length=sd.length/\hi.length=sd.length
 | [],[],[],_=>⟨rfl,rfl⟩
 | _ :: _,_ :: _,_ :: _,h=>by have:=iK h.2;simp;omega
 | [],[],_ :: _,h=>h.elim
 | [],_ :: _,z,h=>by cases z<;>exact h.elim
 | _ :: _,[],z,h=>by cases z<;>exact h.elim
 | _ :: _,_ :: _,[],h=>h.elim
theorem vM{l:List Int}{a b:Int}(h:l.Perm [a,b])(hs:l.Pairwise (·<=·)):∃x y,l=[x,y]/\x<=y/\(x=a\/x=b)/\(y=a\/y=b):=by
 match l,h.length_eq with
 | [x,y],_ =>
  refine ⟨x,y,rfl,?_,?_,?_⟩
  ·exact (O3.mp hs).1 y (by simp)
  ·have:=h.mem_iff (a:=x)
   simpa using this.mp (by simp)
  ·have:=h.mem_iff (a:=y)
   simpa using this.mp (by simp)
section
variable {P:Program}{w:World}{K:q0}{mg:Str->Option Value}{base:Heap}
noncomputable def tN(sd lo:List Int):List (List Int×List Int):=((jX sd).filter λhi=>RM.leq hi lo).map λhi=>(lo,hi)
noncomputable def gP(sd:List Int):List (List Int×List Int):=(jX sd).flatMap (tN sd)
structure CalsBS(P:Program)(w:World)(K:q0)(mg:Str->Option Value)(base:Heap):Prop where
 law_places:Cal P w K mg base 1 "_law_places" ["_law_sides_here"] (eQ K VY)
structure CalsBX(P:Program)(w:World)(K:q0)(mg:Str->Option Value)(base:Heap):Prop where
 law_take:Cal P w K mg base 2 "_law_take" ["_law_state","_law_most"] (eQ K eU)
noncomputable def wM:Con:=λargs Q=>∃(ns:List Int) (k l:Int) (sd:List Int),args=[.io (mX ns k l),.fz (kQ sd)]/\0<=k/\0<=l/\Sd sd /\
 ∀(b:List Int×List Int) (k' l':Int) (o:Ev),Bx b.1 b.2 sd->0<=k'->0<=l'->Q (.fz (QX b)) (some (.io (mX ns k' l')) :: o)
theorem xM:FnScope ["_law_state","_law_sides_here","_law_low","_law_high","_law_side","_law_one","_law_other"] ["_law_state","_law_sides_here"] (fQ (top 41)):=⟨rfl,rfl,rfl,by decide +kernel,rfl,by decide +kernel,by decide +kernel⟩
theorem dI{f:Addr}{fd:FuncData}(F:Fun K "_law_box" "_law_box" (top 41) f fd)(T:Txt mg)(C:CalsBX P w K mg base):FnOk P w K mg base fZ 3 f fd ["_law_state","_law_sides_here"] (eQ K wM):=by
 have S:=xM
 refine YZ F S (λcdv A outer s H E hr=>(dQ (vQ (i:=2) S.nd rfl (Or.inl rfl) (zX bQ))
     (dQ (vQ (i:=3) S.nd rfl (Or.inl rfl) (zX bQ))
     (dQ (RX [4,5,6] PassesOwn.never rfl (nX rfl (wv 1)) (lQ (i:=4) S.nd rfl (Or.inl rfl)) (dQ (zF (xQ Yx (XH rfl) T.sorted_ boot_sorted (aQ (wx (zX (aQ (wx (iX C.law_take (hr.mono (by first|decide|omega)) (aQ (wn 0) (aQ (wn 4) bQ)))) (aQ (wx (iX C.law_take (hr.mono (by first|decide|omega)) (aQ (wn 0) (aQ (wn 4) bQ)))) bQ)))) bQ)) (QL rfl rfl (uQ (lQ (i:=5) S.nd rfl (Or.inl rfl)) (uQ (lQ (i:=6) S.nd rfl (Or.inl rfl)) DX))))
     (dQ (uJ (Ly pZ rfl PySem.F.slot_list_append PySem.F.type_list_append SX (wn 2) (aQ (wx (wv 5)) bQ)))
     (nQ (uJ (Ly pZ rfl PySem.F.slot_list_append PySem.F.type_list_append SX (wn 3) (aQ (wx (wv 6)) bQ)))))))
     (nQ (yQ (EX (aQ (wx (ZX OX (ZQ (K:=K) rfl) T.tuple_ boot_tuple (aQ (wn 2) bQ))) (aQ (wx (ZX OX (ZQ (K:=K) rfl) T.tuple_ boot_tuple (aQ (wn 3) bQ))) bQ))))))))) ?_ ?_
 ·rintro args Qd ⟨ns,k,l,sd,rfl,_⟩;rfl
 ·rintro args Qd ⟨ns,k,l,sd,rfl,hk,hl,hsd,q⟩
  have hm:=hsd.m
  have h3:=hsd.l3
  refine ⟨qQ rfl,?_⟩
  refine PX (λrest ρ=>∃(dn rs lo hi:List Int) (k l:Int),sd=dn++rs/\ρ=[some (.io (mX ns k l)),some (.fz (kQ sd)),some (.ow (.list (lo.map n0))),some (.ow (.list (hi.map n0))),none,none,none]/\rest=rs.map n0/\Bx lo hi dn/\0<=k/\0<=l) ?_ ?_
   ⟨[],sd,[],[],k,l,rfl,rfl,rfl,trivial,hk,hl⟩
  ·rintro e ds ρ ⟨dn,rs,lo,hi,k,l,hpe,rfl,er,hb,hk,hl⟩ N hN
   cases rs with
   | nil=>cases er
   | cons s rs =>
    cases er
    have hs1:=hsd.p s (by rw[hpe];simp)
    have hs2:=dZ hsd.p s (by rw[hpe];simp)
    have hdl:dn.length<=3:=by have:=congrArg U4 hpe;simp at this;omega
    have hbl:=iK hb
    refine ⟨ns,k,l,s,rfl,hk,hl,by omega,by omega,λr1 k1 l1 _ r10 r11 hk1 hl1=>?_⟩
    refine ⟨ns,k1,l1,s,rfl,hk1,hl1,by omega,by omega,λr2 k2 l2 _ r20 r21 hk2 hl2=>?_⟩
    refine ⟨[r1,r2],rfl,by simp,λns' hp hw=>?_⟩
    obtain⟨x,y,rfl,hxy,hx,hy⟩:=vM hp hw
    refine ⟨rfl,?_⟩
    refine ⟨by rw[i0];exact o4 (show lo.length<=1000 by omega) (by decide),?_⟩
    refine ⟨by rw[i0];exact o4 (show hi.length<=1000 by omega) (by decide),?_⟩
    refine hN _ ⟨dn++[s],rs,lo++[x],hi++[y],k2,l2,by rw[hpe];simp,by rw[T2,T2];rfl,rfl,LK hb ⟨?_,hxy,?_⟩,hk2,hl2⟩
    ·rcases hx with rfl|rfl<;>assumption
    ·rcases hy with rfl|rfl<;>assumption
  ·rintro ρ ⟨dn,rs,lo,hi,k,l,hpe,rfl,er,hb,hk,hl⟩
   cases rs with
   | cons _ _=>cases er
   | nil =>
    rw[P2]at hpe
    subst hpe
    exact q (lo,hi) k l _ hb hk hl
noncomputable def MK:List Int->List Int->List Int->Bool
 | x :: lo,p :: pl,y :: hi=>(decide (x<=p)&&decide (p<=y))&&MK lo pl hi
 | _,_,_=>true
noncomputable def sO:PyData->PyData
 | .tuple [.int a,.int b,.int c]=>.bool (decide (a<=b)&&decide (b<=c))
 | _=>.none
noncomputable def SF(lo p hi:List Int):List Bool:=(lo.zip (p.zip hi)).map λq=>decide (q.1<=q.2.1)&&decide (q.2.1<=q.2.2)
theorem rG:∀(lo p hi:List Int),(SF lo p hi).all id=MK lo p hi
 | x :: lo,p :: pl,y :: hi=>by
  have:=rG lo pl hi
  simp only[SF,MK,S4,Z0,o9,id]at this ⊢
  rw[this]
 | [],_,_=>by simp[SF,MK]
 | _ :: _,[],_=>by simp[SF,MK]
 | _ :: _,_ :: _,[]=>by simp[SF,MK]
theorem Yz(a b c:List Int):OV (a.map n0) (b.map n0) (c.map n0)=(a.zip (b.zip c)).map λq=>Z1 [.int q.1,.int q.2.1,.int q.2.2]:=by
 unfold OV
 rw[E8,E8,P0]
 rfl
noncomputable def jB:Con:=λargs Q=>∃lo hi p:List Int,args=[.fz (QX (lo,hi)),.fz (kQ p)]/\lo.length<=1000/\∀o,Q (.fz (.bool (MK lo p hi))) o
theorem eI:FnScope ["_law_box_here","_law_place","_law_low","_law_high"] ["_law_box_here","_law_place"] (fQ (top 42)):=⟨rfl,rfl,rfl,by decide +kernel,rfl,by decide +kernel,by decide +kernel⟩
theorem zu{f:Addr}{fd:FuncData}(F:Fun K "_law_lies" "_law_lies" (top 42) f fd)(T:Txt mg):FnOk P w K mg base fZ 1 f fd ["_law_box_here","_law_place"] (eQ K jB):=by
 have S:=eI
 refine YZ F S (λcdv A outer s H E hr=>(dQ (zF (wv 0) (BZ rfl rfl (uQ (lQ (i:=2) S.nd rfl (Or.inl rfl)) (uQ (lQ (i:=3) S.nd rfl (Or.inl rfl)) DX))))
     (nQ (yQ (xQ bY (oZ (K:=K) rfl rfl) T.all_ boot_all (aQ (wx (fX rfl (own:=["_law_first","_law_number_here","_law_last"]) (fr:=[]) (by kernel_rfl) (mE rfl T.zip_ (aQ (wn 2) (aQ (wn 1) (aQ (wn 3) bQ)))) (λ_ _ _ _=>(BZ rfl rfl (uQ (lQ (i:=0) (by decide +kernel:Q1 (["_law_first","_law_number_here","_law_last"]:List Str)) rfl (Or.inl rfl)) (uQ (lQ (i:=1) (by decide +kernel:Q1 (["_law_first","_law_number_here","_law_last"]:List Str)) rfl (Or.inl rfl)) (uQ (lQ (i:=2) (by decide +kernel:Q1 (["_law_first","_law_number_here","_law_last"]:List Str)) rfl (Or.inl rfl)) DX))))) (λ_ _ _ _=>qV) (λ_ _ _ _=>(ID fH fH (wn 0) (wn 1) (wn 2))))) bQ)))))) ?_ ?_
 ·rintro args Qd ⟨lo,hi,p,rfl,_⟩;rfl
 ·rintro args Qd ⟨lo,hi,p,rfl,hl,q⟩
  refine ⟨qQ rfl,?_⟩
  refine ⟨rfl,?_⟩
  have hz:=Yz lo p hi
  refine ⟨by rw[hz,i0,L4];exact EQ (by omega),bJ sO ?_ ?_⟩
  ·intro x hx R hR
   rw[hz]at hx
   obtain⟨⟨a,b,c⟩,_,rfl⟩:=K0.mp hx
   refine ⟨rfl,?_⟩
   have hR:R (.bool (decide (a<=b)&&decide (b<=c))) _:=hR
   refine TX (λh=>?_) (λh=>?_)
   ·have h:decide (a<=b)=true:=h
    rw[h,A7]at hR
    exact hR
   ·have h:¬decide (a<=b)=true:=h
    rw[i8.mpr h,J6]at hR
    exact hR
  ·rw[hz,P0]
   refine ⟨SF lo p hi,by unfold SF;rw[P0];rfl,?_⟩
   rw[rG]
   exact q _
end
theorem sG{α:Type}:∀{cs acc:List (List α)}{a q:List α},a∈acc->ZE q cs->a++q∈DQ acc cs
 | [],acc,a,[],ha,_=>by simpa [DQ]using ha
 | [],_,_,_ :: _,_,h=>h.elim
 | _ :: _,_,_,[],_,h=>h.elim
 | c :: cs,acc,a,x :: q,ha,h=>by
  have:=sG (cs:=cs) (acc:=acc.flatMap λp=>c.map λx=>p++[x]) (a:=a++[x]) (q:=q) (K3.mpr ⟨a,ha,K0.mpr ⟨x,h.1,rfl⟩⟩) h.2
  simpa [DQ]using this
theorem Au{x s:Int}(h0:0<=x)(h1:x < s):x∈rng s:=K0.mpr ⟨x.toNat,B3.mpr (by omega),by omega⟩
theorem vw:∀{p sd:List Int},Wi p sd->ZE p (sd.map rng)
 | [],[],_=>trivial
 | [],_ :: _,h=>h.elim
 | _ :: _,[],h=>h.elim
 | x :: p,s :: sd,h=>⟨Au h.1.1 h.1.2,vw h.2⟩
theorem TF{p sd:List Int}(h:Wi p sd):p∈jX sd:=sG (a:=[]) (by simp) (vw h)
theorem Bu:RM.leq [] []=true:=rfl
theorem zw(z y e:Int)(cs:List (List (Int×Int)))(o:List Int) :
  (W cs λq=>mY ((y,e) :: q) * (if RM.leq (((y,e) :: q).map (·.1)) (z :: o)=true then 1 else 0))=e * ((if z<=y then 1 else 0) * W cs λq=>mY q * (if RM.leq (q.map (·.1)) o=true then 1 else 0)):=by
 by_cases h:z<=y
 ·rw[if_pos h,W4,<- kw]
  congr 1
  funext q
  rw[lw,v5]
  show e * (mY q * (if RM.leq (y :: q.map (·.1)) (z :: o)=true then 1 else 0))=_
  rw[RM.leq_cons,decide_eq_true h,A7]
 ·rw[if_neg h,Int.zero_mul,G9]
  refine Eq.trans ?_ (RF cs)
  congr 1
  funext q
  show mY ((y,e) :: q) * (if RM.leq (y :: q.map (·.1)) (z :: o)=true then 1 else 0)=0
  rw[RM.leq_cons,decide_eq_false h,J6,if_neg (by simp),G9]
theorem ind:∀{sd lo hi o:List Int},Bx lo hi sd->Wi o sd->(W ((lo.zip hi).map λq=>ZZ q.1 q.2) λcs=>mY cs * (if RM.leq (cs.map (·.1)) o=true then 1 else 0))=if MK lo o hi=true then 1 else 0
 | [],[],[],[],_,_=>by simp[W,mY,MK,Bu]
 | s :: sd,x :: lo,y :: hi,z :: o,h,k=>by
  have ih:=ind h.2 k.2
  have h1:=h.1
  have k1:=k.1
  show ((ZZ x y).map λc=>W ((lo.zip hi).map λq=>ZZ q.1 q.2) λq=>mY (c :: q) * (if RM.leq ((c :: q).map (·.1)) (z :: o)=true then 1 else 0)).sum=if ((decide (x<=z)&&decide (z<=y))&&MK lo o hi)=true then 1 else 0
  have fin:(if ((decide (x<=z)&&decide (z<=y))&&MK lo o hi)=true then (1:Int) else 0)=(if x<=z/\z<=y then 1 else 0) * (if MK lo o hi=true then 1 else 0):=by
   by_cases a:x<=z<;>by_cases b:z<=y<;>by_cases c:MK lo o hi=true<;>simp[a,b,c]
  rw[fin,<- ih]
  generalize hW:(W ((lo.zip hi).map λq=>ZZ q.1 q.2) λcs=>mY cs * (if RM.leq (cs.map (·.1)) o=true then 1 else 0))=ww
  by_cases h0:x=0
  ·rw[ZZ,if_pos h0]
   simp only[Z0,q5,Y5,List.sum_nil]
   have w1:=zw z y 1 ((lo.zip hi).map λq=>ZZ q.1 q.2) o
   simp only[Z0]at w1
   rw[w1,hW]
   have:(x<=z/\z<=y) ↔ z<=y:=by omega
   simp[this]
  ·rw[ZZ,if_neg h0]
   simp only[Z0,q5,Y5,List.sum_nil]
   have w1:=zw z y 1 ((lo.zip hi).map λq=>ZZ q.1 q.2) o
   have w2:=zw z (x - 1) (-1) ((lo.zip hi).map λq=>ZZ q.1 q.2) o
   simp only[Z0]at w1 w2
   rw[w1,w2,hW]
   by_cases a:z<=x - 1
   ·have b:z<=y:=by omega
    have c:¬(x<=z/\z<=y):=by omega
    rw[if_pos a,if_pos b,if_neg c]
    simp only[W4,Int.zero_mul,Int.neg_mul]
    omega
   ·by_cases b:z<=y
    ·have c:x<=z/\z<=y:=by omega
     simp[a,b,c]
    ·have c:¬(x<=z/\z<=y):=by omega
     simp[a,b,c]
 | [],[],[],_ :: _,_,k=>k.elim
 | _ :: _,_ :: _,_ :: _,[],_,k=>k.elim
 | [],[],_ :: _,_,h,_=>h.elim
 | [],_ :: _,z,_,h,_=>by cases z<;>exact h.elim
 | _ :: _,[],z,_,h,_=>by cases z<;>exact h.elim
 | _ :: _,_ :: _,[],_,h,_=>h.elim
noncomputable def vX(rows:List (List Int×Int))(lo hi:List Int):Int:=((rows.filter λr=>MK lo r.1 hi).map (·.2)).sum
theorem NK(lo hi:List Int):∀rows:List (List Int×Int),vX rows lo hi=(rows.map λr=>if MK lo r.1 hi=true then r.2 else 0).sum
 | []=>rfl
 | r :: rows=>by
  have ih:=NK lo hi rows
  unfold vX at ih ⊢
  rw[Z0,Y5,<- ih]
  by_cases h:MK lo r.1 hi=true
  ·rw[u6 (p:=λr:List Int×Int=>MK lo r.1 hi) h,if_pos h];simp
  ·rw[v6 (p:=λr:List Int×Int=>MK lo r.1 hi) h,if_neg h];simp
theorem lq(p:List Int):∀(rows:List (List Int×Int)) (t:Int),rows.foldl (λacc oc=>if RM.leq p oc.1=true then acc+oc.2 else acc) t=t+(rows.map λr=>if RM.leq p r.1=true then r.2 else 0).sum
 | [],t=>by simp
 | r :: rows,t=>by
  rw[Q3,lq p rows,Z0,Y5]
  split<;>omega
theorem swap{sd lo hi:List Int}(hb:Bx lo hi sd):∀rows:List (List Int×Int),(∀r∈rows,Wi r.1 sd) ->
  (W ((lo.zip hi).map λq=>ZZ q.1 q.2) λcs=>mY cs * (rows.map λr=>if RM.leq (cs.map (·.1)) r.1=true then r.2 else 0).sum)=(rows.map λr=>if MK lo r.1 hi=true then r.2 else 0).sum
 | [],_=>by
  refine Eq.trans ?_ (RF ((lo.zip hi).map λq=>ZZ q.1 q.2))
  congr 1
  funext cs
  simp
 | r :: rows,h=>by
  have ih:=swap hb rows λx hx=>h x (u0 _ hx)
  have e:(λcs:List (Int×Int)=>mY cs * ((r :: rows).map λr=>if RM.leq (cs.map (·.1)) r.1=true then r.2 else 0).sum)=λcs=>r.2 * (mY cs * (if RM.leq (cs.map (·.1)) r.1=true then 1 else 0))+mY cs * (rows.map λr=>if RM.leq (cs.map (·.1)) r.1=true then r.2 else 0).sum:=by
   funext cs
   rw[Z0,Y5,Int.mul_add]
   congr 1
   split
   ·rw[B7,B8]
   ·simp
  rw[e,gB,kw,ih,ind hb (h r A0),Z0,Y5]
  congr 1
  split
  ·rw[B7]
  ·rw[G9]
theorem Cu{sd:List Int}(hp:∀c∈sd,1<=c)(f:List Int->Int){c:List Int}(h:Wi c sd):tu ((jX sd).map f) (XD sd c)=f c:=by
 obtain⟨k,hk,ek⟩:=W8.mp (TF h)
 have h4:=(bI hp (k:=k) (p:=c) (by rw[L0 hk,ek])).2
 rw[h4,tu,AY,QG,if_pos (by omega),if_pos (by rw[i0];omega)]
 simp[hk,ek]
theorem tG{sd cl lo hi:List Int}(hp:∀c∈sd,1<=c)(hl:cl.length=(jX sd).length)(hb:Bx lo hi sd):pO sd (DG sd cl) lo hi=vX ((jX sd).zip cl) lo hi:=by
 have hro:DG sd cl=(jX sd).map λp=>RM.tot p ((jX sd).zip cl):=by rw[<- qw hp (by rw[hl,BJ hp]),nw];rfl
 rw[NK,<- swap hb ((jX sd).zip cl) λr hr=>gK (K4 (a:=r.1) (b:=r.2) hr).1,pO,Vz,Xz]
 refine jq _ λcs hcs=>?_
 rw[hro,Cu hp _ (WY hb hcs),RM.tot,lq,Int.zero_add]
section
variable {P:Program}{w:World}{K:q0}{mg:Str->Option Value}{base:Heap}
structure CalsSM(P:Program)(w:World)(K:q0)(mg:Str->Option Value)(base:Heap):Prop where
 law_lies:Cal P w K mg base 1 "_law_lies" ["_law_box_here","_law_place"] (eQ K jB)
noncomputable def yM:Con:=λargs Q=>∃(rows:List (List Int×Int)) (lo hi:List Int),args=[.fz (.list (rows.map EG)),.fz (QX (lo,hi))]/\rows.length<=1000/\lo.length<=1000/\∀o,Q (.fz (.int (vX rows lo hi))) o
noncomputable def Du(lo hi:List Int):PyData->Bool
 | .tuple [.tuple ds,_]=>MK lo (ds.map unI) hi
 | _=>false
noncomputable def zM:PyData->PyData
 | .tuple [_,c]=>c
 | _=>.none
theorem AM:FnScope ["_law_rows","_law_box_here"] ["_law_rows","_law_box_here"] (fQ (top 43)):=⟨rfl,rfl,rfl,by decide +kernel,rfl,by decide +kernel,by decide +kernel⟩
theorem Eu{f:Addr}{fd:FuncData}(F:Fun K "_law_sum" "_law_sum" (top 43) f fd)(T:Txt mg)(C:CalsSM P w K mg base):FnOk P w K mg base fZ 2 f fd ["_law_rows","_law_box_here"] (eQ K yM):=by
 have S:=AM
 refine YZ F S (λcdv A outer s H E hr=>(nQ (yQ (xQ Kx (SV (K:=K) rfl rfl) T.sum_ boot_sum (aQ (wx (fX rfl (own:=["_law_place","_law_cell"]) (fr:=[1]) (by kernel_rfl) (nX rfl (wv 0)) (λ_ _ _ _=>(BZ rfl rfl (uQ (lQ (i:=0) (by decide +kernel:Q1 (["_law_place","_law_cell","_law_box_here"]:List Str)) rfl (Or.inl rfl)) (uQ (lQ (i:=1) (by decide +kernel:Q1 (["_law_place","_law_cell","_law_box_here"]:List Str)) rfl (Or.inl rfl)) DX)))) (λ_ _ _ _=>bP (QJ (QQ C.law_lies (hr.mono (by first|decide|omega)) (aQ (wn 2) (aQ (wn 0) bQ))))) (λ_ _ _ _=>(wv 1)))) bQ))))) ?_ ?_
 ·rintro args Qd ⟨rows,lo,hi,rfl,_⟩;rfl
 ·rintro args Qd ⟨rows,lo,hi,rfl,hr1,hl,q⟩
  refine ⟨qQ rfl,?_⟩
  have pe:∀r:List Int×Int,Du lo hi (EG r)=MK lo r.1 hi:=λr=>by
   show MK lo ((r.1.map n0).map unI) hi=_
   rw[nZ]
  refine ⟨by rw[i0];exact EQ hr1,HL (Du lo hi) zM ?_ ?_⟩
  ·intro d hd N M hN hM
   obtain⟨r,_,rfl⟩:=K0.mp hd
   rw[pe]at hN hM
   refine ⟨rfl,lo,hi,r.1,rfl,hl,λo=>?_⟩
   refine TX (λh=>?_) (λh=>?_)
   ·exact hN h
   ·exact hM (by simpa using h)
  ·have e:((rows.map EG).filter (Du lo hi)).map zM=((rows.filter λr=>MK lo r.1 hi).map (·.2)).map n0:=by
    rw[List.filter_map,P0,P0]
    have e2:(Du lo hi ∘ EG)=λr=>MK lo r.1 hi:=funext pe
    rw[e2]
    rfl
   rw[e]
   exact ⟨_,rfl,q _⟩
end
theorem XY(a b:Int):(mZ a b).Pairwise (· < ·):=by
 unfold mZ
 rw[X4]
 exact List.pairwise_lt_range.imp λh=>by omega
theorem oY:∀(cs acc:List (List Int)),DQ acc cs=acc.flatMap λa=>(DQ [[]] cs).map λt=>a++t
 | [],acc=>by
  show acc=acc.flatMap λa=>[a++[]]
  simp
 | c :: cs,acc=>by
  show DQ (acc.flatMap λp=>c.map λx=>p++[x]) cs=acc.flatMap λa=>(DQ ([[]].flatMap λp=>c.map λx=>p++[x]) cs).map λt=>a++t
  rw[oY cs (acc.flatMap _),oY cs ([[]].flatMap _)]
  simp[List.flatMap_assoc,w8,u7,Function.comp_def]
theorem VW(c:List Int)(cs:List (List Int)):DQ [[]] (c :: cs)=c.flatMap λx=>(DQ [[]] cs).map λt=>x :: t:=by
 show DQ ([[]].flatMap λp=>c.map λx=>p++[x]) cs=_
 rw[oY]
 simp[u7]
theorem XW(s:Int)(sd:List Int):jX (s :: sd)=(rng s).flatMap λx=>(jX sd).map λt=>x :: t:=VW _ _
theorem uG(l h:Int)(lo hi:List Int):CG (l :: lo) (h :: hi)=(mZ l h).flatMap λx=>(CG lo hi).map λt=>x :: t:=VW _ _
noncomputable def UF:List Int->List Int->Bool
 | a :: as,b :: bs=>decide (a<=b)&&UF as bs
 | _,_=>true
inductive In:List Int->List Int->Prop
 | nil:In [] []
 | cons {a s:Int}{as sd:List Int}:0<=a->a < s->In as sd->In (a :: as) (s :: sd)
theorem In.len:∀{p sd:List Int},In p sd->p.length=sd.length
 | _,_,.nil=>rfl
 | _,_,.cons _ _ h=>by rw[K1,K1,h.len]
theorem mem_rngI{x s:Int}:x∈rng s ↔ 0<=x/\x < s:=by
 unfold rng
 rw[K0]
 constructor
 ·rintro⟨n,hn,rfl⟩
  have:=B3.mp hn
  omega
 ·intro h
  exact ⟨x.toNat,B3.mpr (by omega),by omega⟩
theorem Aw{x a b:Int}:x∈mZ a b ↔ a<=x/\x<=b:=by
 unfold mZ
 rw[K0]
 constructor
 ·rintro⟨n,hn,rfl⟩
  have:=B3.mp hn
  omega
 ·intro h
  exact ⟨(x - a).toNat,B3.mpr (by omega),by omega⟩
theorem VU:∀{sd p:List Int},p∈jX sd->In p sd
 | [],p,h=>by
  have:p=[]:=by simpa [jX,DQ]using h
  subst this
  exact .nil
 | s :: sd,p,h=>by
  rw[XW]at h
  obtain⟨x,hx,ht⟩:=K3.mp h
  obtain⟨t,ht2,rfl⟩:=K0.mp ht
  have:=mem_rngI.mp hx
  exact .cons this.1 this.2 (VU ht2)
theorem vG{α:Type}{lt:α->α->Bool}(an:∀a b,lt a b=false->lt b a=false->a=b):∀{l m:List α},l.Perm m->l.Pairwise (λa b=>lt b a=false)->m.Pairwise (λa b=>lt b a=false)->l=m
 | [],m,p,_,_=>by rw[List.nil_perm.mp p]
 | x :: l,[],p,_,_=>by simp at p
 | x :: l,y :: m,p,h1,h2=>by
  have e:x=y:=by
   rcases B2.mp (p.mem_iff.mp A0) with e|hx
   ·exact e
   ·rcases B2.mp (p.mem_iff.mpr A0) with e|hy
    ·exact e.symm
    ·exact an x y ((O3.mp h2).1 x hx) ((O3.mp h1).1 y hy)
  subst e
  rw[vG an (List.perm_cons x |>.mp p) (O3.mp h1).2 (O3.mp h2).2]
theorem VF{l s:Int}(h0:0<=l):(rng s).filter (λx=>decide (l<=x))=mZ l (s - 1):=by
 have e:rng s=mZ 0 (s - 1):=(lY s).symm
 have p1:((rng s).filter λx=>decide (l<=x)).Pairwise (· < ·):=by rw[e];exact (XY 0 (s - 1)).filter _
 have p2:=XY l (s - 1)
 refine vG (lt:=λa b:Int=>decide (a < b)) (λa b h1 h2=>?_) ((X7 (p1.imp λh=>by omega) (p2.imp λh=>by omega)).mpr λx=>?_) (p1.imp λh=>?_) (p2.imp λh=>?_)
 ·have:=of_decide_eq_false h1
  have:=of_decide_eq_false h2
  omega
 ·rw[P3,mem_rngI,Aw,decide_eq_true_eq]
  omega
 ·exact decide_eq_false (by omega)
 ·exact decide_eq_false (by omega)
theorem mq{α β:Type}(p:α->Bool)(f:α->List β):∀l:List α,(l.flatMap λx=>if p x=true then f x else [])=(l.filter p).flatMap f
 | []=>rfl
 | a :: l=>by
  rw[E2,mq p f l,List.filter_cons]
  split
  ·rw[E2]
  ·rfl
theorem jK:∀{lo sd:List Int},In lo sd->(jX sd).filter (UF lo)=CG lo (sd.map λs=>s - 1)
 | _,_,.nil=>rfl
 | _,_,.cons (a:=l) (s:=s) (as:=lo) (sd:=sd) h0 h1 h=>by
  rw[XW,Z0,uG,<- jK h,<- VF h0,List.filter_flatMap,<- mq]
  congr 1
  funext x
  rw[List.filter_map]
  split
  ·rename_i q
   congr 1
   refine List.filter_congr λt _=>?_
   show (decide (l<=x)&&UF lo t)=UF lo t
   rw[q,A7]
  ·rename_i q
   have e:(jX sd).filter ((UF (l :: lo)) ∘ λt=>x :: t)=[]:=by
    rw[J8]
    intro t _ z
    have z:(decide (l<=x)&&UF lo t)=true:=z
    rw[P4]at z
    exact q z.1
   rw[e]
   rfl
noncomputable def RJ(sd:List Int):List (List Int×List Int):=(jX sd).flatMap λlo=>(CG lo (sd.map λs=>s - 1)).map λhi=>(lo,hi)
theorem YW{sd:List Int}(hsd:S0 sd):(jX sd).length<=120:=by
 have h1:=IX (sd.map rng) [[]]
 have h2:=AJ hsd.p
 have h3:=hsd.m
 rw[E1,Q6]at h1
 show (DQ [[]] (sd.map rng)).length<=120
 omega
theorem nq{lo sd:List Int}(hsd:S0 sd)(h:In lo sd):(CG lo (sd.map λs=>s - 1)).length<=120:=by
 rw[<- jK h]
 exact A1 (O4 _ _) (YW hsd)
theorem gI{lo sd:List Int}(hsd:S0 sd)(h:In lo sd):∀p∈lo.zip (sd.map λs=>s - 1),0<=p.1/\p.1<=p.2/\p.2<=1000:=by
 have gen:∀{lo sd:List Int},In lo sd->(∀c∈sd,c<=120)->∀p∈lo.zip (sd.map λs=>s - 1),0<=p.1/\p.1<=p.2/\p.2<=1000:=by
  intro lo sd h
  induction h with
  | nil=>intro _ p hp;simp at hp
  | cons h0 h1 _ ih =>
   intro hc p hp
   rw[Z0,S4]at hp
   rcases B2.mp hp with rfl|hp
   ·have:=hc _ A0
    exact ⟨h0,by show _<=_ - 1;omega,by show _ - 1<=1000;omega⟩
   ·exact ih (λc hc'=>hc c (u0 _ hc')) p hp
 exact gen h λc hc=>F9 (dZ hsd.p c hc) hsd.m
theorem oq{α β:Type}(f:α->List β)(b:Nat):∀l:List α,(∀x∈l,(f x).length<=b)->(l.flatMap f).length<=l.length * b
 | [],_=>by simp
 | a :: l,h=>by
  have h1:=h a A0
  have h2:=oq f b l λx hx=>h x (u0 _ hx)
  rw[E2,M0,K1,y9]
  omega
theorem rq{sd:List Int}(hsd:S0 sd)(ls:List (List Int))(h:∀x∈ls,x∈jX sd)(hl:ls.length<=120):(ls.flatMap λlo=>(CG lo (sd.map λs=>s - 1)).map λhi=>(lo,hi)).length<=14400:=by
 have:=oq (λlo=>(CG lo (sd.map λs=>s - 1)).map λhi=>(lo,hi)) 120 ls λx hx=>by
  rw[i0]
  exact nq hsd (VU (h x hx))
 have:ls.length * 120<=120 * 120:=K7 _ hl
 omega
theorem wG:∀(hi lo:List Int),RM.leq hi lo=UF lo hi
 | [],[]=>rfl
 | [],_ :: _=>rfl
 | _ :: _,[]=>rfl
 | a :: hi,b :: lo=>by rw[RM.leq_cons,wG hi lo];rfl
theorem tq(sd:List Int):gP sd=RJ sd:=by
 unfold gP RJ
 have:∀lo∈jX sd,tN sd lo=(CG lo (sd.map λs=>s - 1)).map λhi=>(lo,hi):=λlo hlo=>by
  rw[tN,<- jK (VU hlo)]
  congr 2
  funext hi
  exact wG hi lo
 have gen:∀(l:List (List Int)),(∀x∈l,x∈jX sd)->l.flatMap (tN sd)=l.flatMap λlo=>(CG lo (sd.map λs=>s - 1)).map λhi=>(lo,hi):=by
  intro l
  induction l with
  | nil=>intro _;rfl
  | cons a l ih =>
   intro h
   rw[E2,E2,this a (h a A0),ih λx hx=>h x (u0 _ hx)]
 exact gen _ λ_ h=>h
theorem IZ{sd:List Int}{b:List Int×List Int}(h:b∈RJ sd):Bx b.1 b.2 sd:=by
 rw[<- tq]at h
 obtain⟨lo,hlo,hb⟩:=K3.mp h
 obtain⟨hi,hhi,rfl⟩:=K0.mp hb
 have:=P3.mp hhi
 exact iB (gK hlo) (gK this.1) this.2
theorem pY{sd lo hi:List Int}(h:Bx lo hi sd):(lo,hi)∈RJ sd:=by
 have gen:∀{sd lo hi:List Int},Bx lo hi sd->Wi lo sd/\Wi hi sd/\RM.leq hi lo=true:=by
  intro sd
  induction sd with
  | nil =>
   intro lo hi h
   cases lo with
   | nil=>cases hi with
    | nil=>exact ⟨trivial,trivial,rfl⟩
    | cons _ _=>exact h.elim
   | cons _ _=>cases hi<;>exact h.elim
  | cons s sd ih =>
   intro lo hi h
   cases lo with
   | nil=>cases hi<;>exact h.elim
   | cons x lo=>cases hi with
    | nil=>exact h.elim
    | cons y hi =>
     have h1:=h.1
     obtain⟨a,b,c⟩:=ih h.2
     refine ⟨⟨⟨h1.1,by omega⟩,a⟩,⟨⟨by omega,h1.2.2⟩,b⟩,?_⟩
     rw[RM.leq_cons,c,decide_eq_true h1.2.1];rfl
 obtain⟨a,b,c⟩:=gen h
 rw[<- tq]
 exact K3.mpr ⟨lo,TF a,K0.mpr ⟨hi,P3.mpr ⟨TF b,c⟩,rfl⟩⟩
section
variable {P:Program}{w:World}{K:q0}{mg:Str->Option Value}{base:Heap}
structure CalsAB(P:Program)(w:World)(K:q0)(mg:Str->Option Value)(base:Heap):Prop where
 all_places:Cal P w K mg base 3 "all_places" ["sides"] (eQ K RW)
 places_between:Cal P w K mg base 2 "places_between" ["low","high"] (eQ K RE)
 last_place:Cal P w K mg base 1 "last_place" ["sides"] (eQ K cw)
noncomputable def uq:Con:=λargs Q=>∃sd:List Int,args=[.fz (kQ sd)]/\S0 sd/\∀o,Q (.ow (.list ((RJ sd).map QX))) o
theorem iI:FnScope ["sides","boxes","low","high"] ["sides"] (fQ (top 12)):=⟨rfl,rfl,rfl,by decide +kernel,rfl,by decide +kernel,by decide +kernel⟩
theorem Fu{f:Addr}{fd:FuncData}(F:Fun K "all_boxes" "all_boxes" (top 12) f fd)(C:CalsAB P w K mg base):FnOk P w K mg base fZ 4 f fd ["sides"] (eQ K uq):=by
 have S:=iI
 refine YZ F S (λcdv A outer s H E hr=>(dQ (vQ (i:=1) S.nd rfl (Or.inl rfl) (zX bQ))
     (dQ (RX [2,3] PassesOwn.never rfl (nX rfl (QQ C.all_places (hr.mono (by first|decide|omega)) (aQ (wn 0) bQ))) (lQ (i:=2) S.nd rfl (Or.inl rfl)) (nQ (RX [3] PassesOwn.never rfl (nX rfl (QQ C.places_between (hr.mono (by first|decide|omega)) (aQ (wn 2) (aQ (wx (QQ C.last_place (hr.mono (by first|decide|omega)) (aQ (wn 0) bQ))) bQ)))) (lQ (i:=3) S.nd rfl (Or.inl rfl)) (nQ (uJ (Ly pZ rfl PySem.F.slot_list_append PySem.F.type_list_append SX (wn 1) (aQ (wx (EX (aQ (wx (wv 2)) (aQ (wx (wv 3)) bQ)))) bQ)))))))
     (nQ (fY (wn 1)))))) ?_ ?_
 ·rintro args Qd ⟨sd,rfl,_⟩;rfl
 ·rintro args Qd ⟨sd,rfl,hsd,q⟩
  have h3:=hsd.l3
  have hpl:=YW hsd
  refine ⟨qQ rfl,?_⟩
  refine ⟨sd,rfl,hsd,λo=>?_⟩
  refine PX (λrest ρ=>∃(dn:List (List Int×List Int)) (rs:List (List Int)),ρ=[some (.fz (kQ sd)),some (.ow (.list (dn.map QX))),none,none]/\rest=rs.map kQ/\(∀p∈rs,p∈jX sd)/\rs.length<=120/\(dn++rs.flatMap λlo=>(CG lo (sd.map λs=>s - 1)).map λhi=>(lo,hi))=RJ sd) ?_ ?_
   ⟨[],jX sd,rfl,rfl,λp h=>h,hpl,rfl⟩
  ·rintro d ds ρ ⟨dn,rs,rfl,er,hin,hl,he⟩ N hN
   cases rs with
   | nil=>cases er
   | cons lo rs =>
    cases er
    have hi:=VU (hin lo A0)
    have hb:=nq hsd hi
    have htot:(RJ sd).length<=14400:=rq hsd (jX sd) (λx h=>h) hpl
    refine ⟨sd,rfl,by omega,λo=>?_⟩
    refine ⟨lo,sd.map λs=>s - 1,rfl,by rw[i0,hi.len],by rw[hi.len];exact h3,gI hsd hi,?_,λo=>?_⟩
    ·have:=IX ((lo.zip (sd.map λs=>s - 1)).map λp=>mZ p.1 p.2) [[]]
     rw[E1,Q6]at this
     have h2:(DQ [[]] ((lo.zip (sd.map λs=>s - 1)).map λp=>mZ p.1 p.2)).length<=120:=hb
     omega
    refine PX (λrest ρ=>∃(d2:List (List Int×List Int)) (rh:List (List Int)),ρ=[some (.fz (kQ sd)),some (.ow (.list (d2.map QX))),some (.fz (kQ lo)),none]/\rest=rh.map kQ/\d2++rh.map (λhi=>(lo,hi))=dn++(CG lo (sd.map λs=>s - 1)).map λhi=>(lo,hi)) ?_ ?_
     ⟨dn,CG lo (sd.map λs=>s - 1),rfl,rfl,rfl⟩
    ·rintro d ds ρ ⟨d2,rh,rfl,er,he2⟩ M hM
     cases rh with
     | nil=>cases er
     | cons h rh =>
      cases er
      have hz:d2.length < 14401:=by
       have e1:=congrArg U4 he
       have e2:=congrArg U4 he2
       simp only[E2,M0,i0,K1]at e1 e2
       omega
      refine ⟨by rw[i0];exact N0 hz (by decide),?_⟩
      exact hM _ ⟨d2++[(lo,h)],rh,by rw[T2];rfl,rfl,by rw[<- he2];simp⟩
    ·rintro ρ ⟨d2,rh,rfl,er,he2⟩
     cases rh with
     | cons h rh=>cases er
     | nil =>
      rw[q5,P2]at he2
      subst he2
      refine hN _ ⟨_,rs,rfl,rfl,λp h=>hin p (u0 _ h),by simp at hl;omega,?_⟩
      rw[<- he,E2,Q2]
  ·rintro ρ ⟨dn,rs,rfl,er,hin,hl,he⟩
   cases rs with
   | cons h rs=>cases er
   | nil =>
    rw[v7,P2]at he
    subst he
    exact q _
end
theorem IJ(ss:List Int)(z:Int):(((ss++[z]).map n0).take (if (-1:Int) < 0 then ((-1:Int)+(((ss++[z]).map n0).length:Nat)).toNat else (-1:Int).toNat))=ss.map n0:=by
 rw[if_pos (by decide),i0,M0,E1,show ((-1:Int)+((ss.length+1:Nat):Int)).toNat=ss.length by omega,T2,List.take_append_of_le_length (by rw[i0];exact G0 _),E4 (by rw[i0];exact G0 _)]
theorem CZ(ss:List Int)(z:Int):if (-1:Int) < 0 then 1<=((ss++[z]).map n0).length else (-1:Int) < (((ss++[z]).map n0).length:Nat):=by
 rw[if_pos (by decide),i0,M0,E1];omega
theorem vq(ss:List Int)(z:Int):AY ((ss++[z]).map n0) (-1)=some (.int z):=by
 unfold AY QG
 rw[if_neg (by decide),i0,M0,E1,if_pos (by omega)]
 show ((ss++[z]).map n0)[((-1:Int)+((ss.length+1:Nat):Int)).toNat]?=_
 rw[show ((-1:Int)+((ss.length+1:Nat):Int)).toNat=ss.length by omega]
 simp
noncomputable def tO:PyData->PyData
 | .tuple [.int a,.int b]=>.bool (decide (0<=a)&&decide (a < b))
 | _=>.none
theorem Bw:∀{p sd:List Int},Wi p sd->((p.zip sd).map λq=>decide (0<=q.1)&&decide (q.1 < q.2)).all id=true
 | [],[],_=>rfl
 | [],_ :: _,h=>h.elim
 | _ :: _,[],h=>h.elim
 | x :: p,s :: sd,h=>by
  have:=Bw h.2
  simp only[S4,Z0,o9,id_eq,this,Bool.and_true]
  simp[h.1.1,h.1.2]
theorem lB:∀{sd lo hi:List Int},Bx lo hi sd->Wi lo sd/\Wi hi sd/\RM.leq hi lo=true
 | [],[],[],_=>⟨trivial,trivial,rfl⟩
 | s :: sd,x :: lo,y :: hi,h=>by
  have h1:=h.1
  obtain⟨a,b,c⟩:=lB h.2
  refine ⟨⟨⟨h1.1,by omega⟩,a⟩,⟨⟨by omega,h1.2.2⟩,b⟩,?_⟩
  rw[RM.leq_cons,c,decide_eq_true h1.2.1];rfl
 | [],[],_ :: _,h=>h.elim
 | [],_ :: _,z,h=>by cases z<;>exact h.elim
 | _ :: _,[],z,h=>by cases z<;>exact h.elim
 | _ :: _,_ :: _,[],h=>h.elim
noncomputable def wZ(n:Int):Int->List (Int×Int)->Bool
 | _,[]=>true
 | a,x :: xs=>if n < x.2\/x.2 < x.1+max a 0 then false else wZ n x.2 xs
section
variable {P:Program}{w:World}{K:q0}{mg:Str->Option Value}{base:Heap}
noncomputable def iP:Con:=λargs Q=>∃i:Int,args=[.fz (.int i)]/\∀o,Q (.fz (.bool true)) o
theorem uO:FnScope ["thing"] ["thing"] (fQ (top 1)):=⟨rfl,rfl,rfl,by decide +kernel,rfl,by decide +kernel,by decide +kernel⟩
theorem BM{f:Addr}{fd:FuncData}(F:Fun K "is_whole" "is_whole" (top 1) f fd)(T:Txt mg):FnOk P w K mg base fZ 1 f fd ["thing"] (eQ K iP):=by
 have S:=uO
 refine YZ F S (λcdv A outer s H E hr=>(nQ (yQ (JD (TV .int rfl T.isinstance_ T.int_ boot_int (wn 0)) (Qx (w_not (TV .bl rfl T.isinstance_ T.bool_ boot_bool (wn 0)))))))) ?_ ?_
 ·rintro args Qd ⟨i,rfl,_⟩;rfl
 ·rintro args Qd ⟨i,rfl,q⟩
  exact ⟨qQ rfl,q _⟩
structure CalsAW(P:Program)(w:World)(K:q0)(mg:Str->Option Value)(base:Heap):Prop where
 is_whole:Cal P w K mg base 1 "is_whole" ["thing"] (eQ K iP)
theorem Cw:∀l:List PyData,((l.map λ_=>true).all id)=true
 | []=>rfl
 | _ :: l=>by simp
theorem Dw(l:List PyData):(l.map λ_=>F7 true)=(l.map λ_=>true).map F7:=by rw[P0];rfl
noncomputable def vO:Con:=λargs Q=>∃(cl:List Int),args=[.fz (kQ cl),.fz (.int cl.length)]/\cl.length<=1000/\∀o,Q (.fz (.bool true)) o
theorem wO:FnScope ["thing","many"] ["thing","many"] (fQ (top 2)):=⟨rfl,rfl,rfl,by decide +kernel,rfl,by decide +kernel,by decide +kernel⟩
theorem CM{f:Addr}{fd:FuncData}(F:Fun K "are_wholes" "are_wholes" (top 2) f fd)(T:Txt mg)(C:CalsAW P w K mg base):FnOk P w K mg base fZ 2 f fd ["thing","many"] (eQ K vO):=by
 have S:=wO
 refine YZ F S (λcdv A outer s H E hr=>(dQ (jZ (Uw (dY (zK (QJ (TV .tup rfl T.isinstance_ T.tuple_ boot_tuple (wn 0)))) (PJ (dX sJ (uZ (K:=K) rfl hr.units) (wx (xQ NX (OQ (K:=K) rfl) T.len_ PySem.boot_len (aQ (wn 0) bQ))) (wn 1))))) (nQ (yQ cJ)) rX)
     (nQ (yQ (xQ bY (oZ (K:=K) rfl rfl) T.all_ boot_all (aQ (wx (fX rfl (own:=["number"]) (fr:=[]) (by kernel_rfl) (nX rfl (wv 0)) (λ_ _ _ _=>(lQ (i:=0) (by decide +kernel:Q1 (["number"]:List Str)) rfl (Or.inl rfl))) (λ_ _ _ _=>qV) (λ_ _ _ _=>(QQ C.is_whole (hr.mono (by first|decide|omega)) (aQ (wn 0) bQ))))) bQ)))))) ?_ ?_
 ·rintro args Qd ⟨cl,rfl,_⟩;rfl
 ·rintro args Qd ⟨cl,rfl,hl,q⟩
  refine ⟨qQ rfl,?_⟩
  refine TX (λh=>?_) (λh=>?_)
  ·have h:(!decide (((cl.map n0).length:Int)=(cl.length:Int)))=true:=h
   rw[i0]at h
   simp at h
  ·refine ⟨by rw[i0];exact EQ hl,bJ (λ_=>.bool true) ?_ ?_⟩
   ·intro d hd N hN
    obtain⟨i,_,rfl⟩:=K0.mp hd
    exact ⟨i,rfl,λo=>hN⟩
   ·refine ⟨_,Dw _,?_⟩
    rw[Cw]
    exact q _
structure CalsIP(P:Program)(w:World)(K:q0)(mg:Str->Option Value)(base:Heap):Prop where
 are_wholes:Cal P w K mg base 2 "are_wholes" ["thing","many"] (eQ K vO)
noncomputable def jP:Con:=λargs Q=>∃sd p:List Int,args=[.fz (kQ sd),.fz (kQ p)]/\S0 sd/\Wi p sd/\∀o,Q (.fz (.bool true)) o
theorem xO:FnScope ["sides","thing"] ["sides","thing"] (fQ (top 7)):=⟨rfl,rfl,rfl,by decide +kernel,rfl,by decide +kernel,by decide +kernel⟩
theorem DM{f:Addr}{fd:FuncData}(F:Fun K "is_place" "is_place" (top 7) f fd)(T:Txt mg)(C:CalsIP P w K mg base):FnOk P w K mg base fZ 3 f fd ["sides","thing"] (eQ K jP):=by
 have S:=xO
 refine YZ F S (λcdv A outer s H E hr=>(dQ (jZ (zK (QJ (QQ C.are_wholes (hr.mono (by first|decide|omega)) (aQ (wn 1) (aQ (wx (xQ NX (OQ (K:=K) rfl) T.len_ PySem.boot_len (aQ (wn 0) bQ))) bQ))))) (nQ (yQ cJ)) rX)
     (nQ (yQ (xQ bY (oZ (K:=K) rfl rfl) T.all_ boot_all (aQ (wx (fX rfl (own:=["number","side"]) (fr:=[]) (by kernel_rfl) (XJ rfl T.zip_ (aQ (wn 1) (aQ (wn 0) bQ))) (λ_ _ _ _=>(BZ rfl rfl (uQ (lQ (i:=0) (by decide +kernel:Q1 (["number","side"]:List Str)) rfl (Or.inl rfl)) (uQ (lQ (i:=1) (by decide +kernel:Q1 (["number","side"]:List Str)) rfl (Or.inl rfl)) DX)))) (λ_ _ _ _=>qV) (λ_ _ _ _=>(ID fH aW (wx gQ) (wn 0) (wn 1))))) bQ)))))) ?_ ?_
 ·rintro args Qd ⟨sd,p,rfl,_⟩;rfl
 ·rintro args Qd ⟨sd,p,rfl,hsd,hw,q⟩
  have h3:=hsd.l3
  have hl:=TW hw
  refine ⟨qQ rfl,?_⟩
  refine ⟨p,by show [Sl.fz (kQ p),Sl.fz (.int ((sd.map n0).length:Nat))]=_;rw[i0,hl],by omega,λo=>?_⟩
  have hz:=pX p sd
  refine ⟨by rw[hz,i0,L4];exact EQ (by omega),bJ tO ?_ ?_⟩
  ·intro d hd N hN
   rw[hz]at hd
   obtain⟨⟨a,b⟩,_,rfl⟩:=K0.mp hd
   refine ⟨rfl,?_⟩
   have hN:N (.bool (decide (0<=a)&&decide (a < b))) _:=hN
   refine TX (λh=>?_) (λh=>?_)
   ·have h:decide (0<=a)=true:=h
    rw[h,A7]at hN
    exact hN
   ·have h:¬decide (0<=a)=true:=h
    rw[i8.mpr h,J6]at hN
    exact hN
  ·rw[hz,P0]
   refine ⟨(p.zip sd).map λq=>decide (0<=q.1)&&decide (q.1 < q.2),by rw[P0];rfl,?_⟩
   rw[Bw hw]
   exact q _
structure CalsIB(P:Program)(w:World)(K:q0)(mg:Str->Option Value)(base:Heap):Prop where
 is_place:Cal P w K mg base 3 "is_place" ["sides","thing"] (eQ K jP)
noncomputable def kP:Con:=λargs Q=>∃(sd:List Int) (b:List Int×List Int),args=[.fz (kQ sd),.fz (QX b)]/\S0 sd/\Bx b.1 b.2 sd/\∀o,Q (.fz (.bool true)) o
theorem yO:FnScope ["sides","thing"] ["sides","thing"] (fQ (top 8)):=⟨rfl,rfl,rfl,by decide +kernel,rfl,by decide +kernel,by decide +kernel⟩
theorem EM{f:Addr}{fd:FuncData}(F:Fun K "is_box" "is_box" (top 8) f fd)(T:Txt mg)(C:CalsIB P w K mg base):FnOk P w K mg base fZ 4 f fd ["sides","thing"] (eQ K kP):=by
 have S:=yO
 refine YZ F S (λcdv A outer s H E hr=>(dQ (jZ (Uw (dY (zK (QJ (TV .tup rfl T.isinstance_ T.tuple_ boot_tuple (wn 1)))) (PJ (dX sJ (uZ (K:=K) rfl hr.units) (wx (xQ NX (OQ (K:=K) rfl) T.len_ PySem.boot_len (aQ (wn 1) bQ))) (wx gQ))))) (nQ (yQ cJ)) rX)
     (dQ (jZ (Uw (dY (zK (QJ (QQ C.is_place (hr.mono (by first|decide|omega)) (aQ (wn 0) (aQ (wx (BX rfl (wn 1) (wx gQ))) bQ))))) (PJ (zK (QJ (QQ C.is_place (hr.mono (by first|decide|omega)) (aQ (wn 0) (aQ (wx (BX rfl (wn 1) (wx gQ))) bQ)))))))) (nQ (yQ cJ)) rX)
     (nQ (yQ (xQ bY (oZ (K:=K) rfl rfl) T.all_ boot_all (aQ (wx (fX rfl (own:=["first","last"]) (fr:=[]) (by kernel_rfl) (XJ rfl T.zip_ (aQ (wx (BX rfl (wn 1) (wx gQ))) (aQ (wx (BX rfl (wn 1) (wx gQ))) bQ))) (λ_ _ _ _=>(BZ rfl rfl (uQ (lQ (i:=0) (by decide +kernel:Q1 (["first","last"]:List Str)) rfl (Or.inl rfl)) (uQ (lQ (i:=1) (by decide +kernel:Q1 (["first","last"]:List Str)) rfl (Or.inl rfl)) DX)))) (λ_ _ _ _=>qV) (λ_ _ _ _=>(Px Wu fH (wn 0) (wn 1))))) bQ))))))) ?_ ?_
 ·rintro args Qd ⟨sd,b,rfl,_⟩;rfl
 ·rintro args Qd ⟨sd,b,rfl,hsd,hb,q⟩
  have h3:=hsd.l3
  obtain⟨w1,w2,w3⟩:=lB hb
  have hl:=TW w1
  refine ⟨qQ rfl,?_⟩
  refine ⟨kQ b.1,rfl,sd,b.1,rfl,hsd,w1,λo=>?_⟩
  refine ⟨kQ b.2,rfl,sd,b.2,rfl,hsd,w2,λo=>?_⟩
  have hz:=pX b.1 b.2
  refine ⟨kQ b.1,rfl,kQ b.2,rfl,by rw[hz,i0,L4];exact EQ (by omega),bJ rO ?_ ?_⟩
  ·intro d hd N hN
   rw[hz]at hd
   obtain⟨⟨a,c⟩,_,rfl⟩:=K0.mp hd
   exact ⟨rfl,hN⟩
  ·rw[hz,P0]
   refine ⟨RM.leqs b.2 b.1,by unfold RM.leqs;rw[P0];rfl,?_⟩
   have e:(RM.leqs b.2 b.1).all id=true:=w3
   rw[e]
   exact q _
structure CalsIE(P:Program)(w:World)(K:q0)(mg:Str->Option Value)(base:Heap):Prop where
 is_box:Cal P w K mg base 4 "is_box" ["sides","thing"] (eQ K kP)
 are_wholes:Cal P w K mg base 2 "are_wholes" ["thing","many"] (eQ K vO)
noncomputable abbrev wV(x:(List Int×List Int)×List Int):PyData:=.tuple [QX x.1,kQ x.2]
noncomputable def lP:Con:=λargs Q=>∃(ss:List Int) (z:Int) (x:(List Int×List Int)×List Int),args=[.fz (kQ (ss++[z])),.fz (QX x.1),.fz (wV x)]/\S0 ss/\Bx x.1.1 x.1.2 ss/\(x.2.length:Int)=z/\z<=1000/\∀o,Q (.fz (.bool true)) o
theorem AO:FnScope ["sides","base","thing"] ["sides","base","thing"] (fQ (top 25)):=⟨rfl,rfl,rfl,by decide +kernel,rfl,by decide +kernel,by decide +kernel⟩
theorem GM{f:Addr}{fd:FuncData}(F:Fun K "is_entry" "is_entry" (top 25) f fd)(T:Txt mg)(C:CalsIE P w K mg base):FnOk P w K mg base fZ 5 f fd ["sides","base","thing"] (eQ K lP):=by
 have S:=AO
 refine YZ F S (λcdv A outer s H E hr=>(dQ (jZ (Uw (dY (zK (QJ (TV .tup rfl T.isinstance_ T.tuple_ boot_tuple (wn 2)))) (PJ (dX sJ (uZ (K:=K) rfl hr.units) (wx (xQ NX (OQ (K:=K) rfl) T.len_ PySem.boot_len (aQ (wn 2) bQ))) (wx gQ))))) (nQ (yQ cJ)) rX)
     (nQ (yQ (JD (QQ C.is_box (hr.mono (by first|decide|omega)) (aQ (wx (FU rfl (wn 0) (wx (BW (wx gQ))))) (aQ (wx (BX rfl (wn 2) (wx gQ))) bQ))) (JD (Px SH (zW (K:=K) rfl hr.units) (wx (BX rfl (wn 2) (wx gQ))) (wn 1)) (Qx (QQ C.are_wholes (hr.mono (by first|decide|omega)) (aQ (wx (BX rfl (wn 2) (wx gQ))) (aQ (wx (BX rfl (wn 0) (wx (BW (wx gQ))))) bQ)))))))))) ?_ ?_
 ·rintro args Qd ⟨ss,z,x,rfl,_⟩;rfl
 ·rintro args Qd ⟨ss,z,x,rfl,hsd,hb,hz,hz2,q⟩
  refine ⟨qQ rfl,?_⟩
  have nb:Nice 2 (QX x.1):=.tuple λd hd=>by
   have hd:d=kQ x.1.1\/d=kQ x.1.2:=by simpa using hd
   rcases hd with rfl|rfl
   ·exact Nice.tup _
   ·exact Nice.tup _
  refine ⟨CZ ss z,_,rfl,ss,x.1,by rw[IJ];rfl,hsd,hb,λo=>?_⟩
  refine ⟨_,rfl,nb.p,nb.p,nb.sh (by decide),nb.sh (by decide),ZJ _ nb.p,?_⟩
  have e:same (QX x.1) (QX x.1)=true:=same_self _
  refine TX (λh=>?_) (λh=>?_)
  ·refine ⟨_,rfl,_,vq ss z,x.2,by rw[<- hz];rfl,by omega,λo=>q _⟩
  ·exact absurd e h
noncomputable def mP:Con:=λargs Q=>∃(r bs:List Int) (n:Int),args=[.fz (.list (r.map n0)),.fz (kQ bs),.fz (.int n)]/\∀o,Q (.fz (.bool (wZ n 0 (r.zip bs)))) o
theorem BO:FnScope ["sums","bests","number","ahead","total","best"] ["sums","bests","number"] (fQ (top 26)):=⟨rfl,rfl,rfl,by decide +kernel,rfl,by decide +kernel,by decide +kernel⟩
theorem HM{f:Addr}{fd:FuncData}(F:Fun K "are_bests" "are_bests" (top 26) f fd)(T:Txt mg):FnOk P w K mg base fZ 1 f fd ["sums","bests","number"] (eQ K mP):=by
 have S:=BO
 refine YZ F S (λcdv A outer s H E hr=>(dQ (vQ (i:=3) S.nd rfl (Or.inl rfl) gQ)
     (dQ (RX [4,5] PassesOwn.never rfl (XJ rfl T.zip_ (aQ (wn 0) (aQ (wn 1) bQ))) (BZ rfl rfl (uQ (lQ (i:=4) S.nd rfl (Or.inl rfl)) (uQ (lQ (i:=5) S.nd rfl (Or.inl rfl)) DX))) (dQ (jZ (Uw (dY (dX ED bD (wn 5) (wn 2)) (PJ (dX RV aW (wn 5) (wx (w_bin NQ CQ (wn 4) (wx (xQ zx (BV rfl) T.max_ boot_max (aQ (wn 3) (aQ (wx gQ) bQ)))))))))) (nQ (yQ cJ)) rX)
     (nQ (xF (i:=3) S.nd rfl (Or.inl rfl) (wn 5)))))
     (nQ (yQ cJ))))) ?_ ?_
 ·rintro args Qd ⟨r,bs,n,rfl,_⟩;rfl
 ·rintro args Qd ⟨r,bs,n,rfl,q⟩
  refine ⟨qQ rfl,?_⟩
  have hz:=pX r bs
  show tJ _ _ _ _ (VJ (r.map n0) (bs.map n0)) _
  rw[hz]
  refine PX (λrest ρ=>∃(a:Int) (rs:List (Int×Int)),rest=rs.map (λp=>Z1 [.int p.1,.int p.2])/\ρ=[some (.fz (.list (r.map n0))),some (.fz (kQ bs)),some (.fz (.int n)),some (.fz (.int a)),none,none]/\wZ n a rs=wZ n 0 (r.zip bs)) ?_ ?_ ⟨0,_,rfl,rfl,rfl⟩
  ·rintro d ds ρ ⟨a,rs,er,rfl,he⟩ N hN
   cases rs with
   | nil=>cases er
   | cons x rs =>
    cases er
    refine ⟨rfl,?_⟩
    refine TX (λh=>?_) (λh=>?_)
    ·have h:n < x.2:=of_decide_eq_true h
     rw[<- he,wZ,if_pos (.inl h)]at q
     exact q _
    ·have h:¬n < x.2:=λz=>h (decide_eq_true z)
     refine TX (λh2=>?_) (λh2=>?_)
     ·have h2:x.2 < x.1+(if a < 0 then 0 else a):=of_decide_eq_true h2
      rw[<- he,wZ,if_pos (.inr (by omega))]at q
      exact q _
     ·have h2:¬x.2 < x.1+(if a < 0 then 0 else a):=λz=>h2 (decide_eq_true z)
      refine hN _ ⟨x.2,rs,rfl,rfl,?_⟩
      rw[<- he,wZ,if_neg (by omega)]
  ·rintro ρ ⟨a,rs,er,rfl,he⟩
   cases rs with
   | nil =>
    rw[wZ]at he
    rw[<- he]at q
    exact q _
   | cons _ _=>cases er
structure CalsSA(P:Program)(w:World)(K:q0)(mg:Str->Option Value)(base:Heap):Prop where
 sum_by_running:Cal P w K mg base 3 "sum_by_running" ["sides","table","box"] (eQ K XE)
noncomputable def XQ(ss cl:List Int)(z:Int)(b:List Int×List Int):List Int:=(rng z).map λt=>vX ((jX (ss++[z])).zip cl) (b.1++[t]) (b.2++[t])
noncomputable def nP(ss cl:List Int)(z:Int)(b:List Int×List Int):PyData->PyData
 | .int t=>.int (vX ((jX (ss++[z])).zip cl) (b.1++[t]) (b.2++[t]))
 | _=>.none
noncomputable def uN:Con:=λargs Q=>∃(ss cl:List Int) (z:Int) (b:List Int×List Int),args=[.fz (kQ (ss++[z])),.fz (.list ((DG (ss++[z]) cl).map n0)),.fz (QX b)]/\Sd (ss++[z])/\cl.length=(jX (ss++[z])).length/\Bx b.1 b.2 ss/\∀o,Q (.ow (.list ((XQ ss cl z b).map n0))) o
theorem CO:FnScope ["sides","running","base","low","high"] ["sides","running","base"] (fQ (top 20)):=⟨rfl,rfl,rfl,by decide +kernel,rfl,by decide +kernel,by decide +kernel⟩
theorem IM{f:Addr}{fd:FuncData}(F:Fun K "sums_along" "sums_along" (top 20) f fd)(T:Txt mg)(C:CalsSA P w K mg base):FnOk P w K mg base fZ 4 f fd ["sides","running","base"] (eQ K uN):=by
 have S:=CO
 refine YZ F S (λcdv A outer s H E hr=>(dQ (vQ (i:=3) S.nd rfl (Or.inr rfl) (BX rfl (wn 2) (wx gQ)))
     (dQ (vQ (i:=4) S.nd rfl (Or.inr rfl) (BX rfl (wn 2) (wx gQ)))
     (nQ (yQ (fX rfl (own:=["last"]) (fr:=[0,1,3,4]) (by kernel_rfl) (eY T.range_ (aQ (wx (BX rfl (wn 0) (wx (BW (wx gQ))))) bQ)) (λ_ _ _ _=>(lQ (i:=0) (by decide +kernel:Q1 (["last","sides","running","low","high"]:List Str)) rfl (Or.inl rfl))) (λ_ _ _ _=>qV) (λ_ _ _ _=>(QQ C.sum_by_running (hr.mono (by first|decide|omega)) (aQ (wn 1) (aQ (wn 2) (aQ (wx (EX (aQ (wx (w_bin NQ CQ (wn 3) (wx (EX (aQ (wx (wv 0)) bQ))))) (aQ (wx (w_bin NQ CQ (wn 4) (wx (EX (aQ (wx (wv 0)) bQ))))) bQ)))) bQ))))))))))) ?_ ?_
 ·rintro args Qd ⟨ss,cl,z,b,rfl,_⟩;rfl
 ·rintro args Qd ⟨ss,cl,z,b,rfl,hsd,hc,hb,q⟩
  have h3:=hsd.l3
  have hm:=hsd.m
  have hz1:=hsd.p z (by simp)
  have hz2:=dZ hsd.p z (by simp)
  have hbl:=iK hb
  have hpl:=HJ hsd.p
  rw[M0,E1]at h3
  refine ⟨qQ rfl,?_⟩
  refine ⟨_,rfl,_,rfl,_,vq ss z,by omega,by omega,by rw[AQ,i0,B4];exact EQ (by omega),?_⟩
  rw[OW]
  refine bJ (nP ss cl z b) ?_ ?_
  ·intro d hd N hN
   obtain⟨t,ht,rfl⟩:=K0.mp hd
   have ht:=dq ht
   have hbx:Bx (b.1++[t]) (b.2++[t]) (ss++[z]):=LK hb ⟨ht.1,S6 _,ht.2⟩
   have hN:N (.int (vX ((jX (ss++[z])).zip cl) (b.1++[t]) (b.2++[t]))) _:=hN
   rw[<- tG hsd.p hc hbx]at hN
   have hrl:(DG (ss++[z]) cl).length=(jX (ss++[z])).length:=by simp[DG,BJ hsd.p]
   have hl1:(b.1++[t]).length=ss.length+1:=by rw[M0,E1];omega
   have hl2:(b.2++[t]).length=ss.length+1:=by rw[M0,E1];omega
   refine ⟨by show (b.1.map n0).length+1<=sizeLine;rw[i0];exact EQ (by omega),by show (b.2.map n0).length+1<=sizeLine;rw[i0];exact EQ (by omega),?_⟩
   refine ⟨ss++[z],DG (ss++[z]) cl,b.1++[t],b.2++[t],_,?_,.inr rfl,by omega,by omega,by rw[M0,E1];omega,λs hs=>?_,λcs hcs=>?_,λo=>hN⟩
   ·show _=[Sl.fz _,.fz _,.fz (.tuple [.tuple ((b.1++[t]).map n0),.tuple ((b.2++[t]).map n0)])]
    rw[T2 (l₁:=b.1),T2 (l₁:=b.2)]
    rfl
   ·have h1:=hsd.p s hs
    have h2:=dZ hsd.p s hs
    omega
   ·have h1:=mw (WY hbx (nY hcs))
    exact fq h1.1 (by omega)
  ·have e3:((rng z).map n0).map (nP ss cl z b)=(XQ ss cl z b).map n0:=by
    rw[XQ,P0,P0];rfl
   rw[e3]
   exact q _
structure CalsHB(P:Program)(w:World)(K:q0)(mg:Str->Option Value)(base:Heap):Prop where
 all_boxes:Cal P w K mg base 4 "all_boxes" ["sides"] (eQ K uq)
 is_entry:Cal P w K mg base 5 "is_entry" ["sides","base","thing"] (eQ K lP)
 running_of:Cal P w K mg base 2 "running_of" ["field"] (eQ K UU)
 sums_along:Cal P w K mg base 4 "sums_along" ["sides","running","base"] (eQ K uN)
 are_bests:Cal P w K mg base 1 "are_bests" ["sums","bests","number"] (eQ K mP)
noncomputable def hold(ss cl:List Int)(z n:Int)(xs:List ((List Int×List Int)×List Int)):Bool:=xs.all λx=>wZ n 0 ((XQ ss cl z x.1).zip x.2)
structure Fld(ss cl:List Int)(z:Int):Prop where
 sd:Sd (ss++[z])
 s0:S0 ss
 c:cl.length=(jX (ss++[z])).length
theorem wq{ss cl:List Int}{z:Int}(h:Fld ss cl z):1<=z/\z<=120:=by
 have h1:=h.sd.p z (by simp)
 have h2:=dZ h.sd.p z (by simp)
 have:=h.sd.m
 omega
theorem kK(l:List Int):gk (.ow (.list (l.map n0)))=true:=by
 show noMutAll (l.map n0)=true
 induction l with
 | nil=>rfl
 | cons a l ih=>exact ih
noncomputable def DO(ss cl:List Int)(z n:Int):PyData->PyData
 | .tuple [.tuple [.tuple lo,.tuple hi],.tuple bs]=>.bool (wZ n 0 ((XQ ss cl z (lo.map unI,hi.map unI)).zip (bs.map unI)))
 | _=>.none
theorem Ew(ss cl:List Int)(z n:Int)(x:(List Int×List Int)×List Int):DO ss cl z n (wV x)=.bool (wZ n 0 ((XQ ss cl z x.1).zip x.2)):=by
 show F7 (wZ n 0 ((XQ ss cl z ((x.1.1.map n0).map unI,(x.1.2.map n0).map unI)).zip ((x.2.map n0).map unI)))=_
 rw[nZ,nZ,nZ]
theorem Fw:∀(xs:List ((List Int×List Int)×List Int)),VJ ((xs.map (·.1)).map QX) (xs.map wV)=xs.map λx=>Z1 [QX x.1,wV x]
 | []=>rfl
 | x :: xs=>by
  have:=Fw xs
  unfold VJ at this ⊢
  simp only[Z0,S4,this]
theorem OK{ss:List Int}(h:S0 ss):(RJ ss).length<=14400:=rq h (jX ss) (λx h=>h) (YW h)
noncomputable def oP:Con:=λargs Q=>∃(ss cl:List Int) (z n:Int) (xs:List ((List Int×List Int)×List Int)),args=[.fz (.tuple [kQ (ss++[z]),kQ cl]),.fz (.int n),.fz (.list (xs.map wV))]/\Fld ss cl z/\xs.map (·.1)=RJ ss/\(∀x∈xs,(x.2.length:Int)=z)/\∀o,Q (.fz (.bool (hold ss cl z n xs))) o
theorem EO:FnScope ["field","number","paper","sides","bases","running"] ["field","number","paper"] (fQ (top 24)):=⟨rfl,rfl,rfl,by decide +kernel,rfl,by decide +kernel,by decide +kernel⟩
theorem JM{f:Addr}{fd:FuncData}(F:Fun K "holds_bests" "holds_bests" (top 24) f fd)(T:Txt mg)(C:CalsHB P w K mg base):FnOk P w K mg base fZ 6 f fd ["field","number","paper"] (eQ K oP):=by
 have S:=EO
 refine YZ F S (λcdv A outer s H E hr=>(dQ (vQ (i:=3) S.nd rfl (Or.inr rfl) (BX rfl (wn 0) (wx gQ)))
     (dQ (vQ (i:=4) S.nd rfl (Or.inl rfl) (QQ C.all_boxes (hr.mono (by first|decide|omega)) (aQ (wx (FU rfl (wn 3) (wx (BW (wx gQ))))) bQ)))
     (dQ (jZ (Uw (dY (zK (QJ (TV .lst rfl T.isinstance_ T.list_ boot_list (wn 2)))) (PJ (dX sJ (uZ (K:=K) rfl hr.units) (wx (xQ NX (OQ (K:=K) rfl) T.len_ PySem.boot_len (aQ (wn 2) bQ))) (wx (xQ NX (OQ (K:=K) rfl) T.len_ PySem.boot_len (aQ (wn 4) bQ))))))) (nQ (yQ cJ)) rX)
     (dQ (jZ (zK (QJ (xQ bY (oZ (K:=K) rfl rfl) T.all_ boot_all (aQ (wx (fX rfl (own:=["base","entry"]) (fr:=[3]) (by kernel_rfl) (XJ rfl T.zip_ (aQ (wx (wv 4)) (aQ (wx (wv 2)) bQ))) (λ_ _ _ _=>(BZ rfl rfl (uQ (lQ (i:=0) (by decide +kernel:Q1 (["base","entry","sides"]:List Str)) rfl (Or.inl rfl)) (uQ (lQ (i:=1) (by decide +kernel:Q1 (["base","entry","sides"]:List Str)) rfl (Or.inl rfl)) DX)))) (λ_ _ _ _=>qV) (λ_ _ _ _=>(QQ C.is_entry (hr.mono (by first|decide|omega)) (aQ (wn 2) (aQ (wn 0) (aQ (wn 1) bQ))))))) bQ)))) (nQ (yQ cJ)) rX)
     (dQ (vQ (i:=5) S.nd rfl (Or.inr rfl) (QQ C.running_of (hr.mono (by first|decide|omega)) (aQ (wn 0) bQ)))
     (nQ (yQ (xQ bY (oZ (K:=K) rfl rfl) T.all_ boot_all (aQ (wx (fX rfl (own:=["base","bests"]) (fr:=[3,5,1]) (by kernel_rfl) (nX rfl (wv 2)) (λ_ _ _ _=>(BZ rfl rfl (uQ (lQ (i:=0) (by decide +kernel:Q1 (["base","bests","sides","running","number"]:List Str)) rfl (Or.inl rfl)) (uQ (lQ (i:=1) (by decide +kernel:Q1 (["base","bests","sides","running","number"]:List Str)) rfl (Or.inl rfl)) DX)))) (λ_ _ _ _=>qV) (λ_ _ _ _=>(QQ C.are_bests (hr.mono (by first|decide|omega)) (aQ (wx (jk C.sums_along (hr.mono (by first|decide|omega)) (aQ (wn 2) (aQ (wn 3) (aQ (wn 0) bQ))))) (aQ (wn 1) (aQ (wn 4) bQ))))))) bQ)))))))))) ?_ ?_
 ·rintro args Qd ⟨ss,cl,z,n,xs,rfl,_⟩;rfl
 ·rintro args Qd ⟨ss,cl,z,n,xs,rfl,hf,hx,hz,q⟩
  refine ⟨qQ rfl,?_⟩
  refine ⟨_,rfl,CZ ss z,ss,by rw[IJ];rfl,hf.s0,λo=>?_⟩
  have hlen:xs.length<=14400:=by
   have:=OK hf.s0
   rw[<- hx,i0]at this
   exact this
  have hm:=wq hf
  refine TX (λh=>?_) (λh=>?_)
  ·have h:(!decide (((xs.map wV).length:Int)=(((RJ ss).map QX).length:Int)))=true:=h
   rw[<- hx,i0,i0,i0]at h
   simp at h
  rw[<- hx]
  have hzp:=Fw xs
  refine ⟨by rw[hzp,i0];exact A1 hlen (by decide),?_⟩
  rw[hzp]
  refine bJ (λ_=>.bool true) ?_ ?_
  ·intro d hd N hN
   obtain⟨x,hxm,rfl⟩:=K0.mp hd
   have hb:Bx x.1.1 x.1.2 ss:=IZ (by rw[<- hx];exact K0.mpr ⟨x,hxm,rfl⟩)
   exact ⟨rfl,ss,z,x,rfl,hf.s0,hb,hz x hxm,by omega,λo=>hN⟩
  refine ⟨_,Dw _,?_⟩
  rw[Cw]
  refine TX (λh=>?_) (λh=>?_)
  ·exact absurd (show false=true from h) (by decide)
  refine ⟨ss++[z],cl,_,rfl,.inl rfl,hf.sd,hf.c,λo=>?_⟩
  refine ⟨by rw[i0];exact A1 hlen (by decide),bJ (DO ss cl z n) ?_ ?_⟩
  ·intro d hd N hN
   obtain⟨x,hxm,rfl⟩:=K0.mp hd
   have hb:Bx x.1.1 x.1.2 ss:=IZ (by rw[<- hx];exact K0.mpr ⟨x,hxm,rfl⟩)
   rw[Ew]at hN
   refine ⟨rfl,ss,cl,z,x.1,rfl,hf.sd,hf.c,hb,λo=>⟨kK _,?_⟩⟩
   exact ⟨_,x.2,n,rfl,λo=>hN⟩
  ·have e:(xs.map wV).map (DO ss cl z n)=(xs.map λx=>wZ n 0 ((XQ ss cl z x.1).zip x.2)).map F7:=by
    rw[P0,P0]
    exact G2 λx _=>Ew ss cl z n x
   refine ⟨_,e,?_⟩
   have e2:((xs.map λx=>wZ n 0 ((XQ ss cl z x.1).zip x.2)).all id)=hold ss cl z n xs:=by
    rw[hold,List.all_map];rfl
   rw[e2]
   exact q _
end
theorem Gw{X:Cx}{e:Expr}{te:TE}{pos:Pos}(he:WE X e te)(hs:swapsWith e none pos.line X.env=pure false:=by rfl):PS X (.Expr e pos) (sY te):=kU he.h hs
theorem Gu{X:Cx}{tg iter:Expr}{body:List Stmt}{wi:TI}{g:TG}{tb:TS}{pos:Pos}(hp:PassesOwn (model X.prog X.w) X.A X.env X.xe)(hc:X.calm=true)(hi:WI X tg iter wi)(hg:PG X tg g)(hb:PSs X body tb)
  (hs:∀x,foldedSetIterable iter X.env x=pure x:=by intro _;rfl):PS X (.For tg iter body [] pos) (Oq wi g tb):=qj hp hc hi.h hg hb hs
section
variable {P:Program}{w:World}{K:q0}{mg:Str->Option Value}{base:Heap}
noncomputable def mB:Con:=λargs Q=>∃(r:List Int) (n:Int),args=[.fz (.list (r.map n0)),.fz (.int n)]/\r.length<=120/\∀o,Q (.ow (.list ((FK r n r.length).map Oz))) o
theorem jI:FnScope ["sums","number","starts","total","found","last","one"] ["sums","number"] (fQ (top 30)):=⟨rfl,rfl,rfl,by decide +kernel,rfl,by decide +kernel,by decide +kernel⟩
theorem Hu{f:Addr}{fd:FuncData}(F:Fun K "runs_of" "runs_of" (top 30) f fd)(T:Txt mg):FnOk P w K mg base fZ 1 f fd ["sums","number"] (eQ K mB):=by
 have S:=jI
 refine YZ F S (λcdv A outer s H E hr=>(Gk (sZ (QK (i:=2) S.nd rfl (Or.inl rfl) (mD (mK SJ (cW (CJ SJ fJ)) kD) rfl rfl (by simp) (by simp))) (sZ (QK (i:=3) S.nd rfl (Or.inl rfl) SJ) (sZ (QK (i:=4) S.nd rfl (Or.inl rfl) (cW fJ)) (sZ (Gu PassesOwn.never rfl (AE rfl T.enumerate_ (aQ (wn 0) bQ)) (uD rfl rfl (ZY (lU (i:=5) S.nd rfl (Or.inr rfl)) (ZY (lU (i:=6) S.nd rfl (Or.inl rfl)) YF))) (sZ (QK (i:=3) S.nd rfl (Or.inl rfl) (rj op_add (pv 3) (pv 6))) (sZ (Gw (Ly wz rfl PySem.F.slot_list_extend PySem.F.type_list_extend Tq (wn 4) (aQ (wx (fX rfl (own:=["first"]) (fr:=[5]) (by kernel_rfl) (nX rfl (HE (nK hr) (wn 2) (w_bin FZ DZ (wn 3) (wn 1)) ⟨rfl,rfl,rfl,rfl⟩)) (λ_ _ _ _=>(lQ (i:=0) (by decide +kernel:Q1 (["first","last"]:List Str)) rfl (Or.inl rfl))) (λ_ _ _ _=>qV) (λ_ _ _ _=>(EX (aQ (wx (wv 0)) (aQ (wx (wv 1)) bQ)))))) bQ))) (jU (kU (Ru PySem.F.plainAttrs_list PySem.F.slot_list_append PySem.F.type_list_append SX (zk (pv 2) (pv 3) (cW fJ) ⟨rfl,rfl,rfl,rfl⟩) (CJ (rj op_add (pv 5) SJ) fJ) rfl rfl rfl)))))) (jU (IG (pv 4))))))))) ?_ ?_
 ·rintro args Qd ⟨r,n,rfl,_⟩;rfl
 ·rintro args Qd ⟨r,n,rfl,hr,q⟩
  exact ⟨qQ rfl,r,n,hr,rfl,λρ'=>q _⟩
end
theorem xG{x y:Int}{a b:List Int}(h:x < y):HT.lexLt (x :: a) (y :: b)=true:=by rw[HT.lexLt_cons,if_neg (by omega)];exact decide_eq_true h
theorem yG{x:Int}{a b:List Int}(h:HT.lexLt a b=true):HT.lexLt (x :: a) (x :: b)=true:=by rw[HT.lexLt_cons,if_pos rfl];exact h
theorem xq{l:List Int}{t:List (List Int)}(hl:l.Pairwise (· < ·))(ht:t.Pairwise λa b=>HT.lexLt a b=true):(l.flatMap λx=>t.map λq=>x :: q).Pairwise λa b=>HT.lexLt a b=true:=by
 rw[E6]
 refine ⟨λx _=>?_,hl.imp λ{x y} h a ha b hb=>?_⟩
 ·rw[X4]
  exact ht.imp λh=>yG h
 ·obtain⟨_,_,rfl⟩:=K0.mp ha
  obtain⟨_,_,rfl⟩:=K0.mp hb
  exact xG h
theorem kI(s:Int):(rng s).Pairwise (· < ·):=by
 have:=XY 0 (s - 1)
 rw[lY]at this
 exact this
theorem Hw:∀sd:List Int,(jX sd).Pairwise λa b=>HT.lexLt a b=true
 | []=>t6 _ _
 | s :: sd=>by rw[XW];exact xq (kI s) (Hw sd)
theorem Iw:∀{lo hi:List Int},lo.length=hi.length->(CG lo hi).Pairwise λa b=>HT.lexLt a b=true
 | [],[],_=>t6 _ _
 | l :: lo,h :: hi,e=>by rw[uG];exact xq (XY l h) (Iw (by simpa using e))
 | [],_ :: _,e=>by cases e
 | _ :: _,[],e=>by cases e
theorem Iu{a b:SY}(h:HT.lexLt a.1 b.1=true):uV a b=true:=by
 unfold uV
 rw[if_neg (λz=>by rw[z,SG.lex_wk.irr]at h;cases h)]
 exact h
theorem Jw(sd:List Int):(RJ sd).Pairwise λa b=>uV a b=true:=by
 unfold RJ
 rw[E6]
 refine ⟨λlo hlo=>?_,(Hw sd).imp λ{x y} h a ha b hb=>?_⟩
 ·rw[X4]
  have hw:=TW (gK hlo)
  refine (Iw (lo:=lo) (hi:=sd.map λs=>s - 1) (by rw[i0];exact hw)).imp λ{x y} h=>?_
  show uV (lo,x) (lo,y)=true
  unfold uV
  rw[if_pos rfl]
  exact h
 ·obtain⟨_,_,rfl⟩:=K0.mp ha
  obtain⟨_,_,rfl⟩:=K0.mp hb
  exact Iu h
theorem lI{a b:SY}(h:uV a b=true):uV b a=false:=by
 cases q:uV b a with
 | false=>rfl
 | true=>have:=ltB_wk.tr _ _ _ h q;rw[ltB_wk.irr]at this;cases this
noncomputable abbrev yq(sd cl:List Int):List Int×List Int->Int:=λb=>vX ((jX sd).zip cl) b.1 b.2
noncomputable def FG(sd cl:List Int)(n:Int):List (List Int×List Int):=(RJ sd).filter λb=>decide (yq sd cl b=n)
theorem Kw(sd cl:List Int)(n:Int):(FG sd cl n).Pairwise λa b=>uV a b=true:=(Jw sd).filter _
theorem Zz(sd cl:List Int)(n:Int):(FG sd cl n).Nodup:=(Kw sd cl n).imp λ{a b} h z=>by rw[z,ltB_wk.irr]at h;cases h
theorem aj(sd:List Int):(RJ sd).Nodup:=(Jw sd).imp λ{a b} h z=>by rw[z,ltB_wk.irr]at h;cases h
theorem MZ(ss cl:List Int)(z:Int)(b:List Int×List Int):(XQ ss cl z b).length=z.toNat:=by simp[XQ,GJ]
theorem PK:∀{lo p hi:List Int}{x y z:Int},lo.length=p.length->p.length=hi.length->MK (lo++[x]) (p++[y]) (hi++[z])=(MK lo p hi&&(decide (x<=y)&&decide (y<=z)))
 | [],[],[],x,y,z,_,_=>by simp[MK]
 | a :: lo,b :: p,c :: hi,x,y,z,h1,h2=>by
  have:=PK (lo:=lo) (p:=p) (hi:=hi) (x:=x) (y:=y) (z:=z) (by simpa using h1) (by simpa using h2)
  simp only[List.cons_append,MK,this,Bool.and_assoc]
 | [],[],_ :: _,_,_,_,_,h=>by simp at h
 | [],_ :: _,_,_,_,_,h,_=>by simp at h
 | _ :: _,[],_,_,_,_,h,_=>by simp at h
 | _ :: _,_ :: _,[],_,_,_,_,h=>by simp at h
theorem zq:∀{q ss:List Int}{z:Int},Wi q (ss++[z])->∃p y,q=p++[y]/\Wi p ss/\0<=y/\y < z
 | [],[],_,h=>h.elim
 | [y],[],z,h=>⟨[],y,rfl,trivial,h.1.1,h.1.2⟩
 | _ :: _ :: _,[],_,h=>h.2.elim
 | [],_ :: _,_,h=>h.elim
 | x :: q,s :: ss,z,h=>by
  obtain⟨p,y,rfl,h1,h2,h3⟩:=zq h.2
  exact ⟨x :: p,y,rfl,⟨h.1,h1⟩,h2,h3⟩
theorem Aq{α:Type}{f g h:α->Int}:∀{l:List α},(∀x∈l,f x=g x+h x)->(l.map f).sum=(l.map g).sum+(l.map h).sum
 | [],_=>rfl
 | x :: l,e=>by
  have:=Aq (l:=l) λy hy=>e y (u0 _ hy)
  simp only[Z0,Y5,this,e x A0]
  omega
theorem qY{rows:List (List Int×Int)}{ss lo hi:List Int}{z x y:Int}(hw:∀r∈rows,Wi r.1 (ss++[z]))(hb:Bx lo hi ss)(hxy:x<=y) :
  vX rows (lo++[x]) (hi++[y+1])=vX rows (lo++[x]) (hi++[y])+vX rows (lo++[y+1]) (hi++[y+1]):=by
 have hbl:=iK hb
 rw[NK,NK,NK]
 refine Aq λr hr=>?_
 obtain⟨p,t,e,hp,t0,t1⟩:=zq (hw r hr)
 have hpl:=TW hp
 rw[e,PK (by omega) (by omega),PK (by omega) (by omega),PK (by omega) (by omega)]
 cases MK lo p hi with
 | false=>rfl
 | true =>
  simp only[A7]
  by_cases h1:x<=t
  ·by_cases h2:t<=y
   ·rw[decide_eq_true h1,decide_eq_true h2,decide_eq_true (show t<=y+1 by omega),decide_eq_false (show ¬y+1<=t by omega)]
    simp
   ·by_cases h3:t<=y+1
    ·rw[decide_eq_true h1,decide_eq_false h2,decide_eq_true h3,decide_eq_true (show y+1<=t by omega)]
     simp
    ·rw[decide_eq_false h2,decide_eq_false h3]
     simp
  ·rw[decide_eq_false h1,decide_eq_false (show ¬y+1<=t by omega)]
   simp
theorem rY:∀{ss lo hi:List Int}{z:Int},Bx lo hi (ss++[z])->∃lo' x hi' y,lo=lo'++[x]/\hi=hi'++[y]/\Bx lo' hi' ss/\0<=x/\x<=y/\y < z
 | [],[x],[y],z,h=>⟨[],x,[],y,rfl,rfl,trivial,h.1.1,h.1.2.1,h.1.2.2⟩
 | [],[],hi,z,h=>by cases hi<;>exact h.elim
 | [],_ :: _,[],z,h=>h.elim
 | [],[_],_ :: _ :: _,z,h=>h.2.elim
 | [],_ :: _ :: _,_ :: hi,z,h=>by cases hi<;>exact h.2.elim
 | _ :: _,[],hi,z,h=>by cases hi<;>exact h.elim
 | _ :: _,_ :: _,[],z,h=>h.elim
 | s :: ss,a :: lo,b :: hi,z,h=>by
  obtain⟨lo',x,hi',y,rfl,rfl,h1,h2,h3,h4⟩:=rY (ss:=ss) (lo:=lo) (hi:=hi) h.2
  exact ⟨a :: lo',x,b :: hi',y,rfl,rfl,⟨h.1,h1⟩,h2,h3,h4⟩
theorem zG{ss cl:List Int}{z:Int}(b:List Int×List Int){i:Nat}(h:(i:Int) < z):(XQ ss cl z b)[i]?=some (vX ((jX (ss++[z])).zip cl) (b.1++[(i:Int)]) (b.2++[(i:Int)])):=by
 unfold XQ
 rw[X0,rng,X0,m9 (by omega)]
 rfl
theorem WU{ss cl:List Int}{z:Int}{b:List Int×List Int}(hb:Bx b.1 b.2 ss)(x:Nat):∀k:Nat,((x+k:Nat):Int) < z->Sm (XQ ss cl z b) (x+k+1) - Sm (XQ ss cl z b) x=vX ((jX (ss++[z])).zip cl) (b.1++[(x:Int)]) (b.2++[((x+k:Nat):Int)])
 | 0,h=>by
  have:=OU (zG (ss:=ss) (cl:=cl) b (i:=x) h)
  show Sm _ (x+1) - _=_
  rw[this]
  show _=vX ((jX (ss++[z])).zip cl) (b.1++[(x:Int)]) (b.2++[(x:Int)])
  omega
 | k+1,h=>by
  have ih:=WU (cl:=cl) (z:=z) hb x k (by omega)
  have h1:=OU (zG (ss:=ss) (cl:=cl) b (i:=x+k+1) (by omega))
  have h4:=qY (rows:=(jX (ss++[z])).zip cl) (ss:=ss) (z:=z) (x:=(x:Int)) (y:=((x+k:Nat):Int)) (λr hr=>gK (K4 (a:=r.1) (b:=r.2) hr).1) hb (by omega)
  have e:((x+(k+1):Nat):Int)=((x+k:Nat):Int)+1:=by omega
  have e2:((x+k+1:Nat):Int)=((x+k:Nat):Int)+1:=by omega
  rw[e,h4]
  rw[e2]at h1
  have e3:x+(k+1)+1=x+k+1+1:=by omega
  rw[e3,h1]
  omega
theorem mem_rns{r:List Int}{n:Int}{i x y:Nat}:(x,y)∈FK r n i ↔ y < i/\x<=y/\Sm r x=Sm r (y+1) - n:=by
 unfold FK IE
 rw[K3]
 constructor
 ·rintro⟨l,hl,h⟩
  obtain⟨j,hj,e⟩:=K0.mp h
  cases e
  obtain⟨h1,h2⟩:=P3.mp hj
  have h1:=B3.mp h1
  exact ⟨B3.mp hl,by omega,of_decide_eq_true h2⟩
 ·rintro⟨h1,h2,h3⟩
  exact ⟨y,B3.mpr h1,K0.mpr ⟨x,P3.mpr ⟨B3.mpr (by omega),decide_eq_true h3⟩,rfl⟩⟩
theorem bj(r:List Int)(n:Int)(i:Nat):(FK r n i).Nodup:=by
 unfold FK
 unfold Q1
 rw[E6]
 refine ⟨λl _=>?_,List.nodup_range.imp λ{a b} h x hx y hy z=>?_⟩
 ·unfold IE
  rw[X4]
  exact (List.nodup_range.filter _).imp λ{a b} h z=>h (by cases z;rfl)
 ·unfold IE at hx hy
  obtain⟨_,_,rfl⟩:=K0.mp hx
  obtain⟨_,_,rfl⟩:=K0.mp hy
  cases z
  exact h rfl
noncomputable def WF(ss cl:List Int)(z n:Int)(b:List Int×List Int):List (List Int×List Int):=(FK (XQ ss cl z b) n z.toNat).map λp=>(b.1++[(p.1:Int)],b.2++[(p.2:Int)])
noncomputable def mI(ss cl:List Int)(z n:Int):List (List Int×List Int):=(RJ ss).flatMap (WF ss cl z n)
theorem YY{a b:List Int}{x y:Int}(h:a++[x]=b++[y]):a=b/\x=y:=by
 have h1:=List.append_inj_left' h rfl
 have h2:=List.append_inj_right' h rfl
 exact ⟨h1,by simpa using h2⟩
theorem AG{ss cl:List Int}{z n:Int}(hz:0<=z):(mI ss cl z n).Perm (FG (ss++[z]) cl n):=by
 refine (X7 ?_ (Zz _ _ _)).mpr λb=>?_
 ·unfold mI Q1
  rw[E6]
  refine ⟨λb _=>?_,(aj ss).imp λ{a b} h x hx y hy q=>?_⟩
  ·unfold WF
   rw[X4]
   exact (bj _ _ _).imp λ{p q} h e=>h (by
     injection e with e1 e2
     have h1:=(YY e1).2
     have h2:=(YY e2).2
     exact Prod.ext (by omega) (by omega))
  ·unfold WF at hx hy
   obtain⟨_,_,rfl⟩:=K0.mp hx
   obtain⟨_,_,rfl⟩:=K0.mp hy
   injection q with q1 q2
   exact h (Prod.ext (YY q1).1 (YY q2).1)
 ·unfold mI FG
  rw[K3,P3]
  constructor
  ·rintro⟨c,hc,hb⟩
   unfold WF at hb
   obtain⟨⟨x,y⟩,hp,rfl⟩:=K0.mp hb
   obtain⟨h1,h2,h3⟩:=mem_rns.mp hp
   have hbx:=IZ hc
   obtain⟨k,rfl⟩:∃k,y=x+k:=⟨y - x,by omega⟩
   have hs:=WU (cl:=cl) hbx x k (z:=z) (by omega)
   refine ⟨pY (LK hbx ⟨by omega,by show (x:Int)<=((x+k:Nat):Int);omega,by show ((x+k:Nat):Int) < z;omega⟩),decide_eq_true ?_⟩
   show vX ((jX (ss++[z])).zip cl) (c.1++[(x:Int)]) (c.2++[((x+k:Nat):Int)])=n
   omega
  ·rintro⟨hb,he⟩
   have he:=of_decide_eq_true he
   obtain⟨lo,x,hi,y,e1,e2,hbx,x0,xy,yz⟩:=rY (IZ hb)
   obtain⟨b1,b2⟩:=b
   have e1:b1=lo++[x]:=e1
   have e2:b2=hi++[y]:=e2
   subst e1
   subst e2
   obtain⟨x',rfl⟩:=w6 x0
   obtain⟨k,rfl⟩:∃k:Nat,y=((x'+k:Nat):Int):=⟨(y - x').toNat,by omega⟩
   have hs:=WU (cl:=cl) (b:=(lo,hi)) hbx x' k yz
   refine ⟨(lo,hi),pY hbx,K0.mpr ⟨(x',x'+k),mem_rns.mpr ⟨by omega,by omega,?_⟩,rfl⟩⟩
   have he:vX ((jX (ss++[z])).zip cl) (lo++[(x':Int)]) (hi++[((x'+k:Nat):Int)])=n:=he
   have hs:Sm (XQ ss cl z (lo,hi)) (x'+k+1) - Sm (XQ ss cl z (lo,hi)) x'=vX ((jX (ss++[z])).zip cl) (lo++[(x':Int)]) (hi++[((x'+k:Nat):Int)]):=hs
   omega
theorem ZW{t u:qK}{E:DE}{ρ:Ev}(J:Ev->Prop)(h1:∀N:Ev->Prop,(∀ρ',J ρ'->N ρ')->t { nx:=N,rt:=E.rt,bk:=E.bk,ct:=E.ct } ρ)(h2:∀ρ',J ρ'->u E ρ'):sW t u E ρ:=h1 _ h2
theorem Ju{ss cl:List Int}{z n:Int}(hz:0<=z)(h:S0 (ss++[z])):(mI ss cl z n).length<=14400:=by
 rw[(AG hz).length_eq]
 exact A1 (O4 _ _) (OK h)
noncomputable abbrev g1(b:List Int×List Int):Nat×Nat->List Int×List Int:=λp=>(b.1++[(p.1:Int)],b.2++[(p.2:Int)])
section
variable {P:Program}{w:World}{K:q0}{mg:Str->Option Value}{base:Heap}
structure CalsAo(P:Program)(w:World)(K:q0)(mg:Str->Option Value)(base:Heap):Prop where
 all_boxes:Cal P w K mg base 4 "all_boxes" ["sides"] (eQ K uq)
 running_of:Cal P w K mg base 2 "running_of" ["field"] (eQ K UU)
 sums_along:Cal P w K mg base 4 "sums_along" ["sides","running","base"] (eQ K uN)
 runs_of:Cal P w K mg base 1 "runs_of" ["sums","number"] (eQ K mB)
noncomputable def FO:Con:=λargs Q=>∃(ss cl:List Int) (z n:Int),args=[.fz (.tuple [kQ (ss++[z]),kQ cl]),.fz (.int n)]/\Fld ss cl z/\∀o,Q (.ow (.list ((FG (ss++[z]) cl n).map QX))) o
theorem GO:FnScope ["field","number","sides","running","found","base","first","last"] ["field","number"] (fQ (top 29)):=⟨rfl,rfl,rfl,by decide +kernel,rfl,by decide +kernel,by decide +kernel⟩
theorem KM{f:Addr}{fd:FuncData}(F:Fun K "all_of" "all_of" (top 29) f fd)(T:Txt mg)(C:CalsAo P w K mg base):FnOk P w K mg base fZ 5 f fd ["field","number"] (eQ K FO):=by
 have S:=GO
 refine YZ F S (λcdv A outer s H E hr=>(dQ (vQ (i:=2) S.nd rfl (Or.inl rfl) (BX rfl (wn 0) (wx gQ)))
     (dQ (vQ (i:=3) S.nd rfl (Or.inl rfl) (QQ C.running_of (hr.mono (by first|decide|omega)) (aQ (wn 0) bQ)))
     (dQ (vQ (i:=4) S.nd rfl (Or.inl rfl) (zX bQ))
     (dQ (RX [5,6,7] PassesOwn.never rfl (nX rfl (QQ C.all_boxes (hr.mono (by first|decide|omega)) (aQ (wx (FU rfl (wn 2) (wx (BW (wx gQ))))) bQ))) (lQ (i:=5) S.nd rfl (Or.inl rfl)) (nQ (RX [6,7] PassesOwn.never rfl (nX rfl (QQ C.runs_of (hr.mono (by first|decide|omega)) (aQ (wx (jk C.sums_along (hr.mono (by first|decide|omega)) (aQ (wn 2) (aQ (wn 3) (aQ (wn 5) bQ))))) (aQ (wn 1) bQ)))) (BZ rfl rfl (uQ (lQ (i:=6) S.nd rfl (Or.inl rfl)) (uQ (lQ (i:=7) S.nd rfl (Or.inl rfl)) DX))) (nQ (uJ (Ly pZ rfl PySem.F.slot_list_append PySem.F.type_list_append SX (wn 4) (aQ (wx (EX (aQ (wx (w_bin NQ CQ (wx (BX rfl (wn 5) (wx gQ))) (wx (EX (aQ (wx (wv 6)) bQ))))) (aQ (wx (w_bin NQ CQ (wx (BX rfl (wn 5) (wx gQ))) (wx (EX (aQ (wx (wv 7)) bQ))))) bQ)))) bQ)))))))
     (nQ (yQ (xQ yk (bG rfl (Vx hr)) T.sorted_ boot_sorted (aQ (wn 4) bQ))))))))) ?_ ?_
 ·rintro args Qd ⟨ss,cl,z,n,rfl,_⟩;rfl
 ·rintro args Qd ⟨ss,cl,z,n,rfl,hf,q⟩
  refine ⟨qQ rfl,?_⟩
  have hm:=wq hf
  have hsd:=hf.sd
  have hfl:=Ju (cl:=cl) (n:=n) (show 0<=z by omega) hsd.s0
  refine ⟨_,rfl,?_⟩
  refine ⟨ss++[z],cl,_,rfl,.inl rfl,hsd,hf.c,λo=>?_⟩
  refine ⟨CZ ss z,ss,by rw[IJ];rfl,hf.s0,λo=>?_⟩
  refine PX (λrest ρ=>∃(dn rs:List (List Int×List Int)),dn++rs=RJ ss/\rest=rs.map QX/\ρ=[some (.fz (.tuple [kQ (ss++[z]),kQ cl])),some (.fz (.int n)),some (.fz (kQ (ss++[z]))),some (.ow (.list ((DG (ss++[z]) cl).map n0))),some (.ow (.list ((dn.flatMap (WF ss cl z n)).map QX))),none,none,none]) ?_ ?_ ⟨[],RJ ss,rfl,rfl,rfl⟩
  ·rintro d ds ρ ⟨dn,rs,hd,er,rfl⟩ N hN
   cases rs with
   | nil=>cases er
   | cons b rs =>
    cases er
    have hb:Bx b.1 b.2 ss:=IZ (by rw[<- hd];simp)
    have hbl:=iK hb
    have hl3:=hf.s0.l3
    have htot:(dn.flatMap (WF ss cl z n)).length+(FK (XQ ss cl z b) n z.toNat).length<=14400:=by
     have e:mI ss cl z n=dn.flatMap (WF ss cl z n)++(WF ss cl z n b++rs.flatMap (WF ss cl z n)):=by
      unfold mI
      rw[<- hd,J4,E2]
     rw[e,M0,M0]at hfl
     have e2:(WF ss cl z n b).length=(FK (XQ ss cl z b) n z.toNat).length:=by unfold WF;rw[i0]
     omega
    refine ⟨ss,cl,z,b,rfl,hsd,hf.c,hb,λo=>⟨kK _,?_⟩⟩
    refine ⟨XQ ss cl z b,n,rfl,by rw[MZ];omega,λo=>?_⟩
    rw[MZ]
    refine PX (λrest ρ=>∃(dp rp:List (Nat×Nat)),dp++rp=FK (XQ ss cl z b) n z.toNat/\rest=rp.map Oz/\ρ=[some (.fz (.tuple [kQ (ss++[z]),kQ cl])),some (.fz (.int n)),some (.fz (kQ (ss++[z]))),some (.ow (.list ((DG (ss++[z]) cl).map n0))),some (.ow (.list ((dn.flatMap (WF ss cl z n)++dp.map (g1 b)).map QX))),some (.fz (QX b)),none,none]) ?_ ?_ ⟨[],_,rfl,rfl,by rw[q5,P2];rfl⟩
    ·rintro d ds ρ ⟨dp,rp,hp,er,rfl⟩ M hM
     cases rp with
     | nil=>cases er
     | cons p rp =>
      cases er
      have hdl:dp.length < (FK (XQ ss cl z b) n z.toNat).length:=by rw[<- hp];simp
      refine ⟨rfl,_,rfl,?_⟩
      refine ⟨by show (b.1.map n0).length+1<=sizeLine;rw[i0];exact EQ (by omega),_,rfl,by show (b.2.map n0).length+1<=sizeLine;rw[i0];exact EQ (by omega),?_⟩
      refine ⟨by rw[i0,M0,i0];exact o4 (show (dn.flatMap (WF ss cl z n)).length+dp.length<=14400 by omega) (by decide),?_⟩
      refine hM _ ⟨dp++[p],rp,by rw[<- hp];simp,rfl,?_⟩
      rw[T2 (l₁:=dp),<- Q2,T2 (l₂:=[p].map (g1 b))]
      have e:[p].map (g1 b)=[(b.1++[(p.1:Int)],b.2++[(p.2:Int)])]:=rfl
      rw[e]
      have e2:[(b.1++[(p.1:Int)],b.2++[(p.2:Int)])].map QX=[.tuple [.tuple (b.1.map n0++[.int (p.1:Nat)]),.tuple (b.2.map n0++[.int (p.2:Nat)])]]:=by simp
      rw[e2]
      rfl
    ·rintro ρ ⟨dp,rp,hp,er,rfl⟩
     cases rp with
     | cons _ _=>cases er
     | nil =>
      rw[P2]at hp
      subst hp
      refine hN _ ⟨dn++[b],rs,by rw[<- hd];simp,rfl,?_⟩
      have e:(dn++[b]).flatMap (WF ss cl z n)=dn.flatMap (WF ss cl z n)++(FK (XQ ss cl z b) n z.toNat).map (g1 b):=by
       rw[J4,E2,v7,P2]
       rfl
      rw[e]
      rfl
  ·rintro ρ ⟨dn,rs,hd,er,rfl⟩
   cases rs with
   | cons _ _=>cases er
   | nil =>
    rw[P2]at hd
    subst hd
    refine ⟨mI ss cl z n,rfl,A1 hfl (by decide),λrows' p' s'=>?_⟩
    have e:rows'=FG (ss++[z]) cl n:=SG.sorted_uniq (λa b=>BE) (p'.trans (AG (by omega))) s' ((Kw _ _ _).imp λh=>lI h)
    rw[e]
    exact q _
structure CalsHo(P:Program)(w:World)(K:q0)(mg:Str->Option Value)(base:Heap):Prop where
 all_of:Cal P w K mg base 5 "all_of" ["field","number"] (eQ K FO)
noncomputable def pP:Con:=λargs Q=>∃(ss cl:List Int) (z n:Int),args=[.fz (.tuple [kQ (ss++[z]),kQ cl]),.fz (.int n)]/\Fld ss cl z/\∀o,Q (.fz (.int ((FG (ss++[z]) cl n).length:Nat))) o
theorem JO:FnScope ["field","number"] ["field","number"] (fQ (top 28)):=⟨rfl,rfl,rfl,by decide +kernel,rfl,by decide +kernel,by decide +kernel⟩
theorem LM{f:Addr}{fd:FuncData}(F:Fun K "how_many_of" "how_many_of" (top 28) f fd)(T:Txt mg)(C:CalsHo P w K mg base):FnOk P w K mg base fZ 6 f fd ["field","number"] (eQ K pP):=by
 have S:=JO
 refine YZ F S (λcdv A outer s H E hr=>(nQ (yQ (xQ NX (OQ (K:=K) rfl) T.len_ PySem.boot_len (aQ (wx (QQ C.all_of (hr.mono (by first|decide|omega)) (aQ (wn 0) (aQ (wn 1) bQ)))) bQ))))) ?_ ?_
 ·rintro args Qd ⟨ss,cl,z,n,rfl,_⟩;rfl
 ·rintro args Qd ⟨ss,cl,z,n,rfl,hf,q⟩
  refine ⟨qQ rfl,?_⟩
  refine ⟨ss,cl,z,n,rfl,hf,λo=>?_⟩
  refine (?_:Qd (.fz (.int (((FG (ss++[z]) cl n).map QX).length:Nat))) _)
  rw[i0]
  exact q _
end
noncomputable def MM(dn:List (List Int×Int))(z:Int)(b:List Int×List Int):List Int:=(rng z).map λt=>vX dn (b.1++[t]) (b.2++[t])
theorem Ku{z:Int}{i:Nat}(h:(i:Int) < z):(rng z)[i]?=some (i:Int):=by
 unfold rng
 rw[X0,m9 (by omega)]
 rfl
theorem XU(dn:List (List Int×Int)){z:Int}(b:List Int×List Int){i:Nat}(h:(i:Int) < z):(MM dn z b).getD i 0=vX dn (b.1++[(i:Int)]) (b.2++[(i:Int)]):=by
 rw[B1,MM,X0,Ku h]
 rfl
noncomputable def vN(bs:List Int):Nat->Int
 | 0=>0
 | j+1=>bs.getD j 0
theorem Bq{r bs:List Int}{j:Nat}(h1:j < r.length)(h2:j < bs.length):(r.zip bs).drop j=(r.getD j 0,bs.getD j 0) :: (r.zip bs).drop (j+1):=by
 rw[Y2 (by rw[L4];omega),List.getElem_zip]
 simp[B1,h1,h2]
theorem gU{n:Int}{r bs:List Int}(hl:r.length=bs.length)(h:wZ n 0 (r.zip bs)=true):∀j,j<=bs.length->wZ n (vN bs j) ((r.zip bs).drop j)=true
 | 0,_=>h
 | j+1,hj=>by
  have:=gU hl h j (by omega)
  rw[Bq (by omega) (by omega),wZ]at this
  split at this
  ·cases this
  ·exact this
theorem YU{n:Int}{r bs:List Int}(hl:r.length=bs.length)(h:wZ n 0 (r.zip bs)=true){j:Nat}(hj:j < bs.length):bs.getD j 0<=n/\r.getD j 0<=bs.getD j 0/\r.getD j 0+vN bs j<=bs.getD j 0:=by
 have:=gU hl h j (by omega)
 rw[Bq (by omega) hj,wZ]at this
 split at this
 ·cases this
 ·rename_i h2
  have h2:¬(n < bs.getD j 0\/bs.getD j 0 < r.getD j 0+max (vN bs j) 0):=h2
  omega
theorem Lu{ss cl lo hi:List Int}{z n:Int}{xs:List ((List Int×List Int)×List Int)}(hf:Fld ss cl z)(hx:xs.map (·.1)=RJ ss)(hxl:∀x∈xs,(x.2.length:Int)=z)(h:hold ss cl z n xs=true)(hb:Bx lo hi (ss++[z])) :
  vX ((jX (ss++[z])).zip cl) lo hi<=n:=by
 obtain⟨lo',x,hi',y,rfl,rfl,hb',x0,xy,yz⟩:=rY hb
 have hm:(lo',hi')∈xs.map (·.1):=by rw[hx];exact pY hb'
 obtain⟨e,he,hee⟩:=K0.mp hm
 have ha:wZ n 0 ((XQ ss cl z e.1).zip e.2)=true:=o6.mp h e he
 have hee:e.1=(lo',hi'):=hee
 rw[hee]at ha
 have hel:=hxl e he
 have hl:(XQ ss cl z (lo',hi')).length=e.2.length:=by rw[MZ];omega
 obtain⟨a,rfl⟩:=w6 x0
 have key:∀j:Nat,((a+j:Nat):Int) < z->vX ((jX (ss++[z])).zip cl) (lo'++[(a:Int)]) (hi'++[((a+j:Nat):Int)])<=e.2.getD (a+j) 0:=by
  intro j
  induction j with
  | zero =>
   intro hj
   have h1:=YU hl ha (j:=a) (by omega)
   have h2:=XU ((jX (ss++[z])).zip cl) (z:=z) (lo',hi') (i:=a) (by omega)
   have h2:(XQ ss cl z (lo',hi')).getD a 0=vX ((jX (ss++[z])).zip cl) (lo'++[(a:Int)]) (hi'++[(a:Int)]):=h2
   show vX ((jX (ss++[z])).zip cl) (lo'++[(a:Int)]) (hi'++[(a:Int)])<=e.2.getD a 0
   omega
  | succ j ih =>
   intro hj
   have h1:=YU hl ha (j:=a+(j+1)) (by omega)
   have h2:=XU ((jX (ss++[z])).zip cl) (z:=z) (lo',hi') (i:=a+(j+1)) hj
   have h2:(XQ ss cl z (lo',hi')).getD (a+(j+1)) 0=vX ((jX (ss++[z])).zip cl) (lo'++[((a+(j+1):Nat):Int)]) (hi'++[((a+(j+1):Nat):Int)]):=h2
   have h3:=ih (by omega)
   have h4:=qY (rows:=(jX (ss++[z])).zip cl) (ss:=ss) (z:=z) (x:=(a:Int)) (y:=((a+j:Nat):Int)) (λr hr=>gK (K4 (a:=r.1) (b:=r.2) hr).1) hb' (by omega)
   have h5:vN e.2 (a+(j+1))=e.2.getD (a+j) 0:=rfl
   have h6:((a+(j+1):Nat):Int)=((a+j:Nat):Int)+1:=by omega
   rw[h6]at h2 ⊢
   omega
 obtain⟨j,hj⟩:∃j:Nat,y=((a+j:Nat):Int):=⟨(y - a).toNat,by omega⟩
 rw[hj]
 have h1:=key j (by omega)
 have h2:=YU hl ha (j:=a+j) (by omega)
 omega
noncomputable def FM(f:List Int×List Int->Int)(P:List (List Int×List Int))(T:Int)(b:List Int×List Int):Prop:=∃i:Nat,P[i]?=some b/\T=f b/\∀(j:Nat) (c:List Int×List Int),P[j]?=some c->f c<=T/\(j < i->f c < T)
theorem FM.uniq{f:List Int×List Int->Int}{P:List (List Int×List Int)}{T T':Int}{b b':List Int×List Int}(h:FM f P T b)(k:FM f P T' b'):T=T'/\b=b':=by
 obtain⟨i,e1,e2,h⟩:=h
 obtain⟨j,k1,k2,k⟩:=k
 have u1:=h j b' k1
 have u2:=k i b e1
 have et:T=T':=by omega
 have:i=j:=by omega
 subst this
 rw[e1]at k1
 exact ⟨et,by cases k1;rfl⟩
theorem FM.ix{f:List Int×List Int->Int}{P:List (List Int×List Int)}{T:Int}(h1:T∈P.map f)(h2:∀y∈P.map f,y<=T):∃(j:Nat) (b:List Int×List Int),(P.map f)[j]?=some T/\(∀i:Nat,i < j->(P.map f)[i]?≠some T)/\P[j]?=some b/\FM f P T b:=by
 have hl:=List.idxOf_lt_length_of_mem h1
 have e1:(P.map f)[(P.map f).idxOf T]?=some T:=by
  rw[L0 hl,List.getElem_idxOf]
 have e2:∀i,i < (P.map f).idxOf T->(P.map f)[i]?≠some T:=λi hi e=>by
  have:=List.not_of_lt_findIdx (p:=λx=>x==T) (xs:=P.map f) (i:=i) hi
  obtain⟨q,e⟩:=W0.mp e
  rw[e]at this
  simp at this
 obtain⟨b,e3,e4⟩:∃b,P[(P.map f).idxOf T]?=some b/\f b=T:=by
  rw[X0,J3]at e1
  exact e1
 refine ⟨_,b,e1,e2,e3,_,e3,e4.symm,λj c e=>?_⟩
 have hc:(P.map f)[j]?=some (f c):=by rw[X0,e];rfl
 have:=h2 (f c) (Y1 hc)
 refine ⟨this,λhj=>?_⟩
 have:=e2 j hj
 rw[hc]at this
 have:f c≠T:=λz=>this (by rw[z])
 omega
theorem FM.fil{f:List Int×List Int->Int}{T:Int}:∀{P:List (List Int×List Int)}{b:List Int×List Int}{r:List (List Int×List Int)},(∀y∈P,f y<=T)->P.filter (λx=>decide (f x=T))=b :: r->FM f P T b
 | [],_,_,_,e=>by cases e
 | c :: P,b,r,h,e=>by
  by_cases z:f c=T
  ·rw[u6 (by simpa using z)]at e
   cases e
   refine ⟨0,rfl,z.symm,λj d e=>⟨h d (Y1 e),λq=>absurd q (by omega)⟩⟩
  ·rw[v6 (by simpa using z)]at e
   obtain⟨i,e1,e2,k⟩:=FM.fil (P:=P) (λy hy=>h y (u0 _ hy)) e
   refine ⟨i+1,e1,e2,λj d e=>?_⟩
   match j,e with
   | 0,e =>
    cases e
    have:=h c A0
    omega
   | j+1,e =>
    have:=k j d e
    omega
noncomputable def GG:Int->List Int->List Int
 | _,[]=>[]
 | a,x :: r=>(x+max a 0) :: GG (x+max a 0) r
theorem Cq:∀(a:Int) (r:List Int),(GG a r).length=r.length
 | _,[]=>rfl
 | a,x :: r=>by simp[GG,Cq _ r]
theorem Mu(ss cl:List Int){z:Int}(b:List Int×List Int){i:Nat}(h:(i:Int) < z):(XQ ss cl z b).getD i 0=vX ((jX (ss++[z])).zip cl) (b.1++[(i:Int)]) (b.2++[(i:Int)]):=XU _ b h
theorem Lw{ss cl:List Int}{z M:Int}{b:List Int×List Int}(hb:Bx b.1 b.2 ss)(h:∀c:List Int×List Int,Bx c.1 c.2 (ss++[z])->vX ((jX (ss++[z])).zip cl) c.1 c.2<=M):wZ M 0 ((XQ ss cl z b).zip (GG 0 (XQ ss cl z b)))=true:=by
 have hrl:=MZ ss cl z b
 have key:∀(n j:Nat) (a:Int),j+n=z.toNat->(a<=0\/∃i:Nat,∃y:Nat,i<=y/\j=y+1/\a=vX ((jX (ss++[z])).zip cl) (b.1++[(i:Int)]) (b.2++[(y:Int)]))->wZ M a (((XQ ss cl z b).drop j).zip (GG a ((XQ ss cl z b).drop j)))=true:=by
  intro n
  induction n with
  | zero =>
   intro j a hj _
   rw[Z6 (by omega)]
   rfl
  | succ n ih =>
   intro j a hj ha
   have hjl:j < (XQ ss cl z b).length:=by omega
   have hjz:(j:Int) < z:=by omega
   have ed:(XQ ss cl z b).drop j=(XQ ss cl z b).getD j 0 :: (XQ ss cl z b).drop (j+1):=by
    rw[Y2 hjl,B1,L0 hjl]
    rfl
   rw[ed,GG,S4,wZ]
   have hr:=Mu ss cl b hjz
   have nxt:∃i:Nat,i<=j/\(XQ ss cl z b).getD j 0+max a 0=vX ((jX (ss++[z])).zip cl) (b.1++[(i:Int)]) (b.2++[(j:Int)]):=by
    rcases ha with ha|⟨i,y,iy,rfl,ha⟩
    ·exact ⟨j,G0 _,by rw[hr];omega⟩
    ·by_cases q:a<=0
     ·exact ⟨y+1,G0 _,by rw[hr];omega⟩
     ·refine ⟨i,by omega,?_⟩
      have h4:=qY (rows:=(jX (ss++[z])).zip cl) (ss:=ss) (z:=z) (x:=(i:Int)) (y:=(y:Int)) (λr hr=>gK (K4 (a:=r.1) (b:=r.2) hr).1) hb (by omega)
      have e:((y+1:Nat):Int)=(y:Int)+1:=by omega
      rw[hr,e,h4]
      omega
   obtain⟨i,ij,ei⟩:=nxt
   have hle:=h (b.1++[(i:Int)],b.2++[(j:Int)]) (LK hb ⟨by omega,by omega,hjz⟩)
   have hle:vX ((jX (ss++[z])).zip cl) (b.1++[(i:Int)]) (b.2++[(j:Int)])<=M:=hle
   rw[if_neg (by show ¬(M < (XQ ss cl z b).getD j 0+max a 0\/(XQ ss cl z b).getD j 0+max a 0 < (XQ ss cl z b).getD j 0+max a 0);omega)]
   exact ih (j+1) _ (by omega) (.inr ⟨i,j,ij,rfl,ei⟩)
 have:=key z.toNat 0 0 (by omega) (.inl (S6 _))
 rw[T8]at this
 exact this
noncomputable def bV(ss cl:List Int)(z:Int):List ((List Int×List Int)×List Int):=(RJ ss).map λb=>(b,GG 0 (XQ ss cl z b))
theorem Nu(ss cl:List Int)(z:Int):(bV ss cl z).map (·.1)=RJ ss:=by
 unfold bV
 rw[P0]
 exact List.map_id' _
theorem Ou{ss cl:List Int}{z:Int}(h:0<=z):∀x∈bV ss cl z,(x.2.length:Int)=z:=λx hx=>by
 obtain⟨b,_,rfl⟩:=K0.mp hx
 show ((GG 0 (XQ ss cl z b)).length:Int)=z
 rw[Cq,MZ]
 omega
theorem Mw{ss cl:List Int}{z M:Int}(h:∀c:List Int×List Int,Bx c.1 c.2 (ss++[z])->vX ((jX (ss++[z])).zip cl) c.1 c.2<=M):hold ss cl z M (bV ss cl z)=true:=by
 unfold hold
 refine o6.mpr λx hx=>?_
 obtain⟨b,hb,rfl⟩:=K0.mp hx
 exact Lw (IZ hb) h
theorem FM.le{f:List Int×List Int->Int}{P:List (List Int×List Int)}{T:Int}{b c:List Int×List Int}(h:FM f P T b)(hc:c∈P):f c<=T:=by
 obtain⟨i,_,_,h⟩:=h
 obtain⟨j,hj,e⟩:=M3 hc
 exact (h j c (by rw[L0 hj,e])).1
theorem Dq:∀{sd:List Int},(∀c∈sd,1<=c)->Bx (sd.map λ_=>0) (sd.map λ_=>0) sd
 | [],_=>trivial
 | s :: sd,h=>⟨⟨S6 _,S6 _,by have:=h s A0;show (0:Int) < s;omega⟩,Dq λc hc=>h c (u0 _ hc)⟩
section
variable {P:Program}{w:World}{K:q0}{mg:Str->Option Value}{base:Heap}
noncomputable def qP:Con:=λargs Q=>∃r:List Int,args=[.fz (.list (r.map n0))]/\r.length<=1000/\∀o,Q (.fz (kQ (GG 0 r))) o
theorem KO:FnScope ["sums","bests","ahead","number"] ["sums"] (fQ (top 22)):=⟨rfl,rfl,rfl,by decide +kernel,rfl,by decide +kernel,by decide +kernel⟩
theorem NM{f:Addr}{fd:FuncData}(F:Fun K "least_bests" "least_bests" (top 22) f fd)(T:Txt mg):FnOk P w K mg base fZ 1 f fd ["sums"] (eQ K qP):=by
 have S:=KO
 refine YZ F S (λcdv A outer s H E hr=>(dQ (vQ (i:=1) S.nd rfl (Or.inl rfl) (zX bQ))
     (dQ (vQ (i:=2) S.nd rfl (Or.inl rfl) gQ)
     (dQ (RX [3] PassesOwn.never rfl (nX rfl (wv 0)) (lQ (i:=3) S.nd rfl (Or.inl rfl)) (dQ (vQ (i:=2) S.nd rfl (Or.inl rfl) (w_bin NQ CQ (wn 3) (wx (xQ zx (BV rfl) T.max_ boot_max (aQ (wn 2) (aQ (wx gQ) bQ))))))
     (nQ (uJ (Ly pZ rfl PySem.F.slot_list_append PySem.F.type_list_append SX (wn 1) (aQ (wx (wv 2)) bQ))))))
     (nQ (yQ (ZX OX (ZQ (K:=K) rfl) T.tuple_ boot_tuple (aQ (wn 1) bQ)))))))) ?_ ?_
 ·rintro args Qd ⟨r,rfl,_⟩;rfl
 ·rintro args Qd ⟨r,rfl,hr,q⟩
  refine ⟨qQ rfl,?_⟩
  refine PX (λrest ρ=>∃(suf bs:List Int) (a:Int),rest=suf.map n0/\bs++GG a suf=GG 0 r/\bs.length+suf.length=r.length/\ρ=[some (.fz (.list (r.map n0))),some (.ow (.list (bs.map n0))),some (.fz (.int a)),none]) ?_ ?_ ⟨r,[],0,rfl,rfl,by simp,rfl⟩
  ·rintro d ds ρ ⟨suf,bs,a,er,eb,hl,rfl⟩ N hN
   cases suf with
   | nil=>cases er
   | cons x suf =>
    cases er
    have em:(if (0:Int) > a then 0 else a)=max a 0:=by split<;>omega
    refine ⟨by rw[i0];exact N0 (show bs.length < 1000 by rw[K1]at hl;omega) (by decide),?_⟩
    refine hN _ ⟨suf,bs++[x+max a 0],x+max a 0,rfl,by rw[<- eb];simp[GG],by rw[M0,E1];rw[K1]at hl;omega,?_⟩
    rw[T2,<- em]
    rfl
  ·rintro ρ ⟨suf,bs,a,er,eb,_,rfl⟩
   have:suf=[]:=by cases suf with
    | nil=>rfl
    | cons=>cases er
   subst this
   have eb:bs=GG 0 r:=by rw[<- eb];simp[GG]
   rw[eb]
   exact q _
structure CalsBO(P:Program)(w:World)(K:q0)(mg:Str->Option Value)(base:Heap):Prop where
 all_boxes:Cal P w K mg base 4 "all_boxes" ["sides"] (eQ K uq)
 running_of:Cal P w K mg base 2 "running_of" ["field"] (eQ K UU)
 sum_by_running:Cal P w K mg base 3 "sum_by_running" ["sides","table","box"] (eQ K XE)
 sums_along:Cal P w K mg base 4 "sums_along" ["sides","running","base"] (eQ K uN)
 least_bests:Cal P w K mg base 1 "least_bests" ["sums"] (eQ K qP)
noncomputable def LO(rows:List (List Int×Int)):PyData->PyData
 | .tuple [.tuple lo,.tuple hi]=>.int (vX rows (lo.map unI) (hi.map unI))
 | _=>.none
theorem Nw(rows:List (List Int×Int))(b:List Int×List Int):LO rows (QX b)=.int (vX rows b.1 b.2):=by
 show n0 (vX rows ((b.1.map n0).map unI) ((b.2.map n0).map unI))=_
 rw[nZ,nZ]
noncomputable def MO(ss cl:List Int)(z:Int):PyData->PyData
 | .tuple [.tuple lo,.tuple hi]=>wV ((lo.map unI,hi.map unI),GG 0 (XQ ss cl z (lo.map unI,hi.map unI)))
 | _=>.none
theorem Ow(ss cl:List Int)(z:Int)(b:List Int×List Int):MO ss cl z (QX b)=wV (b,GG 0 (XQ ss cl z b)):=by
 show wV (((b.1.map n0).map unI,(b.2.map n0).map unI),_)=_
 rw[nZ,nZ]
noncomputable def rP:Con:=λargs Q=>∃(ss cl:List Int) (z:Int),args=[.fz (.tuple [kQ (ss++[z]),kQ cl])]/\Fld ss cl z/\∀(M:Int) (b:List Int×List Int) (o:Ev),FM (yq (ss++[z]) cl) (RJ (ss++[z])) M b->Q (.fz (.tuple [.int M,QX b,.list ((bV ss cl z).map wV)])) o
theorem NO:FnScope ["field","sides","running","boxes","sums","most","paper"] ["field"] (fQ (top 23)):=⟨rfl,rfl,rfl,by decide +kernel,rfl,by decide +kernel,by decide +kernel⟩
theorem OM{f:Addr}{fd:FuncData}(F:Fun K "best_of" "best_of" (top 23) f fd)(T:Txt mg)(C:CalsBO P w K mg base):FnOk P w K mg base fZ 5 f fd ["field"] (eQ K rP):=by
 have S:=NO
 refine YZ F S (λcdv A outer s H E hr=>(dQ (vQ (i:=1) S.nd rfl (Or.inr rfl) (BX rfl (wn 0) (wx gQ)))
     (dQ (vQ (i:=2) S.nd rfl (Or.inr rfl) (QQ C.running_of (hr.mono (by first|decide|omega)) (aQ (wn 0) bQ)))
     (dQ (vQ (i:=3) S.nd rfl (Or.inl rfl) (QQ C.all_boxes (hr.mono (by first|decide|omega)) (aQ (wn 1) bQ)))
     (dQ (yF (i:=4) S.nd rfl rfl rfl (own:=["box"]) (fr:=[1,2]) (by kernel_rfl) (nX rfl (wv 3)) (λ_ _ _ _=>(lQ (i:=0) (by decide +kernel:Q1 (["box","sides","running"]:List Str)) rfl (Or.inl rfl))) (λ_ _ _ _=>qV) (λ_ _ _ _=>(QQ C.sum_by_running (hr.mono (by first|decide|omega)) (aQ (wn 1) (aQ (wn 2) (aQ (wn 0) bQ))))))
     (dQ (vQ (i:=5) S.nd rfl (Or.inl rfl) (xQ pE (ck (K:=K) rfl rfl) T.max_ boot_max (aQ (wn 4) bQ)))
     (dQ (yF (i:=6) S.nd rfl rfl rfl (own:=["base"]) (fr:=[1,2]) (by kernel_rfl) (nX rfl (QQ C.all_boxes (hr.mono (by first|decide|omega)) (aQ (wx (FU rfl (wn 1) (wx (BW (wx gQ))))) bQ))) (λ_ _ _ _=>(lQ (i:=0) (by decide +kernel:Q1 (["base","sides","running"]:List Str)) rfl (Or.inl rfl))) (λ_ _ _ _=>qV) (λ_ _ _ _=>(EX (aQ (wx (wv 0)) (aQ (wx (QQ C.least_bests (hr.mono (by first|decide|omega)) (aQ (wx (jk C.sums_along (hr.mono (by first|decide|omega)) (aQ (wn 1) (aQ (wn 2) (aQ (wn 0) bQ))))) bQ))) bQ)))))
     (nQ (yQ (EX (aQ (wx (wv 5)) (aQ (wx (BX rfl (wn 3) (wx (Ly Nz rfl PySem.F.slot_list_index PySem.F.type_list_index Mz (wn 4) (aQ (wx (wv 5)) bQ))))) (aQ (wx (wv 6)) bQ))))))))))))) ?_ ?_
 ·rintro args Qd ⟨ss,cl,z,rfl,_⟩;rfl
 ·rintro args Qd ⟨ss,cl,z,rfl,hf,q⟩
  refine ⟨qQ rfl,?_⟩
  have hm:=wq hf
  have hsd:=hf.sd
  have hlen:=OK hsd.s0
  have hlen0:=OK hf.s0
  refine ⟨_,rfl,?_⟩
  refine ⟨ss++[z],cl,_,rfl,.inl rfl,hsd,hf.c,λo=>?_⟩
  refine ⟨ss++[z],rfl,hsd.s0,λo=>?_⟩
  refine ⟨by rw[i0];exact A1 hlen (by decide),bJ (LO ((jX (ss++[z])).zip cl)) ?_ ?_⟩
  ·intro d hd N hN
   obtain⟨b,hb,rfl⟩:=K0.mp hd
   have hbx:=IZ hb
   have hbl:=iK hbx
   rw[Nw,<- tG hsd.p hf.c hbx]at hN
   have hpl:=HJ hsd.p
   have hrl:(DG (ss++[z]) cl).length=(jX (ss++[z])).length:=by simp[DG,BJ hsd.p]
   have hl3:=hsd.l3
   refine ⟨ss++[z],DG (ss++[z]) cl,b.1,b.2,_,rfl,.inr rfl,by omega,by omega,by omega,λs hs=>?_,λcs hcs=>?_,λo=>⟨rfl,hN⟩⟩
   ·have h1:=hsd.p s hs
    have h2:=dZ hsd.p s hs
    have:=hsd.m
    omega
   ·have h1:=mw (WY hbx (nY hcs))
    exact fq h1.1 (by omega)
  have e1:((RJ (ss++[z])).map QX).map (LO ((jX (ss++[z])).zip cl))=((RJ (ss++[z])).map (yq (ss++[z]) cl)).map n0:=by
   rw[P0,P0]
   exact G2 λb _=>Nw _ b
  rw[e1]
  have hpos:0 < ((RJ (ss++[z])).map (yq (ss++[z]) cl)).length:=by
   rw[i0]
   exact List.length_pos_of_mem (pY (Dq hsd.p))
  refine ⟨_,rfl,hpos,λM m1 m2=>?_⟩
  refine ⟨CZ ss z,ss,by rw[IJ];rfl,hf.s0,λo=>?_⟩
  refine ⟨by rw[i0];exact A1 hlen0 (by decide),bJ (MO ss cl z) ?_ ?_⟩
  ·intro d hd N hN
   obtain⟨b,hb,rfl⟩:=K0.mp hd
   rw[Ow]at hN
   refine ⟨ss,cl,z,b,rfl,hsd,hf.c,IZ hb,λo=>⟨kK _,?_⟩⟩
   exact ⟨_,rfl,by rw[MZ];omega,λo=>hN⟩
  have e2:((RJ ss).map QX).map (MO ss cl z)=(bV ss cl z).map wV:=by
   unfold bV
   rw[P0,P0]
   exact G2 λb _=>Ow _ _ _ b
  rw[e2]
  obtain⟨j,b,j1,j2,j3,fm⟩:=FM.ix m1 m2
  refine ⟨_,j,rfl,j1,j2,_,KY (show ((RJ (ss++[z])).map QX)[j]?=some (QX b) by rw[X0,j3];rfl),?_⟩
  exact q M b _ fm
end
theorem nI(l:List PyData):(l.filter λ_=>false).map id=[]:=by simp
theorem nice_nil:Nice 1 (.list []):=.list λd hd=>by cases hd
theorem BG(p:List Int):Nice 1 (kQ p):=.tuple λd hd=>by obtain⟨i,_,rfl⟩:=K0.mp hd;exact .int 0 _
theorem Fq(b:List Int×List Int):Nice 2 (QX b):=.tuple λd hd=>by
 have hd:d=kQ b.1\/d=kQ b.2:=by simpa using hd
 rcases hd with rfl|rfl
 ·exact BG _
 ·exact BG _
theorem Pw(l:List (List Int×List Int)):Nice 3 (.list (l.map QX)):=.list λd hd=>by
 obtain⟨b,_,rfl⟩:=K0.mp hd
 exact Fq b
theorem oI(l:List PyData):SeqAt.noMix (.list l) (.list [])=true:=by
 cases l<;>simp[SeqAt.noMix,SeqAt.noMixAll]
section
variable {P:Program}{w:World}{K:q0}{mg:Str->Option Value}{base:Heap}
structure CalsRT(P:Program)(w:World)(K:q0)(mg:Str->Option Value)(base:Heap):Prop where
 law_places:Cal P w K mg base 1 "_law_places" ["_law_sides_here"] (eQ K VY)
 law_sum:Cal P w K mg base 2 "_law_sum" ["_law_rows","_law_box_here"] (eQ K yM)
 law_take:Cal P w K mg base 2 "_law_take" ["_law_state","_law_most"] (eQ K eU)
 law_box:Cal P w K mg base 3 "_law_box" ["_law_state","_law_sides_here"] (eQ K wM)
 best_of:Cal P w K mg base 5 "best_of" ["field"] (eQ K rP)
 all_of:Cal P w K mg base 5 "all_of" ["field","number"] (eQ K FO)
 how_many_of:Cal P w K mg base 6 "how_many_of" ["field","number"] (eQ K pP)
 holds_bests:Cal P w K mg base 6 "holds_bests" ["field","number","paper"] (eQ K oP)
noncomputable def Qw:Con:=λargs Q=>∃(ns:List Int) (k l:Int) (ss cl:List Int) (z:Int),args=[.io (mX ns k l),.fz (kQ (ss++[z])),.io (.list (cl.map n0))]/\0<=k/\0<=l/\Fld ss cl z /\
 ∀(k' l':Int) (x:Option Sl) (o:Ev),0<=k'->0<=l'->Q (.fz (.bool true)) (some (.io (mX ns k' l')) :: x :: some (.io (.list (cl.map n0))) :: o)
theorem Pu:FnScope ["_law_state","_law_sides_here","_law_cells_here","_law_field","_law_rows","_law_most","_law_box_here","_law_paper","_law_some","_law_more","_law_other","_law_total"] ["_law_state","_law_sides_here","_law_cells_here"] (fQ (top 44)):=⟨rfl,rfl,rfl,by decide +kernel,rfl,by decide +kernel,by decide +kernel⟩
theorem Rw{f:Addr}{fd:FuncData}(F:Fun K "_law_right" "_law_right" (top 44) f fd)(T:Txt mg)(C:CalsRT P w K mg base):FnOk P w K mg base fZ 8 f fd ["_law_state","_law_sides_here","_law_cells_here"] (eQ K Qw):=by
 have S:=Pu
 refine YZ F S (λcdv A outer s H E hr=>(dQ (vQ (i:=3) S.nd rfl (Or.inl rfl) (EX (aQ (wx (wv 1)) (aQ (wx (ZX OX (ZQ (K:=K) rfl) T.tuple_ boot_tuple (aQ (wn 2) bQ))) bQ))))
     (dQ (vQ (i:=4) S.nd rfl (Or.inr rfl) (VN rfl rfl T.list_ T.zip_ (aQ (wx (QQ C.law_places (hr.mono (by first|decide|omega)) (aQ (wn 1) bQ))) (aQ (wn 2) bQ))))
     (dQ (zF (QQ C.best_of (hr.mono (by first|decide|omega)) (aQ (wn 3) bQ)) (BZ rfl rfl (uQ (lQ (i:=5) S.nd rfl (Or.inr rfl)) (uQ (lQ (i:=6) S.nd rfl (Or.inl rfl)) (uQ (lQ (i:=7) S.nd rfl (Or.inl rfl)) DX)))))
     (dQ (vQ (i:=8) S.nd rfl (Or.inl rfl) (QQ C.all_of (hr.mono (by first|decide|omega)) (aQ (wn 3) (aQ (wn 5) bQ))))
     (dQ (jZ (Uw (dY (dX sJ (uZ (K:=K) rfl hr.units) (wx (QQ C.law_sum (hr.mono (by first|decide|omega)) (aQ (wn 4) (aQ (wn 6) bQ)))) (wn 5)) (dY (dX SH (zW (K:=K) rfl hr.units) (wn 8) (wx (zX bQ))) (dY (dX sJ (uZ (K:=K) rfl hr.units) (wx (BX rfl (wn 8) (wx gQ))) (wn 6)) (PJ (dX sJ (uZ (K:=K) rfl hr.units) (wx (QQ C.how_many_of (hr.mono (by first|decide|omega)) (aQ (wn 3) (aQ (wn 5) bQ)))) (wx (xQ NX (OQ (K:=K) rfl) T.len_ PySem.boot_len (aQ (wn 8) bQ))))))))) (nQ (yQ cJ)) rX)
     (dQ (jZ (dX sJ (uZ (K:=K) rfl hr.units) (wx (fX rfl (own:=["_law_one"]) (fr:=[4,5]) (by kernel_rfl) (nX rfl (wv 8)) (λ_ _ _ _=>(lQ (i:=0) (by decide +kernel:Q1 (["_law_one","_law_rows","_law_most"]:List Str)) rfl (Or.inl rfl))) (λ_ _ _ _=>bP (dX sJ (uZ (K:=K) rfl hr.units) (wx (QQ C.law_sum (hr.mono (by first|decide|omega)) (aQ (wn 1) (aQ (wn 0) bQ)))) (wn 2))) (λ_ _ _ _=>(wv 0)))) (wx (zX bQ))) (nQ (yQ cJ)) rX)
     (dQ (jZ (Uw (dY (dX GU gY (wx (QQ C.holds_bests (hr.mono (by first|decide|omega)) (aQ (wn 3) (aQ (wn 5) (aQ (wn 7) bQ))))) (wx cJ)) (PJ (dX GU gY (wx (QQ C.holds_bests (hr.mono (by first|decide|omega)) (aQ (wn 3) (aQ (wx (w_bin FZ DZ (wn 5) (wx gQ))) (aQ (wn 7) bQ))))) (wx cJ))))) (nQ (yQ cJ)) rX)
     (dQ (vQ (i:=9) S.nd rfl (Or.inl rfl) (w_bin NQ CQ (wx (w_bin NQ CQ (wn 5) (wx gQ))) (wx (iX C.law_take (hr.mono (by first|decide|omega)) (aQ (wn 0) (aQ (wx gQ) bQ))))))
     (dQ (jZ (Uw (dY (dX GU gY (wx (QQ C.holds_bests (hr.mono (by first|decide|omega)) (aQ (wn 3) (aQ (wn 9) (aQ (wn 7) bQ))))) (wx cJ)) (dY (dX sJ (uZ (K:=K) rfl hr.units) (wx (QQ C.all_of (hr.mono (by first|decide|omega)) (aQ (wn 3) (aQ (wn 9) bQ)))) (wx (zX bQ))) (PJ (dX sJ (uZ (K:=K) rfl hr.units) (wx (QQ C.how_many_of (hr.mono (by first|decide|omega)) (aQ (wn 3) (aQ (wn 9) bQ)))) (wx gQ)))))) (nQ (yQ cJ)) rX)
     (dQ (vQ (i:=10) S.nd rfl (Or.inl rfl) (iX C.law_box (hr.mono (by first|decide|omega)) (aQ (wn 0) (aQ (wn 1) bQ))))
     (dQ (vQ (i:=11) S.nd rfl (Or.inl rfl) (QQ C.law_sum (hr.mono (by first|decide|omega)) (aQ (wn 4) (aQ (wn 10) bQ))))
     (nQ (yQ (JD (Px Wu fH (wn 11) (wn 5)) (Qx (nM rfl (Vx hr) (wn 10) (wx (QQ C.all_of (hr.mono (by first|decide|omega)) (aQ (wn 3) (aQ (wn 11) bQ))))))))))))))))))))) ?_ ?_
 ·rintro args Qd ⟨ns,k,l,ss,cl,z,rfl,_⟩;rfl
 ·rintro args Qd ⟨ns,k,l,ss,cl,z,rfl,hk,hl,hf,q⟩
  have hsd:=hf.sd
  have hm:=hsd.m
  have h3:=hsd.l3
  have hpl:=HJ hsd.p
  have hc:=hf.c
  refine ⟨qQ rfl,?_⟩
  have ez:(((jX (ss++[z])).map kQ).zip (cl.map n0)).map (λp=>Z1 [p.1,p.2])=((jX (ss++[z])).zip cl).map EG:=cI _ _
  refine ZW (λρ=>ρ=[some (.io (mX ns k l)),some (.fz (kQ (ss++[z]))),some (.io (.list (cl.map n0))),some (.fz (.tuple [kQ (ss++[z]),kQ cl])),none,none,none,none,none,none,none,none]) (λN hN=>hN _ rfl) ?_
  rintro ρ rfl
  obtain⟨rows,erows⟩:∃rows,rows=(jX (ss++[z])).zip cl:=⟨_,rfl⟩
  have hrl:rows.length<=1000:=by rw[erows,L4];omega
  refine ZW (λρ=>ρ=[some (.io (mX ns k l)),some (.fz (kQ (ss++[z]))),some (.io (.list (cl.map n0))),some (.fz (.tuple [kQ (ss++[z]),kQ cl])),some (.ow (.list (rows.map EG))),none,none,none,none,none,none,none]) ?_ ?_
  ·intro N hN
   refine ⟨ss++[z],.inl rfl,hsd.p,by omega,hsd.l3,λo=>⟨_,_,rfl,rfl,?_⟩⟩
   rw[ez,<- erows]
   exact hN _ rfl
  rintro ρ rfl
  refine ZW (λρ=>∃(M:Int) (b:List Int×List Int),FM (yq (ss++[z]) cl) (RJ (ss++[z])) M b/\ρ=[some (.io (mX ns k l)),some (.fz (kQ (ss++[z]))),some (.io (.list (cl.map n0))),some (.fz (.tuple [kQ (ss++[z]),kQ cl])),some (.ow (.list (rows.map EG))),some (.fz (.int M)),some (.fz (QX b)),some (.fz (.list ((bV ss cl z).map wV))),none,none,none,none]) ?_ ?_
  ·intro N hN
   refine ⟨ss,cl,z,rfl,hf,λM b o hM=>⟨rfl,?_⟩⟩
   exact hN _ ⟨M,b,hM,rfl⟩
  rintro ρ ⟨M,b,hM,rfl⟩
  have bsE:∀c:List Int×List Int,vX rows c.1 c.2=yq (ss++[z]) cl c:=λc=>by rw[erows]
  have hbm:b∈RJ (ss++[z]):=by obtain⟨i,e,_⟩:=hM;exact Y1 e
  have hbM:yq (ss++[z]) cl b=M:=by obtain⟨i,_,e,_⟩:=hM;exact e.symm
  have leM:∀c∈RJ (ss++[z]),yq (ss++[z]) cl c<=M:=λc hc=>hM.le hc
  have blen:∀c∈RJ (ss++[z]),c.1.length<=1000:=λc hc=>by have:=iK (IZ hc);omega
  obtain⟨some_,es⟩:∃some_,some_=FG (ss++[z]) cl M:=⟨_,rfl⟩
  have hs0:∃r,some_=b :: r:=by
   rw[es]
   obtain⟨i,e1,e2,e3⟩:=hM
   cases e:FG (ss++[z]) cl M with
   | nil =>
    have:b∈FG (ss++[z]) cl M:=P3.mpr ⟨hbm,by simpa using hbM⟩
    rw[e]at this
    cases this
   | cons c r =>
    have h1:FM (yq (ss++[z]) cl) (RJ (ss++[z])) M c:=FM.fil (λy hy=>leM y hy) e
    have:=(FM.uniq h1 ⟨i,e1,e2,e3⟩).2
    rw[this]
    exact ⟨r,rfl⟩
  obtain⟨r,er⟩:=hs0
  have hsl:some_.length<=14400:=by
   rw[es]
   exact A1 (O4 _ _) (OK hsd.s0)
  have hsm:∀c∈some_,c∈RJ (ss++[z])/\yq (ss++[z]) cl c=M:=λc hc=>by
   rw[es]at hc
   have:=P3.mp hc
   exact ⟨this.1,by simpa using this.2⟩
  refine ZW (λρ=>ρ=[some (.io (mX ns k l)),some (.fz (kQ (ss++[z]))),some (.io (.list (cl.map n0))),some (.fz (.tuple [kQ (ss++[z]),kQ cl])),some (.ow (.list (rows.map EG))),some (.fz (.int M)),some (.fz (QX b)),some (.fz (.list ((bV ss cl z).map wV))),some (.ow (.list (some_.map QX))),none,none,none]) ?_ ?_
  ·intro N hN
   exact ⟨ss,cl,z,M,rfl,hf,λo=>hN _ (by rw[es];rfl)⟩
  rintro ρ rfl
  refine ZW (λρ=>ρ=[some (.io (mX ns k l)),some (.fz (kQ (ss++[z]))),some (.io (.list (cl.map n0))),some (.fz (.tuple [kQ (ss++[z]),kQ cl])),some (.ow (.list (rows.map EG))),some (.fz (.int M)),some (.fz (QX b)),some (.fz (.list ((bV ss cl z).map wV))),some (.ow (.list (some_.map QX))),none,none,none]) ?_ ?_
  ·intro N hN
   refine ⟨rows,b.1,b.2,rfl,hrl,blen b hbm,λo=>⟨rfl,?_⟩⟩
   rw[bsE,hbM]
   refine TX (λh=>absurd h (by simp)) (λ_=>?_)
   have n3:=Pw some_
   refine ⟨n3.p,nice_nil.p,n3.sh (by decide),nice_nil.sh (by decide),oI _,?_⟩
   have e0:same (.list (some_.map QX)) (.list [])=false:=by rw[er];rfl
   refine TX (λh=>?_) (λ_=>?_)
   ·have h:same (.list (some_.map QX)) (.list [])=true:=h
    rw[e0]at h
    cases h
   refine ⟨QX b,by rw[er];exact KY (j:=0) rfl,?_⟩
   have n2:=Fq b
   refine ⟨n2.p,n2.p,n2.sh (by decide),n2.sh (by decide),ZJ _ n2.p,TX (λh=>?_) (λ_=>?_)⟩
   ·have h:(!same (QX b) (QX b))=true:=h
    rw[same_self]at h
    cases h
   refine ⟨ss,cl,z,M,rfl,hf,λo=>?_⟩
   rw[<- es]
   refine TX (λh=>?_) (λ_=>hN _ rfl)
   have h:(!decide (((some_.length:Nat):Int)=((some_.map QX).length:Nat)))=true:=h
   rw[i0]at h
   simp at h
  rintro ρ rfl
  refine ZW (λρ=>∃x:Sl,ρ=[some (.io (mX ns k l)),some (.fz (kQ (ss++[z]))),some (.io (.list (cl.map n0))),some (.fz (.tuple [kQ (ss++[z]),kQ cl])),some (.ow (.list (rows.map EG))),some (.fz (.int M)),some (.fz (QX b)),some (.fz (.list ((bV ss cl z).map wV))),some (.fz (.list (some_.map QX))),none,none,none]) ?_ ?_
  ·intro N hN
   refine ⟨by rw[i0];exact A1 hsl (by decide),HL (λ_=>false) id ?_ ?_⟩
   ·intro d hd N1 N2 h1 h2
    obtain⟨c,hc,rfl⟩:=K0.mp hd
    obtain⟨c1,c2⟩:=hsm c hc
    refine ⟨rows,c.1,c.2,rfl,hrl,blen c c1,λo=>⟨rfl,?_⟩⟩
    rw[bsE,c2]
    refine TX (λh=>absurd h (by simp)) (λ_=>h2 rfl)
   rw[nI]
   refine ⟨nice_nil.p,nice_nil.p,nice_nil.sh (by decide),nice_nil.sh (by decide),rfl,?_⟩
   exact hN _ ⟨.fz .none,rfl⟩
  rintro ρ ⟨_,rfl⟩
  have hz0:=wq hf
  have lx1:=Nu ss cl z
  have lx2:=Ou (ss:=ss) (cl:=cl) (show 0<=z by omega)
  have hol:∀T,M<=T->hold ss cl z T (bV ss cl z)=true:=λT hT=>Mw λc hc=>F9 (leM c (pY hc)) hT
  have hol1:hold ss cl z (M - 1) (bV ss cl z)=false:=by
   cases e:hold ss cl z (M - 1) (bV ss cl z) with
   | false=>rfl
   | true =>
    have:=Lu hf lx1 lx2 e (IZ hbm)
    have e2:vX ((jX (ss++[z])).zip cl) b.1 b.2=M:=hbM
    omega
  refine ZW (λρ=>ρ=[some (.io (mX ns k l)),some (.fz (kQ (ss++[z]))),some (.io (.list (cl.map n0))),some (.fz (.tuple [kQ (ss++[z]),kQ cl])),some (.ow (.list (rows.map EG))),some (.fz (.int M)),some (.fz (QX b)),some (.fz (.list ((bV ss cl z).map wV))),some (.fz (.list (some_.map QX))),none,none,none]) ?_ ?_
  ·intro N hN
   refine ⟨ss,cl,z,M,bV ss cl z,rfl,hf,lx1,lx2,λo=>?_⟩
   rw[hol M (S6 _)]
   refine ⟨ss,cl,z,M - 1,bV ss cl z,rfl,hf,lx1,lx2,λo=>?_⟩
   rw[hol1]
   exact hN _ rfl
  rintro ρ rfl
  refine ZW (λρ=>∃(T k l:Int),M < T/\0<=k/\0<=l/\ρ=[some (.io (mX ns k l)),some (.fz (kQ (ss++[z]))),some (.io (.list (cl.map n0))),some (.fz (.tuple [kQ (ss++[z]),kQ cl])),some (.ow (.list (rows.map EG))),some (.fz (.int M)),some (.fz (QX b)),some (.fz (.list ((bV ss cl z).map wV))),some (.fz (.list (some_.map QX))),some (.fz (.int T)),none,none]) ?_ ?_
  ·intro N hN
   refine ⟨ns,k,l,_,rfl,hk,hl,by decide,by decide,λt k1 l1 _ t0 t1 hk1 hl1=>?_⟩
   exact hN _ ⟨M+1+t,k1,l1,by omega,hk1,hl1,rfl⟩
  rintro ρ ⟨T,k,l,hT,hk,hl,rfl⟩
  have hno:FG (ss++[z]) cl T=[]:=by
   unfold FG
   rw[J8]
   intro c hc
   have:=leM c hc
   simp
   omega
  refine ZW (λρ=>ρ=[some (.io (mX ns k l)),some (.fz (kQ (ss++[z]))),some (.io (.list (cl.map n0))),some (.fz (.tuple [kQ (ss++[z]),kQ cl])),some (.ow (.list (rows.map EG))),some (.fz (.int M)),some (.fz (QX b)),some (.fz (.list ((bV ss cl z).map wV))),some (.fz (.list (some_.map QX))),some (.fz (.int T)),none,none]) ?_ ?_
  ·intro N hN
   refine ⟨ss,cl,z,T,bV ss cl z,rfl,hf,lx1,lx2,λo=>?_⟩
   rw[hol T (by omega)]
   refine ⟨ss,cl,z,T,rfl,hf,λo=>?_⟩
   rw[hno]
   refine ⟨nice_nil.p,nice_nil.p,nice_nil.sh (by decide),nice_nil.sh (by decide),rfl,?_⟩
   refine ⟨ss,cl,z,T,rfl,hf,λo=>?_⟩
   rw[hno]
   exact hN _ rfl
  rintro ρ rfl
  refine ZW (λρ=>∃(c:List Int×List Int) (k l:Int),Bx c.1 c.2 (ss++[z])/\0<=k/\0<=l/\ρ=[some (.io (mX ns k l)),some (.fz (kQ (ss++[z]))),some (.io (.list (cl.map n0))),some (.fz (.tuple [kQ (ss++[z]),kQ cl])),some (.ow (.list (rows.map EG))),some (.fz (.int M)),some (.fz (QX b)),some (.fz (.list ((bV ss cl z).map wV))),some (.fz (.list (some_.map QX))),some (.fz (.int T)),some (.fz (QX c)),none]) ?_ ?_
  ·intro N hN
   exact ⟨ns,k,l,ss++[z],rfl,hk,hl,hsd,λc k1 l1 _ hc hk1 hl1=>hN _ ⟨c,k1,l1,hc,hk1,hl1,rfl⟩⟩
  rintro ρ ⟨c,k,l,hcb,hk,hl,rfl⟩
  have hcm:=pY hcb
  refine ZW (λρ=>ρ=[some (.io (mX ns k l)),some (.fz (kQ (ss++[z]))),some (.io (.list (cl.map n0))),some (.fz (.tuple [kQ (ss++[z]),kQ cl])),some (.ow (.list (rows.map EG))),some (.fz (.int M)),some (.fz (QX b)),some (.fz (.list ((bV ss cl z).map wV))),some (.fz (.list (some_.map QX))),some (.fz (.int T)),some (.fz (QX c)),some (.fz (.int (yq (ss++[z]) cl c)))]) ?_ ?_
  ·intro N hN
   refine ⟨rows,c.1,c.2,rfl,hrl,blen c hcm,λo=>⟨rfl,?_⟩⟩
   rw[bsE]
   exact hN _ rfl
  rintro ρ rfl
  refine TX (λ_=>?_) (λh=>absurd (decide_eq_true (leM c hcm)) h)
  refine ⟨ss,cl,z,_,rfl,hf,λo=>?_⟩
  refine ⟨c,FG (ss++[z]) cl (yq (ss++[z]) cl c),rfl,rfl,?_⟩
  have hin:c∈FG (ss++[z]) cl (yq (ss++[z]) cl c):=P3.mpr ⟨hcm,by simp⟩
  refine (?_:Qd (.fz (.bool (decide (c∈FG (ss++[z]) cl (yq (ss++[z]) cl c))))) _)
  rw[decide_eq_true hin]
  exact q _ _ _ _ hk hl
end
section
variable {P:Program}{w:World}{K:q0}{mg:Str->Option Value}{base:Heap}
structure CalsL(P:Program)(w:World)(K:q0)(mg:Str->Option Value)(base:Heap):Prop where
 law_begin:Cal P w K mg base 1 "_law_begin" ["_law_script"] (eQ K Pk)
 law_take:Cal P w K mg base 2 "_law_take" ["_law_state","_law_most"] (eQ K eU)
 law_number:Cal P w K mg base 3 "_law_number" ["_law_state"] (eQ K RU)
 law_sides:Cal P w K mg base 3 "_law_sides" ["_law_state","_law_most"] (eQ K Vk)
 law_cells:Cal P w K mg base 4 "_law_cells" ["_law_state","_law_many"] (eQ K Tk)
 law_places:Cal P w K mg base 1 "_law_places" ["_law_sides_here"] (eQ K VY)
 law_right:Cal P w K mg base 8 "_law_right" ["_law_state","_law_sides_here","_law_cells_here"] (eQ K Qw)
noncomputable def Sw:Con:=λargs Q=>∃ns:List Int,args=[.fz (pK ns)]/\ns.length<=63/\∀o,Q (.fz (.bool true)) o
theorem Qu{K:q0}{H:Hp}{a:Addr}{ns:List Int}(hl:ns.length<=63)(h:SqL K H a (ns.map V.int)):eQ K Sw [.ref a] H (λv _=>v=.bl true) λ_ _ _=>False:=by
 refine ⟨⟨H,H,λ_=>none⟩,H,[.fz (pK ns)],λr _=>r=.fz (.bool true),?_,⟨ns,rfl,hl,λ_=>rfl⟩,?_⟩
 ·refine ⟨rfl,Sub.refl _,Sub.refl _,λa o h=>.inl h,λa o h _=>h,?_,?_,?_,?_,?_,?_⟩
  ·intro i d e
   cases i with
   | zero=>cases e;exact ⟨_,rfl,.scr h⟩
   | succ i=>cases e
  ·intro i s e w
   cases i with
   | zero=>cases e;cases w
   | succ i=>cases e
  ·intro i d a e
   cases i with
   | zero=>cases e
   | succ i=>cases e
  ·intro i a e;cases e
  ·intro i d e
   cases i with
   | zero=>cases e
   | succ i=>cases e
  ·intro i j s t a e w
   cases i with
   | zero=>cases e;cases w
   | succ i=>cases e
 ·intro v H' F' r ρ' _ _ hr e
  subst e
  have hr:Da K F' v (.bool true):=hr
  cases hr
  rfl
theorem PM:FnScope ["_law_script","_law_state","_law_sides_here","_law_cells_here","_law_turn"] ["_law_script"] (fQ (top 45)):=⟨rfl,rfl,rfl,by decide +kernel,rfl,by decide +kernel,by decide +kernel⟩
theorem pI{f:Addr}{fd:FuncData}(F:Fun K "law" "law" (top 45) f fd)(T:Txt mg)(C:CalsL P w K mg base):FnOk P w K mg base fZ 9 f fd ["_law_script"] (eQ K Sw):=by
 have S:=PM
 refine YZ F S (λcdv A outer s H E hr=>(dQ (vQ (i:=1) S.nd rfl (Or.inl rfl) (QQ C.law_begin (hr.mono (by first|decide|omega)) (aQ (wn 0) bQ)))
     (dQ (vQ (i:=2) S.nd rfl (Or.inl rfl) (iX C.law_sides (hr.mono (by first|decide|omega)) (aQ (wn 1) (aQ (wx gQ) bQ))))
     (dQ (vQ (i:=3) S.nd rfl (Or.inl rfl) (iX C.law_cells (hr.mono (by first|decide|omega)) (aQ (wn 1) (aQ (wx (xQ NX (OQ (K:=K) rfl) T.len_ PySem.boot_len (aQ (wx (QQ C.law_places (hr.mono (by first|decide|omega)) (aQ (wn 2) bQ))) bQ))) bQ))))
     (dQ (RX [4] PassesOwn.never rfl (eY T.range_ (aQ (wx (w_bin NQ CQ (wx gQ) (wx (iX C.law_take (hr.mono (by first|decide|omega)) (aQ (wn 1) (aQ (wx gQ) bQ)))))) bQ)) (lQ (i:=4) S.nd rfl (Or.inl rfl)) (dQ (jZ (dX ED bD (wn 4) (wx gQ)) (nQ (JL (iX C.law_number (hr.mono (by first|decide|omega)) (aQ (wn 1) bQ)) (wn 3) (wx (iX C.law_take (hr.mono (by first|decide|omega)) (aQ (wn 1) (aQ (wx (xQ NX (OQ (K:=K) rfl) T.len_ PySem.boot_len (aQ (wn 3) bQ))) bQ)))))) rX)
     (nQ (jZ (zK (QJ (qE C.law_right (hr.mono (by first|decide|omega)) (aQ (wn 1) (aQ (wn 2) (aQ (wn 3) bQ)))))) (nQ (yQ cJ)) rX))))
     (nQ (yQ cJ))))))) ?_ ?_
 ·rintro args Qd ⟨ns,rfl,_⟩;rfl
 ·rintro args Qd ⟨ns,rfl,hn,q⟩
  refine ⟨qQ rfl,?_⟩
  refine ⟨ns,rfl,λo=>?_⟩
  refine ⟨ns,0,0,30,rfl,by decide,by decide,by decide,by decide,λsd k1 l1 _ hsd hpm hk1 hl1=>?_⟩
  have h120:=hsd.m
  have h3:=hsd.l3
  obtain⟨ss,z,rfl⟩:∃ss z,sd=ss++[z]:=by
   rcases R8 sd with e|⟨a,b,e⟩
   ·have:=hsd.l1;rw[e]at this;cases this
   ·exact ⟨a,b,by simpa using e⟩
  have hs0:S0 ss:=by
   refine ⟨by rw[M0]at h3;omega,λc hc=>hsd.p c (by simp[hc]),?_⟩
   have h1:=prodI_append ss [z]
   have h2:prodI [z]=z * 1:=rfl
   have h4:=hsd.p z (by simp)
   have h5:=HX (l:=ss) λc hc=>hsd.p c (by simp[hc])
   rw[h2,B7]at h1
   have h6:=W2 h4 (show (0:Int)<=prodI ss by omega)
   omega
  have h1:=hsd.l1
  have hpl:=HJ hsd.p
  have hpos:=HX hsd.p
  have hkm:((jX (ss++[z])).map kQ).length=(jX (ss++[z])).length:=i0 ..
  refine ⟨ss++[z],.inl rfl,hsd.p,by omega,hsd.l3,λo=>?_⟩
  refine ⟨ns,k1,l1,(jX (ss++[z])).length,by rw[hkm];rfl,hk1,hl1,by omega,λcs k2 l2 _ hcs hB hk2 hl2=>?_⟩
  refine ⟨ns,k2,l2,_,rfl,hk2,hl2,by decide,by decide,λtn k4 l4 _ t0 t1 hk4 hl4=>?_⟩
  refine ⟨by omega,by omega,?_⟩
  refine PX (λrest ρ=>∃(cl:List Int) (k l:Int),(∀d∈rest,∃i:Int,d=.int i)/\ρ=[some (.fz (pK ns)),some (.ow (mX ns k l)),some (.fz (kQ (ss++[z]))),some (.ow (.list (cl.map n0))),none]/\cl.length=(jX (ss++[z])).length/\0<=k/\0<=l) ?_ ?_
   ⟨cs,k4,l4,λd hd=>by unfold AQ at hd;obtain⟨i,_,rfl⟩:=K0.mp hd;exact ⟨_,rfl⟩,rfl,hcs,hk4,hl4⟩
  ·rintro d ds ρ ⟨cl,k,l,hd,rfl,hcl,hk,hl⟩ N hN
   obtain⟨i,rfl⟩:=hd d A0
   have hd':∀d∈ds,∃i:Int,d=.int i:=λd h=>hd d (u0 _ h)
   have hkl:(cl.map n0).length=cl.length:=i0 ..
   refine TX (λh=>?_) (λh=>?_)
   ·refine ⟨ns,k,l,rfl,hk,hl,λnb k6 l6 _ hk6 hl6 b0 b1=>?_⟩
    refine ⟨ns,k6,l6,_,rfl,hk6,hl6,by rw[hkl];omega,by rw[hkl];omega,λat2 k5 l5 _ a0 a1 hk5 hl5=>?_⟩
    rw[hkl]at a1
    obtain⟨j,hj⟩:=w6 a0
    refine ⟨j,by rw[i0,hj];exact tw (by omega),?_⟩
    have e4:(cl.map n0).set j (Sl.fz (n0 nb)).d=(cl.set j nb).map n0:=by rw[List.map_set];rfl
    rw[e4]
    have hc2:(cl.set j nb).length=(jX (ss++[z])).length:=by rw[i4];exact hcl
    refine ⟨rfl,rfl,by decide,ns,k5,l5,ss,cl.set j nb,z,rfl,hk5,hl5,⟨hsd,hs0,hc2⟩,λk7 l7 _ _ hk7 hl7=>?_⟩
    exact hN _ ⟨cl.set j nb,k7,l7,hd',rfl,hc2,hk7,hl7⟩
   ·refine ⟨rfl,rfl,by decide,ns,k,l,ss,cl,z,rfl,hk,hl,⟨hsd,hs0,hcl⟩,λk7 l7 _ _ hk7 hl7=>?_⟩
    exact hN _ ⟨cl,k7,l7,hd',rfl,hcl,hk7,hl7⟩
  ·rintro ρ ⟨cl,k,l,hd,rfl,_⟩
   exact q _
end
theorem OO{p:List Value->Prop}(h:p []):∀us:List Value,us.length=0->p us:=λus e=>by
 cases us with
 | nil=>exact h
 | cons x us=>cases e
theorem len1{p:List Value->Prop}(h:∀x0,p [x0]):∀us:List Value,us.length=1->p us:=λus e=>by
 cases us with
 | nil=>cases e
 | cons x us=>exact OO (p:=λl=>p (x :: l)) (h x) us (J9 e)
theorem len2{p:List Value->Prop}(h:∀x0 x1,p [x0,x1]):∀us:List Value,us.length=2->p us:=λus e=>by
 cases us with
 | nil=>cases e
 | cons x us=>exact len1 (p:=λl=>p (x :: l)) (λx1=>h x x1) us (J9 e)
theorem len3{p:List Value->Prop}(h:∀x0 x1 x2,p [x0,x1,x2]):∀us:List Value,us.length=3->p us:=λus e=>by
 cases us with
 | nil=>cases e
 | cons x us=>exact len2 (p:=λl=>p (x :: l)) (λx1 x2=>h x x1 x2) us (J9 e)
structure Df(K:q0)(mg:Str->Option Value)(x:Str)(st:Stmt)(f:Addr)(d:FuncData):Prop where
 F:Fun K x x st f d
 m:mg x=some (.ref f)
 k:A5 K (.ref f)=true
section
variable {K:q0}{mg:Str->Option Value}
theorem df_mk{h:Heap}(X:K.In h)(G:h.Ns mainGlobals mg){x:Str}{st:Stmt}{f:Addr}{oc:Value}{od an:Option Addr}{osl:Array (Option Value)}{kV doc pm cdv ct:Value}(a:Z2 K mainGlobals x=some (some (.ref f)))(l:K.lookup f=some ⟨oc,od,.func (Q5 x x (PZ st) (YX st) (fQ st) .none kV doc pm an cdv ct),osl⟩)(c:T7 K cdv x=true)(k:A5 K (.ref f)=true):Df K mg x st f (Q5 x x (PZ st) (YX st) (fQ st) .none kV doc pm an cdv ct) :=
 ⟨XB l c k,PySem.W.mg_of X G a,k⟩
theorem qX(P:Program)(w:World)(base:Heap){k:Nat}{x:Str}{ps:List Str}{sp:Sp}{st:Stmt}{f:Addr}{d:FuncData}(D:Df K mg x st f d)(h:FnOk P w K mg base fZ k f d ps sp)(b:∀(kV doc pm:Value) (an:Option Addr) (cdv ct:Value) (us:List Value),us.length=ps.length->bindArgs (Q5 x x (PZ st) (YX st) (fQ st) .none kV doc pm an cdv ct) ⟨us,[]⟩=pure (ps.zip us)):Cal P w K mg base k x ps sp :=
 ⟨⟨f,d,h,D.m,D.k,D.F.binds b⟩⟩
end
theorem all_mk{l:L8}{w:World}{K:q0}{h:Heap}{mg:Str->Option Value}{fa f0 f1 f2 f3 f4 f5 f6 f7 f8 f9 f10 f11 f12 f13 f14 f15 f16 f17 f18 f19 f20 f21 f22 f23 f24 f25 f26 f27 f28 f29 f30 f31 f32 f33 f34 f35 f36 f37:Addr}{d0 d1 d2 d3 d4 d5 d6 d7 d8 d9 d10 d11 d12 d13 d14 d15 d16 d17 d18 d19 d20 d21 d22 d23 d24 d25 d26 d27 d28 d29 d30 d31 d32 d33 d34 d35 d36 d37:FuncData}(X:K.In h)(G:h.Ns mainGlobals mg)(hfa:mg "law"=some (.ref fa))
  (D0:Df K mg "_law_begin" (top 32) f0 d0) (D1:Df K mg "_law_mixed" (top 33) f1 d1) (D2:Df K mg "_law_take" (top 34) f2 d2) (D3:Df K mg "_law_number" (top 36) f3 d3) (D4:Df K mg "_law_sides" (top 35) f4 d4) (D5:Df K mg "_law_cells" (top 37) f5 d5) (D6:Df K mg "_law_places" (top 38) f6 d6) (D7:Df K mg "_law_lies" (top 42) f7 d7) (D8:Df K mg "_law_sum" (top 43) f8 d8) (D9:Df K mg "_law_box" (top 41) f9 d9) (D10:Df K mg "one_of_each" (top 3) f10 d10) (D11:Df K mg "places_between" (top 4) f11 d11) (D12:Df K mg "first_place" (top 9) f12 d12) (D13:Df K mg "last_place" (top 10) f13 d13) (D14:Df K mg "all_places" (top 11) f14 d14) (D15:Df K mg "all_boxes" (top 12) f15 d15) (D16:Df K mg "add_along" (top 15) f16 d16) (D17:Df K mg "running_of" (top 14) f17 d17) (D18:Df K mg "index_of" (top 5) f18 d18) (D19:Df K mg "corner_numbers" (top 17) f19 d19) (D20:Df K mg "signed_place" (top 18) f20 d20) (D21:Df K mg "corners" (top 16) f21 d21) (D22:Df K mg "sum_by_running" (top 19) f22 d22) (D23:Df K mg "sums_along" (top 20) f23 d23) (D24:Df K mg "least_bests" (top 22) f24 d24) (D25:Df K mg "best_of" (top 23) f25 d25) (D26:Df K mg "runs_of" (top 30) f26 d26) (D27:Df K mg "all_of" (top 29) f27 d27) (D28:Df K mg "how_many_of" (top 28) f28 d28) (D29:Df K mg "is_whole" (top 1) f29 d29) (D30:Df K mg "are_wholes" (top 2) f30 d30) (D31:Df K mg "is_place" (top 7) f31 d31) (D32:Df K mg "is_box" (top 8) f32 d32) (D33:Df K mg "is_entry" (top 25) f33 d33) (D34:Df K mg "are_bests" (top 26) f34 d34) (D35:Df K mg "holds_bests" (top 24) f35 d35) (D36:Df K mg "_law_right" (top 44) f36 d36) (D37:Df K mg "law" (top 45) f37 d37)
  (z0:Z2 K mainGlobals "len"=some none) (z1:Z2 K mainGlobals "isinstance"=some none) (z2:Z2 K mainGlobals "int"=some none) (z3:Z2 K mainGlobals "bool"=some none) (z4:Z2 K mainGlobals "list"=some none) (z5:Z2 K mainGlobals "tuple"=some none) (z6:Z2 K mainGlobals "range"=some none) (z7:Z2 K mainGlobals "zip"=some none) (z8:Z2 K mainGlobals "all"=some none) (z9:Z2 K mainGlobals "sum"=some none) (z10:Z2 K mainGlobals "repr"=some none) (z11:Z2 K mainGlobals "sorted"=some none) (z12:Z2 K mainGlobals "max"=some none) (z13:Z2 K mainGlobals "enumerate"=some none) (z14:Z2 K mainGlobals "reversed"=some none) (z15:Z2 K mainGlobals "min"=some none) (z16:Z2 K mainGlobals "abs"=some none) :
  ∃fd:FuncData,(∀(s:Shared) (v:Value),BindsTo s fd ⟨[v],[]⟩ [("_law_script",v)])/\∀base:Heap,K.In base->base.Ns mainGlobals mg->FnOk l.prog w K mg base fZ 9 fa fd ["_law_script"] (eQ K Sw):=by
 cases hfa.symm.trans D37.m
 have T:Txt mg:=⟨T1 X G z0,T1 X G z1,T1 X G z2,T1 X G z3,T1 X G z4,T1 X G z5,T1 X G z6,T1 X G z7,T1 X G z8,T1 X G z9,T1 X G z10,T1 X G z11,T1 X G z12,T1 X G z13,T1 X G z14,T1 X G z15,T1 X G z16⟩
 obtain⟨oc,od,kV,doc,pm,an,cdv,ct,osl,e,lk,hcd⟩:=D37.F.ex
 refine ⟨d37,λs v=>by subst e;exact .of_eq rfl,λb _ _=>?_⟩
 have C0:=qX l.prog w b D0 (Qk D0.F) λ_ _ _ _ _ _=>len1 λ_=>rfl
 have C1:=qX l.prog w b D1 (Rk D1.F) λ_ _ _ _ _ _=>len2 λ_ _=>rfl
 have C2:=qX l.prog w b D2 (iu D2.F T ⟨C1⟩) λ_ _ _ _ _ _=>len2 λ_ _=>rfl
 have C3:=qX l.prog w b D3 (Rz D3.F ⟨C2⟩) λ_ _ _ _ _ _=>len1 λ_=>rfl
 have C4:=qX l.prog w b D4 (Xk D4.F T ⟨C2⟩) λ_ _ _ _ _ _=>len2 λ_ _=>rfl
 have C5:=qX l.prog w b D5 (Uk D5.F T ⟨C2,C3⟩) λ_ _ _ _ _ _=>len2 λ_ _=>rfl
 have C6:=qX l.prog w b D6 (Sz D6.F T) λ_ _ _ _ _ _=>len1 λ_=>rfl
 have C7:=qX l.prog w b D7 (zu D7.F T) λ_ _ _ _ _ _=>len2 λ_ _=>rfl
 have C8:=qX l.prog w b D8 (Eu D8.F T ⟨C7⟩) λ_ _ _ _ _ _=>len2 λ_ _=>rfl
 have C9:=qX l.prog w b D9 (dI D9.F T ⟨C2⟩) λ_ _ _ _ _ _=>len2 λ_ _=>rfl
 have C10:=qX l.prog w b D10 (lu D10.F) λ_ _ _ _ _ _=>len1 λ_=>rfl
 have C11:=qX l.prog w b D11 (SE D11.F T ⟨C10⟩) λ_ _ _ _ _ _=>len2 λ_ _=>rfl
 have C12:=qX l.prog w b D12 (bw D12.F T) λ_ _ _ _ _ _=>len1 λ_=>rfl
 have C13:=qX l.prog w b D13 (ou D13.F T) λ_ _ _ _ _ _=>len1 λ_=>rfl
 have C14:=qX l.prog w b D14 (SU D14.F ⟨C11,C12,C13⟩) λ_ _ _ _ _ _=>len1 λ_=>rfl
 have C15:=qX l.prog w b D15 (Fu D15.F ⟨C14,C11,C13⟩) λ_ _ _ _ _ _=>len1 λ_=>rfl
 have C16:=qX l.prog w b D16 (xu D16.F T) λ_ _ _ _ _ _=>len3 λ_ _ _=>rfl
 have C17:=qX l.prog w b D17 (uw D17.F T ⟨C16⟩) λ_ _ _ _ _ _=>len1 λ_=>rfl
 have C18:=qX l.prog w b D18 (fw D18.F T) λ_ _ _ _ _ _=>len2 λ_ _=>rfl
 have C19:=qX l.prog w b D19 (Tz D19.F T) λ_ _ _ _ _ _=>len2 λ_ _=>rfl
 have C20:=qX l.prog w b D20 (Uz D20.F T) λ_ _ _ _ _ _=>len1 λ_=>rfl
 have C21:=qX l.prog w b D21 (QF D21.F T ⟨C10,C19,C20⟩) λ_ _ _ _ _ _=>len2 λ_ _=>rfl
 have C22:=qX l.prog w b D22 (YE D22.F T ⟨C18,C21⟩) λ_ _ _ _ _ _=>len3 λ_ _ _=>rfl
 have C23:=qX l.prog w b D23 (IM D23.F T ⟨C22⟩) λ_ _ _ _ _ _=>len3 λ_ _ _=>rfl
 have C24:=qX l.prog w b D24 (NM D24.F T) λ_ _ _ _ _ _=>len1 λ_=>rfl
 have C25:=qX l.prog w b D25 (OM D25.F T ⟨C15,C17,C22,C23,C24⟩) λ_ _ _ _ _ _=>len1 λ_=>rfl
 have C26:=qX l.prog w b D26 (Hu D26.F T) λ_ _ _ _ _ _=>len2 λ_ _=>rfl
 have C27:=qX l.prog w b D27 (KM D27.F T ⟨C15,C17,C23,C26⟩) λ_ _ _ _ _ _=>len2 λ_ _=>rfl
 have C28:=qX l.prog w b D28 (LM D28.F T ⟨C27⟩) λ_ _ _ _ _ _=>len2 λ_ _=>rfl
 have C29:=qX l.prog w b D29 (BM D29.F T) λ_ _ _ _ _ _=>len1 λ_=>rfl
 have C30:=qX l.prog w b D30 (CM D30.F T ⟨C29⟩) λ_ _ _ _ _ _=>len2 λ_ _=>rfl
 have C31:=qX l.prog w b D31 (DM D31.F T ⟨C30⟩) λ_ _ _ _ _ _=>len2 λ_ _=>rfl
 have C32:=qX l.prog w b D32 (EM D32.F T ⟨C31⟩) λ_ _ _ _ _ _=>len2 λ_ _=>rfl
 have C33:=qX l.prog w b D33 (GM D33.F T ⟨C32,C30⟩) λ_ _ _ _ _ _=>len3 λ_ _ _=>rfl
 have C34:=qX l.prog w b D34 (HM D34.F T) λ_ _ _ _ _ _=>len3 λ_ _ _=>rfl
 have C35:=qX l.prog w b D35 (JM D35.F T ⟨C15,C33,C17,C23,C34⟩) λ_ _ _ _ _ _=>len3 λ_ _ _=>rfl
 have C36:=qX l.prog w b D36 (Rw D36.F T ⟨C6,C8,C2,C9,C25,C27,C28,C35⟩) λ_ _ _ _ _ _=>len3 λ_ _ _=>rfl
 exact pI D37.F T ⟨C0,C2,C3,C4,C5,C6,C36⟩
theorem walk{l:L8}{q:Program}{loose:List Str}{XP:(Str->Option Value)->Heap->Prop}{YP:World->Heap->Prop}{d:DefRec}{K:Params->q0}(hn:l.most=some 63)(hdf:d.params.defaults=[])
  (hY:∀(w:World) (h:Heap),YP w h->(K w.params).In h)
  (F:∀(w:World) (mg:Str->Option Value) (fa:Addr) (h:Heap),(K w.params).In h->h.Ns mainGlobals mg->mg d.name=some (.ref fa) ->
    ∃fd:FuncData,(∀(s:Shared) (u:Value),BindsTo s fd ⟨[u],[]⟩ [("_law_script",u)])/\∀base:Heap,(K w.params).In base->base.Ns mainGlobals mg->FnOk l.prog w (K w.params) mg base fZ 9 fa fd ["_law_script"] (eQ (K w.params) Sw)) :
  PySem.W.WalkO q loose XP YP l.row.toRowW d [] (λf vs=>PySem.call f vs) :=
 L2.walk_of (n:=63) (k:=9) (x:="_law_script") (CX:=λ_=>fZ) (sp:=λw=>eQ (K w.params) Sw) hn (by decide) hdf ⟨rfl,by decide,by decide,rfl⟩ hY F (λ_ _ a ns hl _ hS=>Qu hl hS) λ_ _ _ _ _ z=>z
end R48
open PySem PySem.W PyProof.Rows
namespace PySem.W.Fast
def tw10589053350856213121:Unit:=()
def tw14047955869551205255:Unit:=()
def tw16906287136615083004:Unit:=()
def tw9037405092675448790:Unit:=()
def tw4349863354765976246:Unit:=()
def tw505024997545840096:Unit:=()
def tw7523903546419481142:Unit:=()
def tw8275819256872765958:Unit:=()
def tw1411239411353817128:Unit:=()
def tw9479024760443634584:Unit:=()
def tw4193853177535395233:Unit:=()
def tw17597041360699107186:Unit:=()
def tw2373368482875829153:Unit:=()
def tw18041948362654635886:Unit:=()
def tw8908159889825184664:Unit:=()
def tw1088034206446115940:Unit:=()
def tw9982087201220140178:Unit:=()
def tw11299418705992044386:Unit:=()
def tw3993809602731711434:Unit:=()
def tw11383822197865721619:Unit:=()
def tw9342695864766926167:Unit:=()
def tw986791214877644960:Unit:=()
def tw8888162663051162703:Unit:=()
def tw451654485229218986:Unit:=()
def tw9668225745229584119:Unit:=()
def tw18062591104534207204:Unit:=()
def tw6136606668097872186:Unit:=()
def tw8162596306176106422:Unit:=()
def tw1340737159864090737:Unit:=()
def tw15866119612557893004:Unit:=()
def tw5141957965845994348:Unit:=()
def tw8638567261037141748:Unit:=()
def tw1875181239883557515:Unit:=()
def tw11057226215993310533:Unit:=()
def tw10517117595315381853:Unit:=()
def tw7701625317477730283:Unit:=()
def tw7259168053418179314:Unit:=()
def tw619330640641030636:Unit:=()
def tw3688930624518764876:Unit:=()
def tw1106096097178013324:Unit:=()
def tw667577873426271111:Unit:=()
def tw470216546530136589:Unit:=()
def tw5651805816169860517:Unit:=()
def tw5054348446167898391:Unit:=()
def tw11810597151443606468:Unit:=()
def tw9816547748748357733:Unit:=()
def tw11426721033759033428:Unit:=()
def tw14380653116625916676:Unit:=()
def tw7235787238678781421:Unit:=()
def tw11391956633308578452:Unit:=()
def tw15800177927541358323:Unit:=()
def tw4723216200101739427:Unit:=()
def tw1678130855489108501:Unit:=()
def tw13671209791456479228:Unit:=()
def tw12178874487741416089:Unit:=()
def tw10965160388482066850:Unit:=()
def tw8153856198630053518:Unit:=()
def tw18275323559410838018:Unit:=()
def tw3340230195375140563:Unit:=()
def tw17477842317269305688:Unit:=()
def tw9678913508602754321:Unit:=()
def tw1881917502854949592:Unit:=()
def tw13734728247385024415:Unit:=()
def tw17389267267086651668:Unit:=()
def tw18232590058134511342:Unit:=()
def tw13752553235275560206:Unit:=()
def tw16258948126519389741:Unit:=()
def tw649396690624829701:Unit:=()
def tw7802884176899681333:Unit:=()
def tw11133804306045110093:Unit:=()
def tw11136657387978001339:Unit:=()
def tw15422512792085790285:Unit:=()
def tw6459325786766259013:Unit:=()
def tw4661775425108293399:Unit:=()
def tw5899118258802973920:Unit:=()
def tw2256107382276202297:Unit:=()
def tw14541099207459412167:Unit:=()
def tw3910039279611237909:Unit:=()
def tw10965265606554907748:Unit:=()
def tw5647599747991998386:Unit:=()
def tw12730622001270602391:Unit:=()
def tw15156545229690654191:Unit:=()
def tw12916780468085410928:Unit:=()
def tw17738572499564640948:Unit:=()
def tw7106581284550436556:Unit:=()
def tw4304911547650995490:Unit:=()
def tw11232305279325030170:Unit:=()
def tw9107359811033274342:Unit:=()
def tw6764137983893813457:Unit:=()
end PySem.W.Fast
set_option maxRecDepth 100000 in
set_option maxHeartbeats 0 in
theorem PySem.Challenge.cw_boxsums_k48_whole_best_and_counted_holds : PySem.Challenge.rw_boxsums_k48_whole_best_and_counted.Holds := by
 w_on;o_law;k_head;(case hw=>w_witness2)
 k_fill
 refine R48.walk (l:=PySem.Challenge.rw_boxsums_k48_whole_best_and_counted) rfl rfl (λw h Y=>PySem.W.kIn_of Y) ?F
 case F =>
  intro w mg fa h KX G hmg
  refine' R48.all_mk KX G hmg (R48.df_mk KX G ?a0 ?l0 ?c0 ?k0) (R48.df_mk KX G ?a1 ?l1 ?c1 ?k1) (R48.df_mk KX G ?a2 ?l2 ?c2 ?k2) (R48.df_mk KX G ?a3 ?l3 ?c3 ?k3) (R48.df_mk KX G ?a4 ?l4 ?c4 ?k4) (R48.df_mk KX G ?a5 ?l5 ?c5 ?k5) (R48.df_mk KX G ?a6 ?l6 ?c6 ?k6) (R48.df_mk KX G ?a7 ?l7 ?c7 ?k7) (R48.df_mk KX G ?a8 ?l8 ?c8 ?k8) (R48.df_mk KX G ?a9 ?l9 ?c9 ?k9) (R48.df_mk KX G ?a10 ?l10 ?c10 ?k10) (R48.df_mk KX G ?a11 ?l11 ?c11 ?k11) (R48.df_mk KX G ?a12 ?l12 ?c12 ?k12) (R48.df_mk KX G ?a13 ?l13 ?c13 ?k13) (R48.df_mk KX G ?a14 ?l14 ?c14 ?k14) (R48.df_mk KX G ?a15 ?l15 ?c15 ?k15) (R48.df_mk KX G ?a16 ?l16 ?c16 ?k16) (R48.df_mk KX G ?a17 ?l17 ?c17 ?k17) (R48.df_mk KX G ?a18 ?l18 ?c18 ?k18) (R48.df_mk KX G ?a19 ?l19 ?c19 ?k19) (R48.df_mk KX G ?a20 ?l20 ?c20 ?k20) (R48.df_mk KX G ?a21 ?l21 ?c21 ?k21) (R48.df_mk KX G ?a22 ?l22 ?c22 ?k22) (R48.df_mk KX G ?a23 ?l23 ?c23 ?k23) (R48.df_mk KX G ?a24 ?l24 ?c24 ?k24) (R48.df_mk KX G ?a25 ?l25 ?c25 ?k25) (R48.df_mk KX G ?a26 ?l26 ?c26 ?k26) (R48.df_mk KX G ?a27 ?l27 ?c27 ?k27) (R48.df_mk KX G ?a28 ?l28 ?c28 ?k28) (R48.df_mk KX G ?a29 ?l29 ?c29 ?k29) (R48.df_mk KX G ?a30 ?l30 ?c30 ?k30) (R48.df_mk KX G ?a31 ?l31 ?c31 ?k31) (R48.df_mk KX G ?a32 ?l32 ?c32 ?k32) (R48.df_mk KX G ?a33 ?l33 ?c33 ?k33) (R48.df_mk KX G ?a34 ?l34 ?c34 ?k34) (R48.df_mk KX G ?a35 ?l35 ?c35 ?k35) (R48.df_mk KX G ?a36 ?l36 ?c36 ?k36) (R48.df_mk KX G ?a37 ?l37 ?c37 ?k37) ?z0 ?z1 ?z2 ?z3 ?z4 ?z5 ?z6 ?z7 ?z8 ?z9 ?z10 ?z11 ?z12 ?z13 ?z14 ?z15 ?z16
  case a0|l0|c0|k0|a1|l1|c1|k1|a2|l2|c2|k2|a3|l3|c3|k3|a4|l4|c4|k4|a5|l5|c5|k5|a6|l6|c6|k6|a7|l7|c7|k7|a8|l8|c8|k8|a9|l9|c9|k9|a10|l10|c10|k10|a11|l11|c11|k11|a12|l12|c12|k12|a13|l13|c13|k13|a14|l14|c14|k14|a15|l15|c15|k15|a16|l16|c16|k16|a17|l17|c17|k17|a18|l18|c18|k18|a19|l19|c19|k19|a20|l20|c20|k20|a21|l21|c21|k21|a22|l22|c22|k22|a23|l23|c23|k23|a24|l24|c24|k24|a25|l25|c25|k25|a26|l26|c26|k26|a27|l27|c27|k27|a28|l28|c28|k28|a29|l29|c29|k29|a30|l30|c30|k30|a31|l31|c31|k31|a32|l32|c32|k32|a33|l33|c33|k33|a34|l34|c34|k34|a35|l35|c35|k35|a36|l36|c36|k36|a37|l37|c37|k37|z0|z1|z2|z3|z4|z5|z6|z7|z8|z9|z10|z11|z12|z13|z14|z15|z16=>k_is
