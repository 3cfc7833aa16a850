import PyProof.Rows.All
import Wide.All
import OpenK.AllK
import Wide.FinOn
import Lean
import PyProof.EqAt
import PyProof.EqKinds
import PyProof.TupleCall
import PyProof.Rows.SortRuns
import PyProof.Draws
import PyProof.EnumMake
import PySem.Challenge.RW_boxsums_k39_no_partings
set_option Elab.async false
set_option linter.all false
set_option maxRecDepth 100000
set_option maxHeartbeats 4000000
open PySem.PyData renaming int → j0,tuple → W1,list → P3,canLay0 → Q5,depth → U5,shownKv → e6,shownAll → Y6,canLayAll0 → L7,showableKv → Q7,shown → j8,depthAll → y8,depthKv → J8,showableAll → V8,hasDictAll → h9
open PySem.Heap renaming get?_push_of_some → n0,get?_push_size → L0,lt_size → M0,get?_update_self → V2,size_push → Y2,SameBut → W3,get?_update_other → V5,get?_push_ne → L6,ExtBut → F7,size_update → Y7,get?_update_ne → O8
open List renaming length_map → p0,getElem?_eq_getElem → A0,mem_cons_self → G0,mem_cons_of_mem → J0,mem_cons → K0,replicate → O0,size_toArray → P0,length_append → Q0,getElem?_map → R0,mem_map → T0,mem_append → V0,mem_singleton → Y0,mem_of_getElem? → A1,map_map → B1,length_take → E1,not_mem_nil → G1,getElem?_set_ne → L1,mem_append_right → N1,getElem?_eq_some_iff → O1,length_drop → P1,range → S1,getElem?_append_right → T1,length_cons → V1,take_of_length_le → Y1,map_cons → Z1,map_append → E2,getElem?_append_left → P2,extract_eq_take_drop → Q2,pairwise_iff_getElem → S2,append_assoc → T2,getD_eq_getElem?_getD → Z2,pairwise_append → u3,mem_of_mem_drop → A3,pairwise_cons → E3,replicate_succ → J3,Nodup → K3,take_append_drop → M3,length_filter_le → N3,mem_range → Q3,mem_of_mem_take → T3,mem_filter → U3,find?_cons → V3,lookup_cons → X3,getElem_mem → Y3,drop_eq_getElem_cons → Z3,getElem_of_mem → j4,append_nil → u4,length_set → v4,map_drop → E4,length_range → G4,drop_of_length_le → J4,map_congr_left → K4,length → L4,getElem?_eq_none_iff → O4,pairwise_reverse → P4,map_take → T4,flatten_cons → U4,getElem?_cons_succ → V4,pairwise_singleton → W4,nodup_cons → X4,length_pos_of_mem → e5,length_singleton → v5,pairwise_map → K5,mem_append_left → L5,length_eq_zero_iff → T5,eq_nil_or_concat → Y5,length_eraseIdx_of_lt → i6,ext_getElem → m6,of_mem_zip → u6,length_nil → v6,filter_map → w6,length_zipIdx → B6,map_inj_right → E6,drop_sublist → K6,eraseIdxIfInBounds_toArray → M6,length_replicate → N6,perm_append_comm → O6,foldl → P6,all_eq_true → Q6,any_eq_true → S6,countP_cons → U6,mem_iff_getElem → W6,foldl_cons → X6,mem_zipIdx_iff_getElem? → g7,filterMap_cons → h7,nodup_nil → t7,map_replicate → v7,lookup → E7,nodup_append → K7,getElem_drop → M7,getElem_take → N7,reverse_perm → O7,getElem?_take_of_lt → S7,zipIdx_cons → W7,getElem?_replicate → b8,eraseIdx_cons_succ → e8,map_nil → h8,getElem?_set_self → n8,pairwise_lt_range → t8,nil_append → v8,forIn_cons → x8,map_id → B8,forIn_nil → E8,drop_zero → F8,drop_drop → G8,getElem?_zipIdx → L8,take_succ_cons → N8,mem_map_of_mem → P8,any_cons → Q8,mem_filterMap → R8,zip_cons_cons → S8,getElem?_drop → U8,filter_append → W8,mem_replicate → X8
open PySem.W renaming Frag → q0,mg_none_of → U1,nsIn → X2,keepIn → n5,fnOf → G5,findIn → J6,codeIn → m7,methodObj → J7,cellsFrom_some → o8,OpenLaw → w8,specialIn → g9,instObj → j9
open Nat renaming le_refl → B0,ne_of_lt → S0,lt_of_lt_of_le → U0,le_trans → Z0,lt_of_le_of_lt → O2,ne_of_gt → W2,lt_irrefl → G3,lt_succ_of_lt → O3,zero_le → M4,lt_succ_self → S4,le_of_lt → Y4,le_succ → j5,le_of_succ_le → J5,add_sub_cancel_left → S5,min_eq_left → W5,zero_add → j6,strongRecOn → e7,le_succ_of_le → P7,le_of_not_lt → V7,le_add_right → X7,succ_mul → i8,length_repr_le_iff → r8,not_lt_zero → A8,add_le_add_left → M8,mul_comm → Y8,lt_trans → Z8,sub_self → b9
open Array renaming length_toList → W0,getElem?_toList → B2,toList_append → G2,getElem_toList → U2,getElem?_eq_getElem → B3,toList_extract → B4,perm_iff_toList_perm → u5,toList_push → Z5,toList_reverse → g6,getD → x6,size_extract → A6,toList_map → T6,getElem?_eq_none → u8
open Bool renaming false_ne_true → X0,false_eq_true → S3,eq_false_iff → n4,and_eq_true → Q4,false_and → P5,beq_eq_decide_eq → X5,eq_iff_iff → t6,and_false → o7,not_true → R7
open Int renaming eq_ofNat_of_zero_le → K1,emod_nonneg → Z6,emod_lt_of_pos → u7,zero_add → m8
open Option.some renaming inj → Q1
open PySem.Builtin.SmallTypes renaming nextOf → X1,ownedTupleIsFree → o4,ownedTupleHandOut → o6
open PySem.Obj renaming mapSeq → K2,data_mapFields → o5,isFreed_of_fields → x5,mapFields → V6
open PySem.Heap.SameBut renaming update → i4
open Ne renaming symm → m4
open PySem.Value renaming none → A4,ref → B5,type → M5,int → G6,isInt_shape → G7,notImplemented → K8,bool → o9
open PyProof.Rows renaming slot_tuple_getitem → N4,callWith_type1 → i5
open Option renaming map_eq_some_iff → Z4,getD_some → m5,map_some → E5,isSome_some → T8,getD_none → i9
open PySem.Builtin.Slice renaming slicePlaces → A5,sliceAdjust → n6,sliceApplied → y7
open PySem.Builtin.Tuple renaming tupleExact → N5,tupleItemsOf → A7
open PySem.Builtin.List renaming listTooLong → O5,listLengthHint → i7,listExtendWith → j7,listFitsIndex → B7,listSameRef → U7
open PySem.Builtin.Frozenset renaming sizeOf → T7
open PySem.Builtin.Range renaming rangeSize → Z7
open PySem.Builtin.Dict renaming updateFrom → g8
open Nat.succ renaming inj → e9
open PySem.Heap.DictOf renaming new → m9
namespace L2
open PySem PySem.Spec PyProof.Rows
noncomputable abbrev HQ:=Sum Int Str
noncomputable def zW:HQ->Value->Bool
 | .inl k,v=>Value.isInt k v
 | .inr x,v=>Value.isStrOf x v
noncomputable def JL(w:World):HQ->Int
 | .inl k=>hashInt k
 | .inr x=>hashStr w x
theorem jX:∀{k:HQ}{v:Value},zW k v=true->(∃i t,k=Sum.inl i/\v=G6 i t)\/(∃x t,k=Sum.inr x/\v=Value.str x t)
 | .inl i,v,h=>by
  obtain⟨t,e⟩:=G7 (k:=i) (v:=v) h
  exact .inl ⟨i,t,rfl,e⟩
 | .inr x,v,h=>by
  obtain⟨t,e⟩:=Value.isStrOf_shape (x:=x) (v:=v) h
  exact .inr ⟨x,t,rfl,e⟩
theorem dD(i:Int)(t:Tok):zW (.inl i) (.int i t)=true:=by simp[zW,Value.isInt]
theorem eD(x:Str)(t:Tok):zW (.inr x) (.str x t)=true:=by simp[zW,Value.isStrOf]
theorem Fy(a b:Int):decide ((Sum.inl a:HQ)=Sum.inl b)=(a==b):=by
 by_cases e:a=b
 ·subst e;simp
 ·have h:¬(Sum.inl a:HQ)=Sum.inl b:=λq=>e (Sum.inl.inj q)
  rw[decide_eq_false h]
  exact (beq_eq_false_iff_ne.mpr e).symm
theorem Gy(a b:Str):decide ((Sum.inr a:HQ)=Sum.inr b)=decide (a=b):=by
 by_cases e:a=b
 ·subst e;simp
 ·have h:¬(Sum.inr a:HQ)=Sum.inr b:=λq=>e (Sum.inr.inj q)
  rw[decide_eq_false h,decide_eq_false e]
theorem Iy(a:Int)(b:Str):decide ((Sum.inl a:HQ)=Sum.inr b)=false:=decide_eq_false (λq=>nomatch q)
theorem Jy(a:Str)(b:Int):decide ((Sum.inr a:HQ)=Sum.inl b)=false:=decide_eq_false (λq=>nomatch q)
noncomputable def OQ(prog:Program)(w:World):PySem.KeyKind prog w HQ where
 is:=zW
 hash:=JL w
 inj:=λv a b ha hb=>by
  rcases jX ha with⟨i,t,rfl,rfl⟩|⟨x,t,rfl,rfl⟩
  ·rcases jX hb with⟨j,u,rfl,e⟩|⟨y,u,rfl,e⟩
   ·injection e with e1 _;rw[e1]
   ·exact nomatch e
  ·rcases jX hb with⟨j,u,rfl,e⟩|⟨y,u,rfl,e⟩
   ·exact nomatch e
   ·injection e with e1 _;rw[e1]
 byValue:=λk v h=>by
  rcases jX h with⟨i,t,rfl,rfl⟩|⟨x,t,rfl,rfl⟩<;>rfl
 pyHash:=λhv h=>by
  rcases jX hv with⟨i,t,rfl,rfl⟩|⟨x,t,rfl,rfl⟩
  ·exact wpAny_pyHash_int h
  ·exact wpAny_pyHash_str h
 eqBool:=λhu hv h=>by
  rcases jX hu with⟨i,t,rfl,rfl⟩|⟨x,t,rfl,rfl⟩
  ·rcases jX hv with⟨j,u,rfl,rfl⟩|⟨y,u,rfl,rfl⟩
   ·rw[Fy]at h;exact wpAny_eqBool_int h
   ·rw[Iy]at h;exact SeqAt.EqAt.int_str i t y u _ _ _ _ h
  ·rcases jX hv with⟨j,u,rfl,rfl⟩|⟨y,u,rfl,rfl⟩
   ·rw[Jy]at h;exact SeqAt.EqAt.str_int x t j u _ _ _ _ h
   ·rw[Gy]at h;exact wpAny_eqBool_str h
 «strs»:=λk x t v h=>by
  rcases jX h with⟨i,u,rfl,e⟩|⟨y,u,rfl,e⟩
  ·exact nomatch e
  ·injection e with e1 _
   subst e1
   cases v<;>rfl
theorem eU(prog:Program)(w:World)(i:Int)(t:Tok):(OQ prog w).is (.inl i) (.int i t)=true:=dD i t
theorem fU(prog:Program)(w:World)(x:Str)(t:Tok):(OQ prog w).is (.inr x) (.str x t)=true:=eD x t
inductive V where
 | non|bl (b:Bool)|int (i:Int)|str (x:Str)|byt (b:Array UInt8)|flt (b:UInt64)|ref (a:Addr)|ty (n:String)
 deriving DecidableEq
noncomputable def RelV:V->Value->Prop
 | .non,u=>u=A4
 | .bl b,u=>u=o9 b
 | .int i,u=>∃t,u=G6 i t
 | .str x,u=>∃t,u=Value.str x t
 | .byt b,u=>∃t,u=Value.bytes b t
 | .flt b,u=>∃t,u=Value.float b t
 | .ref a,u=>u=B5 a
 | .ty n,u=>u=M5 n
noncomputable abbrev Vals:List V->List Value->Prop:=Paired RelV
theorem Vals.length{xs:List V}{us:List Value}(r:Vals xs us):xs.length=us.length:=Paired.length r
theorem Vals.get:∀{xs:List V}{us:List Value}{i:Nat}{x:V},Vals xs us->xs[i]?=some x->∃u,us[i]?=some u/\RelV x u
 | _,_,_,_,.nil,e=>by simp at e
 | _,_,0,_,.cons r _,e=>by simp at e;subst e;exact ⟨_,rfl,r⟩
 | _,_,i+1,x,.cons _ t,e=>by
  obtain⟨u,h1,h2⟩:=Vals.get (i:=i) (x:=x) t (by simpa using e)
  exact ⟨u,by simpa using h1,h2⟩
theorem Vals.set{x:V}{u:Value}(r:RelV x u):∀{xs:List V}{us:List Value} (i:Nat),Vals xs us->Vals (xs.set i x) (us.set i u)
 | _,_,_,.nil=>.nil
 | _,_,0,.cons _ t=>.cons r t
 | _,_,i+1,.cons q t=>.cons q (Vals.set r i t)
theorem Vals.append:∀{xs ys:List V}{us ws:List Value},Vals xs us->Vals ys ws->Vals (xs++ys) (us++ws)
 | _,_,_,_,.nil,s=>s
 | _,_,_,_,.cons r t,s=>.cons r (Vals.append t s)
theorem Vals.take:∀{xs:List V}{us:List Value} (n:Nat),Vals xs us->Vals (xs.take n) (us.take n)
 | _,_,0,_=>.nil
 | _,_,_+1,.nil=>.nil
 | _,_,n+1,.cons r t=>.cons r (Vals.take n t)
theorem Vals.drop:∀{xs:List V}{us:List Value} (n:Nat),Vals xs us->Vals (xs.drop n) (us.drop n)
 | _,_,0,r=>r
 | _,_,_+1,.nil=>.nil
 | _,_,n+1,.cons _ t=>Vals.drop n t
theorem Vals.none_of:∀{xs:List V}{us:List Value}{i:Nat},Vals xs us->xs[i]?=none->us[i]?=none:=λ{xs us i} r e=>by
 have h1:=r.length
 have h2:xs.length<=i:=O4.mp e
 exact O4.mpr (by omega)
noncomputable def RelO:Option V->Option Value->Prop
 | some v,some u=>RelV v u
 | none,none=>True
 | _,_=>False
noncomputable def KV{κ:Type}:List (κ×V)->List (κ×Value)->Prop:=Paired λ(p:κ×V) (q:κ×Value)=>p.1=q.1/\RelV p.2 q.2
noncomputable def kV:HQ->V
 | .inl i=>.int i
 | .inr x=>.str x
inductive HO where
 | lst (xs:List V)
 | tup (xs:List V)
 | dK (kvs:List (HQ×V))|dT (kvs:List (List HQ×V))
 | set (S:Int->Bool) (n:Nat)
 | ins (C dx:Addr) (fs:List (Str×V))
 | own (x:Addr)
 | xd (fs:List (Str×V))
 | met (f x:Addr)
 | rng (lo hi:Int)
 | frz (o:Obj) (u:HO)
 | tbl (ps:Array Value)
 | ext (φ:Heap->Prop)
noncomputable abbrev Hp:=Addr->Option HO
noncomputable def dX(H:Hp)(a:Addr)(o:HO):Hp:=λb=>if b=a then some o else H b
theorem JQ{H:Hp}{a:Addr}{o:HO}:dX H a o a=some o:=by unfold dX;rw[if_pos rfl]
theorem oQ{H:Hp}{a b:Addr}{o:HO}(h:b≠a):dX H a o b=H b:=by unfold dX;rw[if_neg h]
theorem Ix{H:Hp}{a:Addr}{o u:HO}:dX (dX H a o) a u=dX H a u:=by
 funext b;unfold dX;split<;>rfl
theorem pQ{H:Hp}{a b:Addr}{o:HO}(h:H a=some o)(h':H b=none):a≠b:=by
 intro e;subst e;rw[h]at h';cases h'
noncomputable def IsTupD(h:Heap)(a:Addr)(items:Array Value):Prop:=∃o,h.get? a=some o/\o.cls=.type "tuple"/\∃n,o.data=.seq items n/\o.dict=none
theorem IsTupD.t{h:Heap}{a:Addr}{items:Array Value}:IsTupD h a items->IsTup h a items:=λ⟨o,e,c,n,d,_⟩=>⟨o,e,c,n,d⟩
theorem IsTupD.new(h:Heap)(items:Array Value):IsTupD (h.push { cls:=.type "tuple",data:=.seq items }) h.objs.size items:=⟨_,L0 _ rfl,rfl,_,rfl,rfl⟩
section
variable (P:Program)(w:World)
noncomputable def ObjOk(H:Hp)(h:Heap)(a:Addr):HO->Prop
 | .lst xs=>xs.length<=sizeLine/\∃(its:List Value) (n:Nat),Vals xs its/\h.get? a=some { cls:=.type "list",data:=.seq its.toArray n }
 | .tup xs=>xs.length<=sizeLine/\∃its:List Value,Vals xs its/\IsTupD h a its.toArray
 | .dK kvs=>kvs.length<=sizeLine/\(a==sysModules)=false/\∃vs,KV kvs vs/\h.DictOf (OQ P w) a vs
 | .dT kvs=>kvs.length<=sizeLine/\(a==sysModules)=false/\∃xs:List (List HQ×Addr×Value),
   Paired (λ(p:List HQ×V) (q:List HQ×Addr×Value)=>p.1=q.1/\H q.2.1=some (.tup (p.1.map kV))/\RelV p.2 q.2.2) kvs xs /\
   ∃o es ep,h.get? a=some o/\o.ExactDict/\o.data=.dict es ep/\es.toList=xs.map (entryOfKey (tupleKind (OQ P w)))/\(xs.map (·.1)).Nodup
 | .set S n=>h.SetOf (intKind P w) a S n
 | .ins C dx fs=>H dx=some (.own a)/\fs.length<=1000/\dx≠a/\h.get? a=some (j9 C dx) /\
   ∃mA,h.Ns1 dx mA/\(∀f,RelO (fs.lookup f) (mA f))/\PySem.Within mA (fs.map (·.1))
 | .own _=>∃o,h.get? a=some o
 | .xd fs=>∃mA,h.Ns1 a mA/\∀f,RelO (fs.lookup f) (mA f)
 | .rng lo hi=>∃t u v,h.get? a=some { cls:=.type "range",data:=.fields #[.int lo t,.int hi u,.int 1 v] }
 | .frz o u=>h.get? a=some o/\ObjOk H h a u
 | .tbl ps=>h.get? a=some { cls:=.none,data:=.fields ps }
 | .met f x=>h.get? a=some (J7 (.ref f) (.ref x))
 | .ext φ=>φ h/\(∃o,h.get? a=some o)/\∀h1 h2:Heap,φ h1->(∀o,h1.get? a=some o->h2.get? a=some o)->φ h2
noncomputable def HOk(H:Hp)(h:Heap):Prop:=∀a o,H a=some o->ObjOk P w H h a o
end
section
variable {P:Program}{w:World}{H H':Hp}{h h':Heap}{a:Addr}{o:HO}
theorem ObjOk.lt(x:ObjOk P w H h a o):a < h.objs.size:=by
 cases o with
 | lst xs=>obtain⟨_,_,_,_,e⟩:=x;exact M0 e
 | tup xs=>obtain⟨_,_,_,p⟩:=x;exact p.t.lt
 | dK kvs=>obtain⟨_,_,_,_,o,_,_,e,_⟩:=x;exact M0 e
 | dT kvs=>obtain⟨_,_,_,_,o,_,_,e,_⟩:=x;exact M0 e
 | set S n=>obtain⟨o,_,_,_,e,_⟩:=x;exact M0 e
 | ins C dx fs=>obtain⟨_,_,_,e,_⟩:=x;exact M0 e
 | own y=>obtain⟨_,e⟩:=x;exact M0 e
 | xd fs=>obtain⟨_,⟨_,_,_,e,_⟩,_⟩:=x;exact M0 e
 | rng lo hi=>obtain⟨_,_,_,e⟩:=x;exact M0 e
 | frz ob u=>obtain⟨e,_⟩:=x;exact M0 e
 | tbl ps=>exact M0 (show h.get? a=some _ from x)
 | met f y=>exact M0 (show h.get? a=some _ from x)
 | ext φ=>obtain⟨_,⟨_,e⟩,_⟩:=x;exact M0 e
theorem Paired.mapP{α β:Type}{F G:α->β->Prop}:∀{l₁:List α}{l₂:List β},Paired F l₁ l₂->(∀a b,F a b->G a b)->Paired G l₁ l₂
 | _,_,.nil,_=>.nil
 | _,_,.cons r t,f=>.cons (f _ _ r) (Paired.mapP t f)
theorem ObjOk.stay(x:ObjOk P w H h a o)(k:∀b u,(b=a\/H b=some (.own a))->h.get? b=some u->h'.get? b=some u)
  (ho:∀b,H b=some (.own a)->H' b=some (.own a)) (ht:∀b xs,H b=some (.tup xs)->H' b=some (.tup xs)):ObjOk P w H' h' a o:=by
 induction o with
 | lst xs=>obtain⟨z,its,n,r,e⟩:=x;exact ⟨z,its,n,r,k _ _ (.inl rfl) e⟩
 | tup xs=>obtain⟨z,its,r,ob,e,c⟩:=x;exact ⟨z,its,r,ob,k _ _ (.inl rfl) e,c⟩
 | dK kvs=>obtain⟨z,y,vs,r,ob,es,ep,e,c⟩:=x;exact ⟨z,y,vs,r,ob,es,ep,k _ _ (.inl rfl) e,c⟩
 | dT kvs =>
  obtain⟨z,y,xs,r,ob,es,ep,e,c⟩:=x
  exact ⟨z,y,xs,Paired.mapP r λp q z=>⟨z.1,ht _ _ z.2.1,z.2.2⟩,ob,es,ep,k _ _ (.inl rfl) e,c⟩
 | set S n=>obtain⟨ob,es,ep,t,e,c⟩:=x;exact ⟨ob,es,ep,t,k _ _ (.inl rfl) e,c⟩
 | ins C dx fs =>
  obtain⟨d,z,ne,e,mA,⟨od,es,ep,e2,c⟩,r⟩:=x
  exact ⟨ho _ d,z,ne,k _ _ (.inl rfl) e,mA,⟨od,es,ep,k _ _ (.inr d) e2,c⟩,r⟩
 | own y=>obtain⟨ob,e⟩:=x;exact ⟨ob,k _ _ (.inl rfl) e⟩
 | xd fs=>obtain⟨mA,⟨od,es,ep,e,c⟩,r⟩:=x;exact ⟨mA,⟨od,es,ep,k _ _ (.inl rfl) e,c⟩,r⟩
 | rng lo hi=>obtain⟨t,u,v,e⟩:=x;exact ⟨t,u,v,k _ _ (.inl rfl) e⟩
 | frz ob u ih=>obtain⟨e,q⟩:=x;exact ⟨k _ _ (.inl rfl) e,ih q⟩
 | tbl ps =>
  have e:h.get? a=some { cls:=.none,data:=.fields ps }:=x
  show h'.get? a=some { cls:=.none,data:=.fields ps }
  exact k a _ (.inl rfl) e
 | met f y =>
  have e:h.get? a=some (J7 (.ref f) (.ref y)):=x
  show h'.get? a=some (J7 (.ref f) (.ref y))
  exact k a _ (.inl rfl) e
 | ext φ=>obtain⟨p,⟨o,e⟩,st⟩:=x;exact ⟨st _ _ p λo q=>k _ _ (.inl rfl) q,⟨o,k _ _ (.inl rfl) e⟩,st⟩
theorem HOk.lt(x:HOk P w H h)(e:H a=some o):a < h.objs.size:=(x a o e).lt
theorem HOk.fresh(x:HOk P w H h)(e:h.objs.size<=a):H a=none:=by
 cases q:H a with
 | none=>rfl
 | some u=>exact absurd (U0 (x.lt q) e) (G3 _)
theorem HOk.kept(x:HOk P w H h)(k:∀b u,h.get? b=some u->h'.get? b=some u):HOk P w H h':=λa o e =>
 (x a o e).stay (λb u _ q=>k b u q) (λ_ q=>q) λ_ _ q=>q
theorem HOk.laid(x:HOk P w H h)(k:∀b u,h.get? b=some u->h'.get? b=some u)(hp:h.objs.size<=a)(new:ObjOk P w (dX H a o) h' a o):HOk P w (dX H a o) h':=λb u e=>by
 have hn:=x.fresh hp
 by_cases hb:b=a
 ·subst hb;rw[JQ]at e;cases e;exact new
 ·rw[oQ hb]at e
  exact (x b u e).stay (λc v _ q=>k c v q) (λc q=>by rw[oQ (pQ q hn)];exact q) λc xs q=>by rw[oQ (pQ q hn)];exact q
end
noncomputable def Rd(H:Hp)(a:Addr)(u:HO):Prop:=H a=some u\/∃o,H a=some (.frz o u)
theorem Rd.ok{P:Program}{w:World}{H:Hp}{h:Heap}{a:Addr}{u:HO}(r:Rd H a u)(x:HOk P w H h):ObjOk P w H h a u:=by
 rcases r with r|⟨o,r⟩
 ·exact x a u r
 ·obtain⟨_,q⟩:=x a _ r
  exact q
noncomputable def sC:Option HO->Prop
 | some (.lst _)=>True
 | some (.dK _)=>True
 | some (.dT _)=>True
 | some (.set _ _)=>True
 | some (.ins _ _ _)=>True
 | some (.ext _)=>True
 | _=>False
section
variable {P:Program}{w:World}{H:Hp}{h h':Heap}{x e:Addr}{o':HO}
theorem HOk.write(ok:HOk P w H h)(mu:sC (H x))(he:e=x\/H e=some (.own x))(k:∀b u,b≠e->h.get? b=some u->h'.get? b=some u)(heo:∃u,h'.get? e=some u)
  (new:ObjOk P w (dX H x o') h' x o'):HOk P w (dX H x o') h':=λb u q=>by
 have nown:∀c y,H c=some (.own y)->c≠x:=λc y r z=>by subst z;rw[r]at mu;exact mu
 have ntup:∀c xs,H c=some (.tup xs)->c≠x:=λc xs r z=>by subst z;rw[r]at mu;exact mu
 by_cases hb:b=x
 ·subst hb;rw[JQ]at q;cases q;exact new
 ·rw[oQ hb]at q
  by_cases hbe:b=e
  ·have q':H b=some (.own x):=by
    rcases he with z|z
    ·exact absurd (hbe.trans z) hb
    ·rw[hbe];exact z
   rw[q]at q';cases q'
   obtain⟨v,hv⟩:=heo
   exact ⟨v,by rw[hbe];exact hv⟩
  ·refine (ok b u q).stay (λc v hc r=>k c v ?_ r) (λc r=>by rw[oQ (nown c b r)];exact r) λc xs r=>by rw[oQ (ntup c xs r)];exact r
   rcases hc with rfl|hc
   ·exact hbe
   ·rintro rfl
    rcases he with z|z
    ·exact nown c b hc z
    ·rw[hc]at z;cases z;exact hb rfl
end
structure Un(fs ex:List Addr)(H H':Hp)(h h':Heap):Prop where
 keep:∀b o,h.get? b=some o->H b=none->b∉fs->b∉ex->h'.get? b=some o
 slot:∀b o,h.get? b=some o->H b=none->b∈fs->b∉ex->∃sl,h'.get? b=some { o with slots:=sl }
 free:∀b o,h.get? b=some o->H b=none->b∉ex->H' b=none
 there:∀b o,h.get? b=some o->b∉ex->∃o',h'.get? b=some o'
 tups:∀b xs,H b=some (.tup xs)->H' b=some (.tup xs)
 frzs:∀b o u,H b=some (.frz o u)->H' b=some (.frz o u)
 tbls:∀b ps,H b=some (.tbl ps)->∃more,H' b=some (.tbl (ps++more))
section
variable {fs fs' ex ex':List Addr}{H H1 H2:Hp}{h h1 h2 h':Heap}{a x e:Addr}{o:HO}
theorem Un.any(u:Un fs ex H H1 h h1){b:Addr}{ob:Obj}(q:h.get? b=some ob)(n:H b=none)(hx:b∉ex):∃sl,h1.get? b=some { ob with slots:=sl }:=by
 by_cases hb:b∈fs
 ·exact u.slot b ob q n hb hx
 ·exact ⟨ob.slots,u.keep b ob q n hb hx⟩
theorem Un.kept(k:∀b u,h.get? b=some u->h'.get? b=some u):Un fs ex H H h h' :=
 ⟨λb ob q _ _ _=>k b ob q,λb ob q _ _ _=>⟨ob.slots,k b ob q⟩,λ_ _ _ n _=>n,λb ob q _=>⟨ob,k b ob q⟩,λ_ _ q=>q,λ_ _ _ q=>q,λ_ ps q=>⟨#[],by rw[q];simp⟩⟩
theorem Un.refl:Un fs ex H H h h:=Un.kept λ_ _ q=>q
theorem Un.laid(k:∀b u,h.get? b=some u->h'.get? b=some u)(hp:h.objs.size<=a)(hn:H a=none):Un fs ex H (dX H a o) h h' where
 keep:=λb u q _ _ _=>k b u q
 slot:=λb u q _ _ _=>⟨u.slots,k b u q⟩
 free:=λb u q n _=>by rw[oQ (S0 (U0 (M0 q) hp))];exact n
 there:=λb u q _=>⟨u,k b u q⟩
 tups:=λb xs q=>by rw[oQ (pQ q hn)];exact q
 frzs:=λb u xs q=>by rw[oQ (pQ q hn)];exact q
 tbls:=λb ps q=>⟨#[],by rw[oQ (pQ q hn),q];simp⟩
theorem Un.write(mu:sC (H x))(he:e=x\/H e=some (.own x))(k:∀b u,b≠e->h.get? b=some u->h'.get? b=some u)(heo:∃u,h'.get? e=some u):Un fs ex H (dX H x o) h h':=by
 have hx:∀b,H b=none->b≠x:=λb n z=>by subst z;rw[n]at mu;exact mu
 have hb:∀b,H b=none->b≠e:=λb n z=>by
  subst z
  rcases he with r|r
  ·exact hx b n r
  ·rw[n]at r;cases r
 have hm:∀b u,H b=some u->¬sC (some u)->b≠x:=λb u q nm z=>by subst z;rw[q]at mu;exact nm mu
 refine ⟨λb u q n _ _=>k b u (hb b n) q,λb u q n _ _=>⟨u.slots,k b u (hb b n) q⟩,λb u q n _=>by rw[oQ (hx b n)];exact n,λb u q _=>?_,
   λb xs q=>by rw[oQ (hm b _ q λz=>z)];exact q,λb u xs q=>by rw[oQ (hm b _ q λz=>z)];exact q,λb ps q=>⟨#[],by rw[oQ (hm b _ q λz=>z),q];simp⟩⟩
 by_cases hbe:b=e
 ·subst hbe;exact heo
 ·exact ⟨u,k b u hbe q⟩
end
noncomputable def ZI(h:Heap)(H:Hp):List Addr:=(S1 h.objs.size).filter λa=>(H a).isSome
noncomputable def mV(h:Heap)(H:Hp):Heap:=PySem.W.hideAll h (ZI h H)
theorem fD(h:Heap)(H:Hp):(mV h H).objs.size=h.objs.size:=PySem.W.hideAll_size _ _
theorem mq{h:Heap}{H:Hp}{b:Addr}{o:Obj}(e:h.get? b=some o)(n:H b=none):(mV h H).get? b=some o :=
 PySem.W.hideAll_get _ e λhm=>by
  have q:(H b).isSome=true:=(U3.mp hm).2
  rw[n]at q;simp at q
theorem Jx{h:Heap}{H:Hp}{b:Addr}{o:Obj}(e:(mV h H).get? b=some o):h.get? b=some o/\H b=none:=by
 have e':h.get? b=some o:=PySem.W.of_hideAll (ZI h H) e
 refine ⟨e',?_⟩
 cases q:H b with
 | none=>rfl
 | some x =>
  have hm:b∈ZI h H:=U3.mpr ⟨Q3.mpr (M0 e'),by simp[q]⟩
  have z:(mV h H).get? b=none:=PySem.W.hideAll_none (ZI h H) hm
  rw[z]at e;cases e
noncomputable def Kx(g h:Heap)(L:Addr):List (Addr×Obj):=(S1 h.objs.size).filterMap λa=>if a=L\/(g.get? a).isSome=true then none else (h.get? a).map λo=>(a,o)
noncomputable def rest(g h:Heap)(L d:Addr):List (Addr×Obj):=(Kx g h L).filter λp=>decide (p.1≠d)
structure Mod(K:q0)(mg:Str->Option Value)(base:Heap):Prop where
 kin:K.In base
 glob:base.Ns mainGlobals mg
 blt:∃mb,base.Ns builtinsNs mb/\∀x:Str,x ≠ "__name__"->mb x=bootBuiltins x
 nolimit:base.NoLimit
structure Cx where
 prog:Program
 w:World
 K:q0
 mg:Str->Option Value
 base:Heap
 A:Around
 N:List Str
 s₀:Shared
 H₀:Hp
 env:Env
 outer:List Env
 stack:List Env
 ex:List Addr
 fn:Str->Bool
 calm:Bool
 pn:List (Addr×Obj)
 xe:Value->Shared->Prop
noncomputable def UG(l:List Env):List Addr:=l.filterMap (·.frame)
noncomputable abbrev Cx.fs(X:Cx):List Addr:=UG X.outer
noncomputable def mC(sc:Scope)(x:Str):Prop:=sc.names.lookup x=some .local\/sc.names.lookup x=some .cell\/sc.names.lookup x=some .free
noncomputable def nC(sc:Scope)(x:Str):Prop:=sc.names.lookup x=some .local\/sc.names.lookup x=some .cell
noncomputable def KL(env:Env)(h:Heap)(m:Str->Option Value)(x:Str)(u:Value):Prop :=
 (env.kindOf x=some .local/\m x=some u)\/((env.kindOf x=some .cell\/env.kindOf x=some .free)/\∃c,env.cells.lookup x=some c/\h.IsCell c (some u))
structure Cx.Ok(X:Cx):Prop where
 mod:Mod X.K X.mg X.base
 kind:X.env.scope.kind=.function
 glob:X.env.globals=mainGlobals
 blt:X.env.builtins=builtinsNs
 above:X.s₀.heap.objs.size<=X.env.locals
 inj:∀x y c,X.env.cells.lookup x=some c->X.env.cells.lookup y=some c->x=y
 has:∀x,(X.env.kindOf x=some .cell\/X.env.kindOf x=some .free)->∃c,X.env.cells.lookup x=some c
 cab:∀x c,X.fn x=true->X.env.cells.lookup x=some c->X.s₀.heap.objs.size<=c
 hd:X.calm=true->X.A.handled=none
 frames:X.A.frames=some X.stack
 stk:X.stack=X.outer\/(X.stack=X.env :: X.outer/\X.env.frame=some X.env.locals)
 exf:∀b∈X.ex,b≠X.env.locals/\∀x c,X.env.cells.lookup x=some c->c≠b
 bs:∀b o,X.base.get? b=some o->X.s₀.heap.get? b=some o/\X.H₀ b=none
 bsz:X.base.objs.size<=X.s₀.heap.objs.size
 noex:∀b o,X.base.get? b=some o->b∉X.ex
 exfs:∀b∈X.ex,b∉X.fs
 funs:X.s₀.heap.FunFrames X.base X.outer
 frf:∀b∈X.fs,X.H₀ b=none
structure Inv(X:Cx)(pins:List (Addr×Obj))(σ:List (Option V))(H:Hp)(s:Shared):Prop where
 ok:X.Ok
 os:s.os=X.s₀.os
 bare:AllBare s.gens
 base:Un X.fs X.ex X.H₀ H X.s₀.heap s.heap
 loc:∃m,s.heap.Ns X.env.locals m/\∀(i:Nat) (x:Str) (v:V),X.N[i]?=some x->σ[i]?=some (some v)->mC X.env.scope x->∃u,RelV v u/\KL X.env s.heap m x u
 cell:∀x c,X.env.cells.lookup x=some c->∃v,s.heap.IsCell c v
 free:H X.env.locals=none
 freeC:∀x c,X.env.cells.lookup x=some c->H c=none
 pin:∀p∈X.pn++pins,s.heap.get? p.1=some p.2/\H p.1=none/\p.1≠X.env.locals/\p.1∉X.fs/\∀v,p.2.data≠.cell v
 hok:HOk X.prog X.w H s.heap
 len:σ.length=X.N.length
section
variable {X:Cx}{pins:List (Addr×Obj)}{σ:List (Option V)}{H H':Hp}{s:Shared}{h':Heap}
theorem Cx.Ok.nofr(ok:X.Ok){b:Addr}{o:Obj}(e:X.base.get? b=some o):b∉X.fs:=λhb=>by
 have:=(ok.funs.mem hb).1
 rw[e]at this;cases this
theorem Inv.bs(I:Inv X pins σ H s):∀b o,X.base.get? b=some o->s.heap.get? b=some o/\H b=none:=λb o e =>
 ⟨I.base.keep b o (I.ok.bs b o e).1 (I.ok.bs b o e).2 (I.ok.nofr e) (I.ok.noex b o e),I.base.free b o (I.ok.bs b o e).1 (I.ok.bs b o e).2 (I.ok.noex b o e)⟩
theorem Inv.bk(I:Inv X pins σ H s):∀b o,X.base.get? b=some o->s.heap.get? b=some o:=λb o e=>(I.bs b o e).1
theorem Inv.mod(I:Inv X pins σ H s):Mod X.K X.mg X.base:=I.ok.mod
theorem Inv.kIn(I:Inv X pins σ H s):X.K.In s.heap:=I.ok.mod.kin.keeps I.bk
theorem Inv.lt(I:Inv X pins σ H s):X.env.locals < s.heap.objs.size:=let ⟨_,hn,_⟩:=I.loc;hn.lt
theorem Inv.sz(I:Inv X pins σ H s):X.s₀.heap.objs.size<=s.heap.objs.size:=Z0 I.ok.above (Y4 I.lt)
theorem Inv.nofs(I:Inv X pins σ H s){a:Addr}(h:s.heap.objs.size<=a):a∉X.fs:=λhb=>by
 obtain⟨_,o,ho,_⟩:=I.ok.funs.mem hb
 exact absurd (U0 (M0 ho) (Z0 I.sz h)) (G3 _)
theorem Inv.cne(I:Inv X pins σ H s):∀x c,X.env.cells.lookup x=some c->c≠X.env.locals:=λx c e z=>by
 obtain⟨v,o,ho,hd⟩:=I.cell x c e
 obtain⟨m,⟨o',es,ep,ho',hd',_⟩,_⟩:=I.loc
 rw[z,ho']at ho;cases ho;rw[hd']at hd;cases hd
theorem Inv.funs(I:Inv X pins σ H s):s.heap.FunFrames X.base X.outer:=by
 have all:∀(l:List Env),(∀b∈UG l,b∈X.fs)->X.s₀.heap.FunFrames X.base l->s.heap.FunFrames X.base l:=by
  intro l
  induction l with
  | nil=>intro _ _;trivial
  | cons env r ih =>
   intro hs hl
   obtain⟨hk,⟨L,o,hf,hn,ho,hd⟩,hr⟩:=hl
   have hL:L∈X.fs:=hs L (by unfold UG;rw[h7,hf];exact G0)
   obtain⟨sl,e⟩:=I.base.slot L o ho (I.ok.frf L hL) hL λz=>I.ok.exfs L z hL
   exact ⟨hk,⟨L,_,hf,hn,e,hd⟩,ih (λb hb=>hs b (by unfold UG;rw[h7,hf];exact J0 _ hb)) hr⟩
 exact all X.outer (λ_ hb=>hb) I.ok.funs
theorem Inv.stack(I:Inv X pins σ H s):s.heap.FunFrames X.base X.stack:=by
 rcases I.ok.stk with e|⟨e,hf⟩
 ·rw[e];exact I.funs
 ·rw[e]
  obtain⟨m,hn,_⟩:=I.loc
  refine .cons (by rw[I.ok.kind];decide) hf hn ?_ I.funs
  exact Heap.get?_none_of_le (Z0 I.ok.bsz I.ok.above)
theorem Inv.stkSub(I:Inv X pins σ H s):∀b∈UG X.stack,b∈X.env.locals :: X.fs:=λb hb=>by
 rcases I.ok.stk with e|⟨e,hf⟩
 ·rw[e]at hb;exact J0 _ hb
 ·rw[e]at hb
  unfold UG at hb
  rw[h7,hf]at hb
  exact hb
theorem Inv.stkFree(I:Inv X pins σ H s):∀b∈UG X.stack,H b=none:=λb hb=>by
 rcases K0.mp (I.stkSub b hb) with e|hb
 ·rw[e];exact I.free
 ·obtain⟨_,o,ho,_⟩:=I.ok.funs.mem hb
  exact I.base.free b o ho (I.ok.frf b hb) λz=>I.ok.exfs b z hb
theorem Inv.step{g':Array GenState}{t':Nat}{d':Drawn}{ch:List Addr}(I:Inv X pins σ H s)
  (hch:∀b∈ch,(b∈X.ex\/X.s₀.heap.objs.size<=b)/\b≠X.env.locals/\(∀x c,X.env.cells.lookup x=some c->c≠b)/\∀p∈X.pn++pins,p.1≠b)
  (keep:∀b o,b≠X.env.locals->b∉X.fs->b∉ch->s.heap.get? b=some o->H b=none->h'.get? b=some o)
  (slot:∀b o,b≠X.env.locals->b∈X.fs->b∉ch->s.heap.get? b=some o->H b=none->∃sl,h'.get? b=some { o with slots:=sl }) (free:∀b o,b∉ch->s.heap.get? b=some o->H b=none->H' b=none)
  (there:∀b o,b∉ch->s.heap.get? b=some o->∃o',h'.get? b=some o')
  (tups:∀b xs,H b=some (.tup xs)->H' b=some (.tup xs)) (frzs:∀b o u,H b=some (.frz o u)->H' b=some (.frz o u)) (tbls:∀b ps,H b=some (.tbl ps)->∃more,H' b=some (.tbl (ps++more)))
  (ns:∀m,s.heap.Ns X.env.locals m->h'.Ns X.env.locals m) (hok:HOk X.prog X.w H' h') (hg:AllBare g') :
  Inv X pins σ H' { s with heap:=h',gens:=g',drawn:=d',toks:=t' }:=by
 have neL:∀b o,X.s₀.heap.get? b=some o->b≠X.env.locals:=λb o e=>S0 (U0 (M0 e) I.ok.above)
 have neC:∀b o,X.s₀.heap.get? b=some o->b∉X.ex->b∉ch:=λb o e hx hb=>by
  rcases (hch b hb).1 with z|z
  ·exact hx z
  ·exact absurd (U0 (M0 e) z) (G3 _)
 have cellK:∀x c,X.env.cells.lookup x=some c->∀v,s.heap.IsCell c v->h'.IsCell c v:=λx c e v ⟨o,ho,hd⟩=>by
  have nch:c∉ch:=λz=>(hch c z).2.2.1 x c e rfl
  by_cases hc:c∈X.fs
  ·obtain⟨sl,q⟩:=slot c o (I.cne x c e) hc nch ho (I.freeC x c e)
   exact ⟨_,q,hd⟩
  ·exact ⟨o,keep c o (I.cne x c e) hc nch ho (I.freeC x c e),hd⟩
 refine ⟨I.ok,I.os,hg,⟨λb o e n hb hx=>?_,λb o e n hb hx=>?_,λb o e n hx=>?_,λb o e hx=>?_,λb xs e=>tups b xs (I.base.tups b xs e),λb o xs e=>frzs b o xs (I.base.frzs b o xs e),λb ps e=>?_⟩,?_,λx c e=>?_,?_,λx c e=>?_,λp hp=>?_,hok,I.len⟩
 ·exact keep b o (neL b o e) hb (neC b o e hx) (I.base.keep b o e n hb hx) (I.base.free b o e n hx)
 ·obtain⟨sl,e1⟩:=I.base.slot b o e n hb hx
  obtain⟨sl',e2⟩:=slot b _ (neL b o e) hb (neC b o e hx) e1 (I.base.free b o e n hx)
  exact ⟨sl',e2⟩
 ·obtain⟨o',e1⟩:=I.base.there b o e hx
  exact free b o' (neC b o e hx) e1 (I.base.free b o e n hx)
 ·obtain⟨o',e1⟩:=I.base.there b o e hx
  exact there b o' (neC b o e hx) e1
 ·obtain⟨m1,e1⟩:=I.base.tbls b ps e
  obtain⟨m2,e2⟩:=tbls b _ e1
  exact ⟨m1++m2,by rw[e2,Array.append_assoc]⟩
 ·obtain⟨m,hn,hl⟩:=I.loc
  refine ⟨m,ns m hn,λi x v e1 e2 e3=>?_⟩
  obtain⟨u,r,l⟩:=hl i x v e1 e2 e3
  refine ⟨u,r,?_⟩
  rcases l with l|⟨k,c,e,z⟩
  ·exact .inl l
  ·exact .inr ⟨k,c,e,cellK x c e _ z⟩
 ·obtain⟨v,z⟩:=I.cell x c e
  exact ⟨v,cellK x c e v z⟩
 ·obtain⟨m,⟨o,_,_,ho,_⟩,_⟩:=I.loc
  exact free _ o (λz=>(hch _ z).2.1 rfl) ho I.free
 ·obtain⟨v,o,ho,hd⟩:=I.cell x c e
  exact free c o (λz=>(hch c z).2.2.1 x c e rfl) ho (I.freeC x c e)
 ·obtain⟨e,n,ne,nf,d⟩:=I.pin p hp
  have nch:p.1∉ch:=λz=>(hch p.1 z).2.2.2 p hp rfl
  exact ⟨keep p.1 p.2 ne nf nch e n,free p.1 p.2 nch e n,ne,nf,d⟩
theorem Inv.un{t':Nat}(I:Inv X pins σ H s)(u:Un X.fs [] H H' s.heap h')(hok:HOk X.prog X.w H' h'):Inv X pins σ H' { s with heap:=h',toks:=t' }:=by
 obtain⟨m,⟨o,es,ep,ho,r⟩,_⟩:=id I.loc
 obtain⟨sl,hL⟩:=u.any ho I.free (by simp)
 exact I.step (g':=s.gens) (d':=s.drawn) (ch:=[]) (λ_ z=>nomatch z) (λb o _ hb _ e n=>u.keep b o e n hb (by simp)) (λb o _ hb _ e n=>u.slot b o e n hb (by simp)) (λb o _ e n=>u.free b o e n (by simp)) (λb o _ e=>u.there b o e (by simp)) u.tups u.frzs u.tbls (λm' hm=>by
   obtain⟨o',es',ep',ho',r'⟩:=hm
   rw[ho]at ho';cases ho'
   exact ⟨_,es',ep',hL,r'⟩) hok I.bare
theorem Inv.call{g':Array GenState}{t':Nat}{d':Drawn}{ch:List Addr}(I:Inv X pins σ H s)(u:Un (UG X.stack) ch H H' s.heap h')(hok:HOk X.prog X.w H' h')(hg:AllBare g')
  (hch:∀b∈ch,(b∈X.ex\/X.s₀.heap.objs.size<=b)/\b≠X.env.locals/\(∀x c,X.env.cells.lookup x=some c->c≠b)/\∀p∈X.pn++pins,p.1≠b) :
  Inv X pins σ H' { s with heap:=h',gens:=g',drawn:=d',toks:=t' }:=by
 obtain⟨m,⟨o,es,ep,ho,r⟩,_⟩:=id I.loc
 obtain⟨sl,hL⟩:=u.any ho I.free λz=>(hch _ z).2.1 rfl
 exact I.step (ch:=ch) hch (λb o hL hb hc e n=>u.keep b o e n (λz=>(K0.mp (I.stkSub b z)).elim hL hb) hc) (λb o _ _ hc e n=>u.any e n hc) (λb o hc e n=>u.free b o e n hc) (λb o hc e=>u.there b o e hc) u.tups u.frzs u.tbls (λm' hm=>by
   obtain⟨o',es',ep',ho',r'⟩:=hm
   rw[ho]at ho';cases ho'
   exact ⟨_,es',ep',hL,r'⟩) hok hg
theorem Inv.turned{t':Nat}{it:Addr}(I:Inv X pins σ H s)(k:∀b o,b≠it->s.heap.get? b=some o->h'.get? b=some o)(hn:H it=none)(hL:it≠X.env.locals)
  (h1:it∈X.ex\/X.s₀.heap.objs.size<=it) (h2:∀x c,X.env.cells.lookup x=some c->c≠it) (h3:∀p∈X.pn++pins,p.1≠it):Inv X pins σ H { s with heap:=h',toks:=t' }:=by
 have nit:∀b u,H b=some u->b≠it:=λb u e z=>by rw[z,hn]at e;cases e
 refine I.step (g':=s.gens) (d':=s.drawn) (ch:=[it]) (λb hb=>?_) (λb o _ _ hc e _=>k b o (λz=>hc (by simp[z])) e) (λb o _ _ hc e _=>⟨o.slots,k b o (λz=>hc (by simp[z])) e⟩) (λ_ _ _ _ n=>n)
  (λb o hc e=>⟨o,k b o (λz=>hc (by simp[z])) e⟩) (λ_ _ e=>e) (λ_ _ _ e=>e) (λb ps e=>⟨#[],by rw[e];simp⟩) (λm hm=>?_) (λb u e=>?_) I.bare
 ·have e:b=it:=by simpa using hb
  subst e
  exact ⟨h1,hL,h2,h3⟩
 ·obtain⟨o,es,ep,ho,r⟩:=hm
  exact ⟨o,es,ep,k _ o (m4 hL) ho,r⟩
 ·refine (I.hok b u e).stay (λc v hc q=>k c v ?_ q) (λ_ q=>q) λ_ _ q=>q
  rcases hc with z|z
  ·rw[z];exact nit b u e
  ·exact nit c _ z
theorem Inv.tok(I:Inv X pins σ H s)(t:Nat):Inv X pins σ H { s with toks:=t }:=I.un (h':=s.heap) (t':=t) Un.refl I.hok
theorem Inv.kept{t':Nat}(I:Inv X pins σ H s)(k:∀b u,s.heap.get? b=some u->h'.get? b=some u):Inv X pins σ H { s with heap:=h',toks:=t' }:=I.un (Un.kept k) (I.hok.kept k)
theorem Inv.laid{a:Addr}{o:HO}{t':Nat}(I:Inv X pins σ H s)(k:∀b u,s.heap.get? b=some u->h'.get? b=some u)(hp:s.heap.objs.size<=a)(new:ObjOk X.prog X.w (dX H a o) h' a o) :
  Inv X pins σ (dX H a o) { s with heap:=h',toks:=t' }:=I.un (Un.laid k hp (I.hok.fresh hp)) (I.hok.laid k hp new)
theorem Inv.write{x e:Addr}{o:HO}{t':Nat}(I:Inv X pins σ H s)(mu:sC (H x))(he:e=x\/H e=some (.own x))(k:∀b u,b≠e->s.heap.get? b=some u->h'.get? b=some u)(heo:∃u,h'.get? e=some u)
  (new:ObjOk X.prog X.w (dX H x o) h' x o):Inv X pins σ (dX H x o) { s with heap:=h',toks:=t' }:=I.un (Un.write mu he k heo) (I.hok.write mu he k heo new)
theorem Inv.pins_of{pins':List (Addr×Obj)}(I:Inv X pins σ H s)(h:∀p∈pins',s.heap.get? p.1=some p.2/\H p.1=none/\p.1≠X.env.locals/\p.1∉X.fs/\∀v,p.2.data≠.cell v):Inv X pins' σ H s :=
 ⟨I.ok,I.os,I.bare,I.base,I.loc,I.cell,I.free,I.freeC,λp hp=>(V0.mp hp).elim (λz=>I.pin p (L5 _ z)) (h p),I.hok,I.len⟩
theorem gU{N:List Str}(hN:N.Nodup){i j:Nat}{x:Str}(a:N[i]?=some x)(b:N[j]?=some x):i=j:=by
 obtain⟨h1,e1⟩:=O1.mp a
 obtain⟨h2,e2⟩:=O1.mp b
 exact (List.getElem_inj hN).mp (e1.trans e2.symm)
theorem AW{M:Model}{A:Around}{E:Value->Shared->Prop}{i:Nat}{x:Str}{v:V}{u:Value}{Q:Unit->Shared->Prop}(I:Inv X pins σ H s)(hN:X.N.Nodup)(hi:X.N[i]?=some x)(hx:nC X.env.scope x)(r:RelV v u)
  (h:∀s',Inv X pins (σ.set i (some v)) H s'->(∃a,W3 a s.heap s'.heap/\(a=X.env.locals\/X.env.cells.lookup x=some a))->Q () s') (hf:X.fn x=true\/X.env.scope.names.lookup x=some .local:=by first|exact .inl rfl|exact .inr rfl|assumption):wpAny M A (storeName X.env x u) Q E s:=by
 obtain⟨m,hn,hl⟩:=id I.loc
 have hcls:(X.env.scope.kind==.class||(X.env.scope.kind==.module&&X.env.locals != X.env.globals))=false:=by rw[I.ok.kind];rfl
 have hiσ:i < σ.length:=by rw[I.len];exact (O1.mp hi).1
 have cne:=I.cne
 have tracked:∀{a:Addr}{h':Heap},(∃o,s.heap.get? a=some o/\H a=none)->W3 a s.heap h'->HOk X.prog X.w H h':=λ{a h'} ha hs b ob e=>by
  obtain⟨_,_,hfree⟩:=ha
  refine (I.hok b ob e).stay (λc w' hc q=>(hs.2 c ?_).trans q) (λ_ q=>q) λ_ _ q=>q
  rintro rfl
  rcases hc with rfl|hc
  ·rw[hfree]at e;cases e
  ·rw[hfree]at hc;cases hc
 rcases hx with hk|hk
 ·refine wpAny_storeName_local hk hn (λh' hn' hs=>?_) hcls
  obtain⟨oL,_,_,hoL,_⟩:=id hn
  refine h _ ⟨I.ok,I.os,I.bare,⟨λb o e n hb hx=>?_,λb o e n hb hx=>?_,I.base.free,λb o e hx=>?_,I.base.tups,I.base.frzs,I.base.tbls⟩,⟨_,hn',λj y v' e1 e2 e3=>?_⟩,λy c e=>?_,I.free,I.freeC,λp hp=>?_,tracked ⟨oL,hoL,I.free⟩ hs,by simpa using I.len⟩ ⟨_,hs,.inl rfl⟩
  ·exact (hs.2 b (S0 (U0 (M0 e) I.ok.above))).trans (I.base.keep b o e n hb hx)
  ·obtain⟨sl,e1⟩:=I.base.slot b o e n hb hx
   exact ⟨sl,(hs.2 b (S0 (U0 (M0 e) I.ok.above))).trans e1⟩
  ·obtain⟨o',e1⟩:=I.base.there b o e hx
   exact ⟨o',(hs.2 b (S0 (U0 (M0 e) I.ok.above))).trans e1⟩
  ·by_cases hj:j=i
   ·subst hj
    rw[hi]at e1;cases e1
    rw[n8 hiσ]at e2
    cases e2
    exact ⟨u,r,.inl ⟨hk,by simp⟩⟩
   ·rw[L1 (m4 hj)]at e2
    obtain⟨u',r',q⟩:=hl j y v' e1 e2 e3
    refine ⟨u',r',?_⟩
    rcases q with⟨k,e⟩|⟨k,c,e,z⟩
    ·refine .inl ⟨k,?_⟩
     have:y≠x:=λe=>hj (gU hN e1 (e ▸ hi))
     simp[this,e]
    ·exact .inr ⟨k,c,e,z.sameBut hs (cne y c e)⟩
  ·obtain⟨w',z⟩:=I.cell y c e
   exact ⟨w',z.sameBut hs (cne y c e)⟩
  ·obtain⟨e,n,ne,nf,d⟩:=I.pin p hp
   exact ⟨(hs.2 p.1 ne).trans e,n,ne,nf,d⟩
 ·have hfn:X.fn x=true:=by
   rcases hf with z|z
   ·exact z
   ·rw[z]at hk;cases hk
  obtain⟨c,hc⟩:=I.ok.has x (.inl hk)
  obtain⟨w',z⟩:=I.cell x c hc
  refine wpAny_storeName_cell I.ok.kind hk hc z (λh' hc' hs=>?_)
  obtain⟨oc,hoc,hocd⟩:=id z
  refine h { s with heap:=h' } ⟨I.ok,I.os,I.bare,⟨λb o e n hb hx=>?_,λb o e n hb hx=>?_,I.base.free,λb o e hx=>?_,I.base.tups,I.base.frzs,I.base.tbls⟩,⟨m,hn.sameBut hs (m4 (cne x c hc)),λj y v' e1 e2 e3=>?_⟩,λy c' e=>?_,I.free,I.freeC,λp hp=>?_,tracked ⟨oc,hoc,I.freeC x c hc⟩ hs,by simpa using I.len⟩ ⟨c,hs,.inr hc⟩
  ·exact (hs.2 b (S0 (U0 (M0 e) (I.ok.cab x c hfn hc)))).trans (I.base.keep b o e n hb hx)
  ·obtain⟨sl,e1⟩:=I.base.slot b o e n hb hx
   exact ⟨sl,(hs.2 b (S0 (U0 (M0 e) (I.ok.cab x c hfn hc)))).trans e1⟩
  ·obtain⟨o',e1⟩:=I.base.there b o e hx
   exact ⟨o',(hs.2 b (S0 (U0 (M0 e) (I.ok.cab x c hfn hc)))).trans e1⟩
  ·by_cases hj:j=i
   ·subst hj
    rw[hi]at e1;cases e1
    rw[n8 hiσ]at e2
    cases e2
    exact ⟨u,r,.inr ⟨.inl hk,c,hc,hc'⟩⟩
   ·rw[L1 (m4 hj)]at e2
    obtain⟨u',r',q⟩:=hl j y v' e1 e2 e3
    refine ⟨u',r',?_⟩
    rcases q with q|⟨k,c',e,z'⟩
    ·exact .inl q
    ·refine .inr ⟨k,c',e,z'.sameBut hs ?_⟩
     rintro rfl
     exact hj (gU hN e1 (I.ok.inj _ _ _ e hc ▸ hi))
  ·by_cases hcc:c'=c
   ·subst hcc;exact ⟨_,hc'⟩
   ·obtain⟨w2,z2⟩:=I.cell y c' e
    exact ⟨w2,z2.sameBut hs hcc⟩
  ·obtain⟨e,n,ne,nf,d⟩:=I.pin p hp
   refine ⟨(hs.2 p.1 ?_).trans e,n,ne,nf,d⟩
   intro q
   rw[q,hoc]at e
   have q':oc=p.2:=Q1 e
   exact d w' (by rw[<- q'];exact hocd)
theorem hU{M:Model}{A:Around}{E:Value->Shared->Prop}{i:Nat}{x:Str}{v:V}{u:Value}{Q:Unit->Shared->Prop}(I:Inv X pins σ H s)(hN:X.N.Nodup)(hi:X.N[i]?=some x)(hx:nC X.env.scope x)(r:RelV v u)
  (h:∀s',Inv X pins (σ.set i (some v)) H s'->Q () s') (hf:X.fn x=true\/X.env.scope.names.lookup x=some .local:=by first|exact .inl rfl|exact .inr rfl|assumption):wpAny M A (storeName X.env x u) Q E s :=
 AW I hN hi hx r (λs' I' _=>h s' I') hf
theorem Inv.call'{s':Shared}{ch:List Addr}(I:Inv X pins σ H s)(ho:s'.os=s.os)(u:Un (UG X.stack) ch H H' s.heap s'.heap)(hok:HOk X.prog X.w H' s'.heap)(hg:AllBare s'.gens)
  (hch:∀b∈ch,(b∈X.ex\/X.s₀.heap.objs.size<=b)/\b≠X.env.locals/\(∀x c,X.env.cells.lookup x=some c->c≠b)/\∀p∈X.pn++pins,p.1≠b):Inv X pins σ H' s':=by
 obtain⟨h',g',d',t',o'⟩:=s'
 have e:o'=s.os:=ho
 subst e
 exact I.call (g':=g') (t':=t') (d':=d') u hok hg hch
end
noncomputable abbrev XK:=Value->Option Addr->Hp->Prop
noncomputable abbrev St:=List (Option V)
noncomputable abbrev VK:=V->Hp->Prop
noncomputable abbrev TE:=St->Hp->VK->Prop
noncomputable abbrev TT:=St->Hp->(Bool->Hp->Prop)->Prop
noncomputable abbrev TA:=St->Hp->(List V->Hp->Prop)->Prop
structure Ends where
 nx:St->Hp->Prop
 rt:VK
 bk:St->Hp->Prop:=λ_ _=>False
 ct:St->Hp->Prop:=λ_ _=>False
noncomputable abbrev TS:=Ends->St->Hp->Prop
noncomputable def EP(X:Cx)(pins:List (Addr×Obj))(σ:St)(Q:VK)(u:Value)(s':Shared):Prop:=∃v H',Inv X pins σ H' s'/\RelV v u/\Q v H'
noncomputable def TP(X:Cx)(pins:List (Addr×Obj))(σ:St)(Q:Bool->Hp->Prop)(b:Bool)(s':Shared):Prop:=∃H',Inv X pins σ H' s'/\Q b H'
noncomputable def AP(X:Cx)(pins:List (Addr×Obj))(σ:St)(Q:List V->Hp->Prop)(us:List Value)(s':Shared):Prop:=∃vs H',Inv X pins σ H' s'/\Vals vs us/\Q vs H'
noncomputable def SP(X:Cx)(pins:List (Addr×Obj))(D:Ends)(f:Flow)(s':Shared):Prop :=
 match f with
 | .next=>∃σ' H',Inv X pins σ' H' s'/\D.nx σ' H'
 | .brk=>∃σ' H',Inv X pins σ' H' s'/\D.bk σ' H'
 | .cont=>∃σ' H',Inv X pins σ' H' s'/\D.ct σ' H'
 | .ret u=>∃v σ' H',Inv X pins σ' H' s'/\RelV v u/\D.rt v H'
noncomputable def PE(X:Cx)(e:Expr)(t:TE):Prop :=
 ∀(pins:List (Addr×Obj)) (s:Shared) (σ:St) (H:Hp) (Q:VK),Inv X pins σ H s->t σ H Q->wpAny (model X.prog X.w) X.A (eval e X.env) (EP X pins σ Q) X.xe s
noncomputable def PT(X:Cx)(e:Expr)(t:TT):Prop :=
 ∀(pins:List (Addr×Obj)) (s:Shared) (σ:St) (H:Hp) (Q:Bool->Hp->Prop),Inv X pins σ H s->t σ H Q->wpAny (model X.prog X.w) X.A (isTrue e X.env (eval e X.env)) (TP X pins σ Q) X.xe s
noncomputable def PW(X:Cx)(e:Expr)(t:TT):Prop :=
 ∀(whole:Sem Value) (pins:List (Addr×Obj)) (s:Shared) (σ:St) (H:Hp) (Q:Bool->Hp->Prop),Inv X pins σ H s->t σ H Q->wpAny (model X.prog X.w) X.A (isTrue e X.env whole) (TP X pins σ Q) X.xe s
theorem PW.pt{X:Cx}{e:Expr}{t:TT}(h:PW X e t):PT X e t:=h _
noncomputable def PA(X:Cx)(es:List Expr)(t:TA):Prop :=
 ∀(pos:Pos) (pins:List (Addr×Obj)) (s:Shared) (σ:St) (H:Hp) (Q:List V->Hp->Prop),Inv X pins σ H s->t σ H Q->wpAny (model X.prog X.w) X.A (spliced (backTo pos (starEach es X.env))) (AP X pins σ Q) X.xe s
noncomputable def PS(X:Cx)(st:Stmt)(t:TS):Prop :=
 ∀(pins:List (Addr×Obj)) (s:Shared) (σ:St) (H:Hp) (D:Ends),Inv X pins σ H s->t D σ H->wpAny (model X.prog X.w) X.A (exec st X.env) (SP X pins D) X.xe s
noncomputable def PSs(X:Cx)(st:List Stmt)(t:TS):Prop :=
 ∀(pins:List (Addr×Obj)) (s:Shared) (σ:St) (H:Hp) (D:Ends),Inv X pins σ H s->t D σ H->wpAny (model X.prog X.w) X.A (execs st X.env) (SP X pins D) X.xe s
theorem pX{α:Type}{t:Sem α}{Q Q':α->Shared->Prop}{M:Model}{A:Around}{E:Value->Shared->Prop}{s:Shared}(h:wpAny M A t Q E s)(hQ:∀a s,Q a s->Q' a s):wpAny M A t Q' E s:=wpAny_mono h hQ λ_ _ x=>x
section
variable {X:Cx}
noncomputable def DX(i:Nat):TE:=λσ H Q=>∃v,σ[i]?=some (some v)/\Q v H
noncomputable def tC(v:V):TE:=λ_ H Q=>Q v H
theorem AH{i:Nat}{x:Str}{pos:Pos}(hN:X.N[i]?=some x)(hv:mC X.env.scope x)(hd:(x==("__debug__":Str))=false:=by decide)(hcd:(x==("__classdict__":Str))=false:=by decide):PE X (.Name x pos) (DX i):=by
 intro pins s σ H Q I h
 obtain⟨v,e,h⟩:=h
 obtain⟨m,hn,hl⟩:=I.loc
 obtain⟨u,r,l⟩:=hl i x v hN e hv
 have fin:EP X pins σ Q u s:=⟨v,H,I,r,h⟩
 rcases l with⟨hk,hm⟩|⟨hk,c,hc,hcell⟩
 ·exact wpAny_Name (wpAny_loadName_local I.ok.kind hk hn hm fin) hd
 ·rcases hk with hk|hk
  ·exact wpAny_Name (wpAny_loadName_cell I.ok.kind hk hc hcell fin) hd
  ·exact wpAny_Name (wpAny_loadName_free I.ok.kind hk hc hcell fin hcd) hd
theorem Ky{i j pos}:PE X (.Constant (.int i) j pos) (tC (.int i)):=λ_ _ _ H _ I h=>wpAny_Constant_int ⟨.int i,H,I.tok _,⟨_,rfl⟩,h⟩
theorem uC{b j pos}:PE X (.Constant (.bool b) j pos) (tC (.bl b)):=λ_ _ _ H _ I h=>Constant_bool ⟨.bl b,H,I,rfl,h⟩
theorem Ly{j pos}:PE X (.Constant .none j pos) (tC .non):=λ_ _ _ H _ I h=>Constant_none ⟨.non,H,I,rfl,h⟩
theorem My{x j pos}:PE X (.Constant (.str x) j pos) (tC (.str x)):=λ_ _ _ H _ I h=>Calls.Constant_str ⟨.str x,H,I.tok _,⟨_,rfl⟩,h⟩
noncomputable def Gl(X:Cx)(x:Str):Prop:=X.env.kindOf x=some .globalImplicit
theorem Lx{E:Value->Shared->Prop}{pins:List (Addr×Obj)}{s:Shared}{σ:St}{H:Hp}{x:Str}{u:Value}{pos:Pos}{Q:Value->Shared->Prop}(I:Inv X pins σ H s)(hg:Gl X x)(hm:X.mg x=some u)(h:Q u s)
  (hd:(x==("__debug__":Str))=false:=by decide):wpAny (model X.prog X.w) X.A (eval (.Name x pos) X.env) Q E s :=
 Calls.Name_function_global I.ok.kind hg (Calls.loadGlobal_global (by rw[I.ok.glob];exact I.mod.glob.keeps I.bk) hm h) hd
theorem wK{E:Value->Shared->Prop}{pins:List (Addr×Obj)}{s:Shared}{σ:St}{H:Hp}{x:Str}{u:Value}{pos:Pos}{Q:Value->Shared->Prop}(I:Inv X pins σ H s)(hg:Gl X x)(hm:X.mg x=none)(hv:bootBuiltins x=some u)(h:Q u s)
  (hn:x ≠ "__name__":=by decide) (hd:(x==("__debug__":Str))=false:=by decide):wpAny (model X.prog X.w) X.A (eval (.Name x pos) X.env) Q E s:=by
 obtain⟨mb,h1,h2⟩:=I.mod.blt
 exact Calls.Name_function_global I.ok.kind hg (Calls.loadGlobal_builtin (by rw[I.ok.glob];exact I.mod.glob.keeps I.bk) hm (by rw[I.ok.blt];exact h1.keeps I.bk) ((h2 x hn).trans hv) h) hd
theorem Mx{x:Str}{v:V}{u:Value}{pos:Pos}(hg:Gl X x)(hm:X.mg x=none)(hv:bootBuiltins x=some u)(r:RelV v u)(hn:x ≠ "__name__":=by decide)(hd:(x==("__debug__":Str))=false:=by decide):PE X (.Name x pos) (tC v) :=
 λ_ _ _ H _ I h=>wK I hg hm hv ⟨v,H,I,r,h⟩ hn hd
variable {a b:Expr}{ta tb:TE}{pos:Pos}
noncomputable def tB(t:TE):TT:=λσ H Q=>t σ H λx H1=>∃c,x=.bl c/\Q c H1
theorem Ny{e:Expr}{t:TE}(h:PE X e t)(he:∀whole,isTrue e X.env whole=(do let v<-whole;standAt e.pos;holding [v] (truthy v)):=by intro _;rfl):PT X e (tB t):=by
 intro pins s σ H Q I hw
 refine isTrue_plain (pX (h pins s σ H _ I hw) λv s1 ⟨x,H1,I1,r1,q1⟩=>?_) (he _)
 obtain⟨d,rfl,q⟩:=q1
 cases r1
 exact wpAny_truthy_bool ⟨H1,I1,q⟩
variable {tA tB':TT}{rest:List Expr}
noncomputable def Oy(t u:TT):TT:=λσ H Q=>t σ H λc H1=>if c=true then u σ H1 Q else Q false H1
noncomputable def LL(t u:TT):TT:=λσ H Q=>t σ H λc H1=>if c=true then Q true H1 else u σ H1 Q
noncomputable def Py(t:TT):TT:=λσ H Q=>t σ H λc H1=>Q (!c) H1
theorem Nx(ha:PT X a tA):PW X (.BoolOp .And [a] pos) tA:=by
 intro wh pins s σ H Q I h
 refine isTrue_and (pX (ha pins s σ H Q I h) λc s1 e=>?_)
 cases c with
 | true=>exact isTrue_and_nil e
 | false=>exact e
theorem Qy(ha:PT X a tA):PW X (.BoolOp .Or [a] pos) tA:=by
 intro wh pins s σ H Q I h
 refine isTrue_or (pX (ha pins s σ H Q I h) λc s1 e=>?_)
 cases c with
 | false=>exact isTrue_or_nil e
 | true=>exact e
theorem Ry(ha:PT X a tA)(hb:PW X (.BoolOp .And (b :: rest) pos) tB'):PW X (.BoolOp .And (a :: b :: rest) pos) (Oy tA tB'):=by
 intro wh pins s σ H Q I h
 refine isTrue_and (pX (ha pins s σ H _ I h) λc s1 ⟨H1,I1,q1⟩=>?_)
 cases c with
 | true=>exact hb wh pins s1 σ H1 Q I1 q1
 | false=>exact ⟨H1,I1,q1⟩
theorem vC(ha:PT X a tA)(hb:PW X (.BoolOp .Or (b :: rest) pos) tB'):PW X (.BoolOp .Or (a :: b :: rest) pos) (LL tA tB'):=by
 intro wh pins s σ H Q I h
 refine isTrue_or (pX (ha pins s σ H _ I h) λc s1 ⟨H1,I1,q1⟩=>?_)
 cases c with
 | true=>exact ⟨H1,I1,q1⟩
 | false=>exact hb wh pins s1 σ H1 Q I1 q1
theorem Ty(ha:PT X a tA):PT X (.UnaryOp .Not a pos) (Py tA):=by
 intro pins s σ H Q I h
 exact isTrue_not (ha pins s σ H (λc H1=>Q (!c) H1) I h)
noncomputable def nq(ta tb:TE):TE:=λσ H Q=>ta σ H λx H1=>∃c,x=.bl c/\if c=true then tb σ H1 Q else Q (.bl false) H1
noncomputable def oq(ta:TE):TE:=λσ H Q=>ta σ H λx H1=>∃c,x=.bl c/\Q (.bl (!c)) H1
theorem Uy{op}{t:TE}(h:PE X a t):PE X (.BoolOp op [a] pos) t:=λpins s σ H Q I hw=>BoolOp_one (h pins s σ H Q I hw)
theorem Vy(ha:PE X a ta)(hb:PE X (.BoolOp .And (b :: rest) pos) tb):PE X (.BoolOp .And (a :: b :: rest) pos) (nq ta tb):=by
 intro pins s σ H Q I h
 refine BoolOp_and (pX (ha pins s σ H _ I h) λv s1 ⟨x,H1,I1,r1,q1⟩=>?_)
 obtain⟨c,rfl,q1⟩:=q1
 cases r1
 refine wpAny_truthy_bool ?_
 cases c with
 | true=>exact hb pins s1 σ H1 Q I1 q1
 | false=>exact ⟨.bl false,H1,I1,rfl,q1⟩
theorem Wy(ha:PE X a ta):PE X (.UnaryOp .Not a pos) (oq ta):=by
 intro pins s σ H Q I h
 refine UnaryOp_ (pX (ha pins s σ H _ I h) λv s1 ⟨x,H1,I1,r1,q1⟩=>?_)
 obtain⟨c,rfl,q1⟩:=q1
 cases r1
 exact not_of (wpAny_truthy_bool ⟨.bl (!c),H1,I1,rfl,q1⟩)
noncomputable def ML(t:TT)(ta tb:TE):TE:=λσ H Q=>t σ H λc H1=>if c=true then ta σ H1 Q else tb σ H1 Q
theorem rq{c:Expr}(hc:PT X c tA)(ha:PE X a ta)(hb:PE X b tb):PE X (.IfExp c a b pos) (ML tA ta tb):=by
 intro pins s σ H Q I h
 refine wpAny_IfExp (pX (hc pins s σ H _ I h) λd s1 ⟨H1,I1,q1⟩=>?_)
 cases d with
 | true=>exact ha pins s1 σ H1 Q I1 q1
 | false=>exact hb pins s1 σ H1 Q I1 q1
end
noncomputable def SqL(K:q0)(H:Hp)(a:Addr)(xs:List V):Prop :=
 Rd H a (.lst xs) \/
  ∃(o:Obj) (its:Array Value) (n:Nat),K.lookup a=some o/\o.cls=.type "list"/\o.dict=none/\o.data=.seq its n/\its.size<=sizeLine/\Vals xs its.toList
noncomputable def SqT(K:q0)(H:Hp)(a:Addr)(xs:List V):Prop :=
 Rd H a (.tup xs) \/
  ∃(o:Obj) (its:Array Value) (n:Nat),K.lookup a=some o/\o.cls=.type "tuple"/\o.data=.seq its n/\its.size<=sizeLine/\Vals xs its.toList
noncomputable def OL:Value->Option V
 | .none=>some .non
 | .bool b=>some (.bl b)
 | .int i _=>some (.int i)
 | .str x _=>some (.str x)
 | .bytes b _=>some (.byt b)
 | .float b _=>some (.flt b)
 | .ref a=>some (.ref a)
 | .type n=>some (.ty n)
 | _=>none
theorem RelV.abs{x:V}{u:Value}(r:RelV x u):OL u=some x:=by
 cases x with
 | non=>cases r;rfl
 | bl _=>cases r;rfl
 | int _=>obtain⟨t,rfl⟩:=r;rfl
 | str _=>obtain⟨t,rfl⟩:=r;rfl
 | byt _=>obtain⟨t,rfl⟩:=r;rfl
 | flt _=>obtain⟨t,rfl⟩:=r;rfl
 | ref _=>cases r;rfl
 | ty _=>cases r;rfl
theorem RelV.inj{x y:V}{u:Value}(r:RelV x u)(q:RelV y u):x=y:=Q1 (r.abs.symm.trans q.abs)
theorem Vals.inj:∀{xs ys:List V}{us:List Value},Vals xs us->Vals ys us->xs=ys
 | _,_,_,.nil,.nil=>rfl
 | _,_,_,.cons r t,.cons r' t'=>by rw[r.inj r',Vals.inj t t']
section
variable {X:Cx}{pins:List (Addr×Obj)}{σ:St}{H:Hp}{s:Shared}{a:Addr}{xs ys:List V}
theorem SqL.of{K:q0}(h:H a=some (.lst xs)):SqL K H a xs:=.inl (.inl h)
theorem SqT.of{K:q0}(h:H a=some (.tup xs)):SqT K H a xs:=.inl (.inl h)
theorem Inv.list(I:Inv X pins σ H s)(h:SqL X.K H a xs):∃its:List Value,Vals xs its/\PlainL s.heap a its.toArray/\xs.length<=sizeLine:=by
 rcases h with h|⟨o,its,n,hk,hc,hd,hs,hz,r⟩
 ·obtain⟨z,its,n,r,e⟩:=h.ok I.hok
  exact ⟨its,r,⟨_,n,e,rfl,rfl,rfl⟩,z⟩
 ·refine ⟨its.toList,r,⟨o,n,I.kIn a o hk,hc,hd,by simpa using hs⟩,?_⟩
  have e:=r.length
  simp only[W0]at e
  omega
theorem Inv.tuple(I:Inv X pins σ H s)(h:SqT X.K H a xs):∃its:List Value,Vals xs its/\IsTup s.heap a its.toArray/\xs.length<=sizeLine:=by
 rcases h with h|⟨o,its,n,hk,hc,hs,hz,r⟩
 ·obtain⟨z,its,r,p⟩:=h.ok I.hok
  exact ⟨its,r,p.t,z⟩
 ·refine ⟨its.toList,r,⟨o,I.kIn a o hk,hc,n,by simpa using hs⟩,?_⟩
  have e:=r.length
  simp only[W0]at e
  omega
theorem Inv.list_inj(I:Inv X pins σ H s)(h:SqL X.K H a xs)(h':SqL X.K H a ys):xs=ys:=by
 obtain⟨its,r,⟨o,n,e,_,_,d⟩,_⟩:=I.list h
 obtain⟨its',r',⟨o',n',e',_,_,d'⟩,_⟩:=I.list h'
 rw[e]at e';cases e'
 rw[d]at d'
 injection d' with d1 _
 have:its=its':=by simpa using congrArg Array.toList d1
 subst this
 exact r.inj r'
theorem Inv.tuple_inj(I:Inv X pins σ H s)(h:SqT X.K H a xs)(h':SqT X.K H a ys):xs=ys:=by
 obtain⟨its,r,⟨o,e,_,n,d⟩,_⟩:=I.tuple h
 obtain⟨its',r',⟨o',e',_,n',d'⟩,_⟩:=I.tuple h'
 rw[e]at e';cases e'
 rw[d]at d'
 injection d' with d1 _
 have:its=its':=by simpa using congrArg Array.toList d1
 subst this
 exact r.inj r'
end
noncomputable abbrev Cx.wish(X:Cx)(E:Value->Shared->Prop):Cx:={ X with xe:=E }
noncomputable abbrev Cx.nox(X:Cx):Cx:=X.wish λ_ _=>False
theorem Cx.Ok.wish{X:Cx}(ok:X.Ok)(E:Value->Shared->Prop):(X.wish E).Ok :=
 ⟨ok.mod,ok.kind,ok.glob,ok.blt,ok.above,ok.inj,ok.has,ok.cab,ok.hd,ok.frames,ok.stk,ok.exf,ok.bs,ok.bsz,ok.noex,ok.exfs,ok.funs,ok.frf⟩
theorem Cx.Ok.unwish{X:Cx}{E:Value->Shared->Prop}(ok:(X.wish E).Ok):X.Ok :=
 ⟨ok.mod,ok.kind,ok.glob,ok.blt,ok.above,ok.inj,ok.has,ok.cab,ok.hd,ok.frames,ok.stk,ok.exf,ok.bs,ok.bsz,ok.noex,ok.exfs,ok.funs,ok.frf⟩
section
variable {X:Cx}{pins:List (Addr×Obj)}{σ:St}{H:Hp}{s:Shared}{E:Value->Shared->Prop}
theorem Inv.wish(I:Inv X pins σ H s)(E:Value->Shared->Prop):Inv (X.wish E) pins σ H s:=⟨I.ok.wish E,I.os,I.bare,I.base,I.loc,I.cell,I.free,I.freeC,I.pin,I.hok,I.len⟩
theorem Inv.unwish(I:Inv (X.wish E) pins σ H s):Inv X pins σ H s:=⟨I.ok.unwish,I.os,I.bare,I.base,I.loc,I.cell,I.free,I.freeC,I.pin,I.hok,I.len⟩
theorem SP.unwish{D:Ends}{f:Flow}{s':Shared}(h:SP (X.wish E) pins D f s'):SP X pins D f s':=by
 cases f with
 | next=>obtain⟨σ',H',I,q⟩:=h;exact ⟨σ',H',I.unwish,q⟩
 | brk=>obtain⟨σ',H',I,q⟩:=h;exact ⟨σ',H',I.unwish,q⟩
 | cont=>obtain⟨σ',H',I,q⟩:=h;exact ⟨σ',H',I.unwish,q⟩
 | ret u=>obtain⟨v,σ',H',I,r,q⟩:=h;exact ⟨v,σ',H',I.unwish,r,q⟩
theorem PSs.nox{st:List Stmt}{t:TS}(h:PSs X.nox st t):PSs X st t:=λpins s σ H D I hw =>
 wpAny_mono (h pins s σ H D (I.wish _) hw) (λ_ _ q=>q.unwish) λ_ _ z=>False.elim z
end
section
variable {X:Cx}{st:Stmt}{rest:List Stmt}{t u:TS}{e:Expr}{te:TE}{pos:Pos}
noncomputable def tq:TS:=λD σ H=>D.nx σ H
noncomputable def Xy(t u:TS):TS:=λD σ H=>t { D with nx:=u D } σ H
theorem Ox:PSs X [] tq:=λ_ _ σ H _ I h=>wpAny_execs_nil ⟨σ,H,I,h⟩
theorem uq(h1:PS X st t)(h2:PSs X rest u):PSs X (st :: rest) (Xy t u):=by
 intro pins s σ H D I h
 refine wpAny_execs_cons (pX (h1 pins s σ H { D with nx:=u D } I h) λf s1 q=>?_)
 cases f with
 | next =>
  obtain⟨σ',H',I',q⟩:=q
  exact h2 pins s1 σ' H' D I' q
 | ret v=>exact q
 | brk=>exact q
 | cont=>exact q
theorem Px(h1:PS X st t):PSs X [st] t:=by
 intro pins s σ H D I h
 refine wpAny_execs_cons (pX (h1 pins s σ H D I h) λf s1 q=>?_)
 cases f with
 | next=>exact wpAny_execs_nil q
 | ret v=>exact q
 | brk=>exact q
 | cont=>exact q
theorem Inv.quiet{pins:List (Addr×Obj)}{σ:St}{H:Hp}{s:Shared}(I:Inv X pins σ H s):interactive X.env=false:=by simp[interactive,I.ok.kind]
noncomputable def vq(te:TE):TS:=λD σ H=>te σ H λ_ H1=>D.nx σ H1
theorem Qx(he:PE X e te)(hs:swapsWith e none pos.line X.env=pure false:=by rfl):PS X (.Expr e pos) (vq te):=by
 intro pins s σ H D I h
 exact wpAny_Expr_any (pX (he pins s σ H _ I h) λv s1 ⟨x,H1,I1,r1,q1⟩=>⟨σ,H1,I1,q1⟩) I.quiet hs
noncomputable def wq(te:TE):TS:=λD σ H=>te σ H D.rt
theorem xq(he:PE X e te):PS X (.Return (some e) pos) (wq te):=by
 intro pins s σ H D I h
 exact wpAny_Return_some (pX (he pins s σ H _ I h) λv s1 ⟨x,H1,I1,r1,q1⟩=>⟨x,σ,H1,I1,r1,q1⟩)
noncomputable def Yy(c:TT)(t u:TS):TS:=λD σ H=>c σ H λb H1=>if b=true then t D σ H1 else u D σ H1
theorem wC{c:Expr}{a b:List Stmt}{tc:TT}(hc:PT X c tc)(ha:PSs X a t)(hb:PSs X b u):PS X (.If c a b pos) (Yy tc t u):=by
 intro pins s σ H D I h
 refine wpAny_If (pX (hc pins s σ H _ I h) λd s1 ⟨H1,I1,q1⟩=>?_)
 cases d with
 | true=>exact ha pins s1 σ H1 D I1 q1
 | false=>exact hb pins s1 σ H1 D I1 q1
end
noncomputable abbrev TG:=V->St->Hp->(St->Hp->Prop)->Prop
noncomputable abbrev gq:=List V->St->Hp->(St->Hp->Prop)->Prop
noncomputable def PG(X:Cx)(target:Expr)(t:TG):Prop :=
 ∀(pins:List (Addr×Obj)) (s:Shared) (σ:St) (H:Hp) (v:V) (u:Value) (Q:St->Hp->Prop),Inv X pins σ H s->RelV v u->t v σ H Q ->
  wpAny (model X.prog X.w) X.A (assign target X.env u) (λ_ s'=>∃σ' H',Inv X pins σ' H' s'/\Q σ' H') X.xe s
noncomputable def Rx(X:Cx)(ts:List Expr)(t:gq):Prop :=
 ∀(pins:List (Addr×Obj)) (s:Shared) (σ:St) (H:Hp) (vs:List V) (us:List Value) (Q:St->Hp->Prop),Inv X pins σ H s->Vals vs us->t vs σ H Q ->
  wpAny (model X.prog X.w) X.A (assignInOrder ((assignEach ts X.env).map (·.2)) us) (λ_ s'=>∃σ' H',Inv X pins σ' H' s'/\Q σ' H') X.xe s
noncomputable abbrev Zy:=V->V->V->Hp->(Hp->Prop)->Prop
noncomputable def xC(X:Cx)(t:Zy):Prop :=
 ∀(pins:List (Addr×Obj)) (s:Shared) (σ:St) (H:Hp) (o i v:V) (ov iv u:Value) (Q:Hp->Prop),Inv X pins σ H s->RelV o ov->RelV i iv->RelV v u->t o i v H Q ->
  wpAny (model X.prog X.w) X.A (setItem ov iv u) (λ_ s'=>∃H',Inv X pins σ H' s'/\Q H') X.xe s
section
variable {X:Cx}{pos:Pos}
noncomputable def UJ(i:Nat):TG:=λv σ H Q=>Q (σ.set i (some v)) H
theorem Ux{i:Nat}{x:Str}(hN:X.N.Nodup)(hi:X.N[i]?=some x)(hx:nC X.env.scope x)(hf:X.fn x=true\/X.env.scope.names.lookup x=some .local:=by first|exact .inl rfl|exact .inr rfl|assumption):PG X (.Name x pos) (UJ i):=by
 intro pins s σ H v u Q I r h
 exact wpAny_assign_Name (hU I hN hi hx r (λs' I'=>⟨_,H,I',h⟩) hf)
noncomputable def yC:gq:=λvs σ H Q=>vs=[]/\Q σ H
noncomputable def Gv(t:TG)(u:gq):gq:=λvs σ H Q=>∃v r,vs=v :: r/\t v σ H λσ' H'=>u r σ' H' Q
theorem Vx:Rx X [] yC:=by
 intro pins s σ H vs us Q I r h
 obtain⟨e,h⟩:=h
 subst e
 cases r
 exact assignInOrder_nil ⟨σ,H,I,h⟩
theorem yq{e:Expr}{es:List Expr}{t:TG}{u:gq}(h1:PG X e t)(h2:Rx X es u)
  (hs:(assignEach (e :: es) X.env).map (·.2)=assign e X.env :: (assignEach es X.env).map (·.2):=by rfl):Rx X (e :: es) (Gv t u):=by
 intro pins s σ H vs us Q I r h
 obtain⟨v,vr,e1,h⟩:=h
 subst e1
 cases r with
 | cons r rr =>
  rw[hs]
  refine assignInOrder_cons (pX (h1 pins s σ H _ _ _ I r h) λ_ s1 ⟨σ1,H1,I1,q1⟩=>?_)
  exact h2 pins s1 σ1 H1 _ _ Q I1 rr q1
noncomputable def Wx(K:q0)(n:Nat)(t:gq):TG:=λv σ H Q=>∃a xs,v=.ref a/\SqT K H a xs/\xs.length=n/\t xs σ H Q
theorem au{es:List Expr}{k:Nat}{t:gq}{n:Nat}(hc:X.calm=true)(h:Rx X es t)
  (hn:(assignEach es X.env).length=n:=by rfl) (hst:(assignEach es X.env).findIdx? (·.1)=none:=by rfl):PG X (.Tuple es k pos) (Wx X.K n t):=by
 intro pins s σ H v u Q I r hw
 obtain⟨a,xs,e1,hq,hl,hw⟩:=hw
 subst e1
 cases r
 obtain⟨its,rv,ht,hz⟩:=I.tuple hq
 refine assign_Tuple_tuple (I.ok.hd hc) ht (by simp[hn,<- hl,rv.length]) hst λh' hx=>?_
 have I1:Inv X pins σ H { s with heap:=h' }:=I.kept (t':=s.toks) λb o e=>hx b o (S0 (M0 e)) e
 exact h pins _ σ H xs _ Q I1 (by simpa using rv) hw
noncomputable def bu(to ti:TE)(t:Zy):TG:=λv σ H Q=>to σ H λo H1=>ti σ H1 λi H2=>t o i v H2 λH3=>Q σ H3
theorem cu{o i:Expr}{to ti:TE}{t:Zy}(ho:PE X o to)(hi:PE X i ti)(hs:xC X t)
  (ha:∀v,assign (.Subscript o i pos) X.env v=(do
    let ov<-holding [v] (eval o X.env)
    let iv<-holding [v,ov] (eval i X.env)
    standAt pos
    holding [v,ov,iv] (setItem ov iv v)
    release [v,ov,iv] []):=by intro _;rfl):PG X (.Subscript o i pos) (bu to ti t):=by
 intro pins s σ H v u Q I r h
 rw[ha]
 refine wpAny_bind (wpAny_holding (pX (ho pins s σ H _ I h) λov s1 ⟨x,H1,I1,r1,q1⟩=>?_))
 refine wpAny_bind (wpAny_holding (pX (hi pins s1 σ H1 _ I1 q1) λiv s2 ⟨y,H2,I2,r2,q2⟩=>?_))
 refine wpAny_bind (wpAny_standAt (wpAny_bind (wpAny_holding (pX (hs pins s2 σ H2 x y v ov iv u _ I2 r1 r2 r q2) λ_ s3 ⟨H3,I3,q3⟩=>?_))))
 exact wpAny_release ⟨σ,H3,I3,q3⟩
noncomputable def oY(te:TE)(g:TG):TS:=λD σ H=>te σ H λx H1=>g x σ H1 D.nx
theorem zq{tg e:Expr}{te:TE}{g:TG}(he:PE X e te)(hg:PG X tg g)(hs:swapsWithSole [tg] e pos.line X.env=pure false:=by rfl)(hw:swappedStores [tg] e X.env=pure none:=by rfl)
  (h1:(assignEach [tg] X.env).map (·.2)=[assign tg X.env]:=by rfl):PS X (.Assign [tg] e pos) (oY te g):=by
 intro pins s σ H D I h
 refine wpAny_Assign_stores (pX (he pins s σ H _ I h) λv s1 ⟨x,H1,I1,r1,q1⟩=>?_) hs hw
 rw[h1]
 exact pX (hg pins s1 σ H1 x v _ I1 r1 q1) λ_ s2 q=>q
theorem du{i:Nat}{x:Str}{e:Expr}{te:TE}{pos':Pos}(hN:X.N.Nodup)(hi:X.N[i]?=some x)(hx:nC X.env.scope x)(he:PE X e te)(hs:swapsWith e (some (.Name x pos')) pos.line X.env=pure false:=by rfl)(hf:X.fn x=true\/X.env.scope.names.lookup x=some .local:=by first|exact .inl rfl|exact .inr rfl|assumption) :
  PS X (.Assign [.Name x pos'] e pos) (oY te (UJ i)):=by
 intro pins s σ H D I h
 refine wpAny_Assign_Name (pX (he pins s σ H _ I h) λv s1 ⟨y,H1,I1,r1,q1⟩=>?_) hs
 exact hU I1 hN hi hx r1 (λs2 I2=>⟨_,H1,I2,q1⟩) hf
end
section
variable {X:Cx}{pos:Pos}
noncomputable def BH(c:TT)(tb:TS):TS:=λD σ H=>∃W:Nat->St->Hp->Prop,(∃m,W m σ H)/\∀m σ H,W m σ H ->
 c σ H λb H1=>if b=true then ∃N:St->Hp->Prop,(∀σ' H',N σ' H'->∃m',m' < m/\W m' σ' H')/\tb { D with nx:=N,ct:=N,bk:=D.nx } σ H1 else D.nx σ H1
theorem Aq{c:Expr}{body:List Stmt}{tc:TT}{tb:TS}(hp:PassesOwn (model X.prog X.w) X.A X.env X.xe)(hc:PT X c tc)(hb:PSs X body tb):PS X (.While c body [] pos) (BH tc tb):=by
 intro pins s σ H D I h
 obtain⟨W,⟨m0,w0⟩,turn⟩:=h
 refine wpAny_While (codeAny_whileLoop (λn s'=>∃σ' H',Inv X pins σ' H' s'/\W n σ' H') ?_ m0 ⟨σ,H,I,w0⟩)
 rintro n s1 ⟨σ1,H1,I1,w1⟩
 refine wpAny_passesOwn hp (pX (hc pins s1 σ1 H1 _ I1 (turn n σ1 H1 w1)) λb s2 ⟨H2,I2,q2⟩=>?_)
 cases b with
 | true =>
  obtain⟨N,hN,q2⟩:=q2
  rw[if_pos rfl]
  refine wpAny_passesOwn hp (pX (hb pins s2 σ1 H2 _ I2 q2) λf s3 q3=>?_)
  cases f with
  | next =>
   obtain⟨σ3,H3,I3,n3⟩:=q3
   obtain⟨m',hm,w3⟩:=hN σ3 H3 n3
   exact ⟨m',hm,σ3,H3,I3,w3⟩
  | cont =>
   obtain⟨σ3,H3,I3,n3⟩:=q3
   obtain⟨m',hm,w3⟩:=hN σ3 H3 n3
   exact ⟨m',hm,σ3,H3,I3,w3⟩
  | brk=>exact q3
  | ret v=>exact q3
 | false =>
  rw[if_neg X0]
  exact wpAny_execs_nil ⟨σ1,H2,I2,q2⟩
end
structure It where
 go:Nat->Hp->Prop
 yld:Nat->Hp->V->Hp->Prop
 stop:Nat->Hp->Prop
noncomputable def TK(X:Cx)(pins:List (Addr×Obj))(H:Hp)(b:Addr):Prop :=
 H b=none/\b≠X.env.locals/\b∉X.fs/\(b∈X.ex\/X.s₀.heap.objs.size<=b)/\(∀x c,X.env.cells.lookup x=some c->c≠b)/\∀p∈X.pn++pins,p.1≠b
theorem Inv.fpOk{X:Cx}{pins:List (Addr×Obj)}{σ:St}{H H':Hp}{s:Shared}{b:Addr}(I:Inv X pins σ H s)(hb:s.heap.objs.size<=b)(hn:H' b=none):TK X pins H' b:=by
 refine ⟨hn,W2 (U0 I.lt hb),I.nofs hb,.inr (Z0 I.sz hb),λx c e z=>?_,λp hp z=>?_⟩
 ·obtain⟨v,q⟩:=I.cell x c e
  exact absurd (U0 q.lt (by rw[z];exact hb)) (G3 _)
 ·exact absurd (U0 (M0 (I.pin p hp).1) (by rw[z];exact hb)) (G3 _)
structure Turn(P:Program)(w:World)(K:q0)(tg:Expr)(J:It)(fp:List Addr)(it:Addr)(tn:Nat->Heap->Prop):Prop where
 mem:it∈fp
 obj:∀i h,tn i h->∀b∈fp,∃o,h.get? b=some o/\∀v,o.data≠.cell v
 keep:∀i h h',tn i h->(∀b∈fp,∀o,h.get? b=some o->h'.get? b=some o)->tn i h'
 item:∀(X:Cx),X.prog=P->X.w=w->X.K=K->X.calm=true->∀(i:Nat) (pins:List (Addr×Obj)) (s:Shared) (σ:St) (H:Hp) (E:Value->Shared->Prop),Inv X pins σ H s->(∀b∈fp,TK X pins H b)->tn i s.heap->J.go i H ->
  wpAny (model P w) X.A (pyNext (.ref it)) (λr s1=>∃u,r=some u /\
    wpAny (model P w) X.A (letOwnedTupleGo tg (.ref it) u) (λ_ s2=>∃x H',Inv X pins σ H' s2/\RelV x u/\J.yld i H x H'/\tn (i+1) s2.heap/\∀b∈fp,H' b=none) E s1) E s
 done:∀(X:Cx),X.prog=P->X.w=w->X.K=K->X.calm=true->∀(i:Nat) (pins:List (Addr×Obj)) (s:Shared) (σ:St) (H:Hp) (E:Value->Shared->Prop),Inv X pins σ H s->(∀b∈fp,TK X pins H b)->tn i s.heap->J.stop i H ->
  wpAny (model P w) X.A (pyNext (.ref it)) (λr s1=>r=none/\Inv X pins σ H s1) E s
 self:∀(A:Around) (i:Nat) (s:Shared) (Q:Value->Shared->Prop) (E:Value->Shared->Prop),tn i s.heap->Q (.ref it) s->wpAny (model P w) A (pyIter (.ref it)) Q E s
noncomputable abbrev TI:=St->Hp->(It->Hp->Prop)->Prop
noncomputable def HM(X:Cx)(pins:List (Addr×Obj))(σ:St)(tg:Expr)(R:It->Hp->Prop)(itv:Value)(s2:Shared):Prop :=
 ∃(it:Addr) (fp:List Addr) (tn:Nat->Heap->Prop) (J:It) (H':Hp),itv=.ref it/\Inv X pins σ H' s2/\Turn X.prog X.w X.K tg J fp it tn/\tn 0 s2.heap/\(∀b∈fp,TK X pins H' b)/\R J H'
noncomputable def PI(X:Cx)(tg iter:Expr)(wi:TI):Prop :=
 ∀(pins:List (Addr×Obj)) (s:Shared) (σ:St) (H:Hp) (R:It->Hp->Prop),Inv X pins σ H s->wi σ H R ->
  wpAny (model X.prog X.w) X.A (eval iter X.env) (λv s1=>wpAny (model X.prog X.w) X.A (pyIter v) (HM X pins σ tg R) X.xe s1) X.xe s
theorem Bq{M:Model}{A:Around}{E:Value->Shared->Prop}{s:Shared}{tg:Expr}{it:Addr}{u:Value}{o:Obj}{n:String}{vs:Array Value}{Q:Unit->Shared->Prop}(ho:s.heap.get? it=some o)(hc:o.cls=.type n)(hd:o.data=.fields vs)
  (hn:["enumerate","zip","dict_itemiterator","dict_reverseitemiterator","odict_iterator","itertools.zip_longest","itertools.pairwise"].contains n=false) (hQ:Q () s):wpAny M A (letOwnedTupleGo tg (.ref it) u) Q E s:=by
 unfold letOwnedTupleGo
 cases tg<;>first
  | exact wpAny_pure hQ
  | (cases u<;>first
      | exact wpAny_pure hQ
      | (refine wpAny_bind (wpAny_load ho ?_)
         rw[hc,hd]
         show wpAny M A (if (["enumerate","zip","dict_itemiterator","dict_reverseitemiterator","odict_iterator","itertools.zip_longest","itertools.pairwise"].contains n&&vs[0]?==some (rawInt _))=true then _ else _) Q E s
         rw[if_neg (by intro h;rw[hn,P5]at h;cases h)]
         exact wpAny_pure hQ))
noncomputable def PL(K:q0)(a:Addr):It :=
 ⟨λi H=>∃xs x,SqL K H a xs/\xs[i]?=some x,λi H x H'=>H'=H/\∀xs,SqL K H a xs->xs[i]?=some x,λi H=>∃xs,SqL K H a xs/\xs.length<=i⟩
noncomputable def QL(K:q0)(a:Addr):It :=
 ⟨λi H=>∃xs x,SqT K H a xs/\xs[i]?=some x,λi H x H'=>H'=H/\∀xs,SqT K H a xs->xs[i]?=some x,λi H=>∃xs,SqT K H a xs/\xs.length<=i⟩
noncomputable def aL(lo:Int)(n:Nat):It:=⟨λi _=>i < n,λi H x H'=>H'=H/\x=.int (lo+i),λi _=>n<=i⟩
theorem gD{P:Program}{w:World}{K:q0}{tg:Expr}(a it:Addr):Turn P w K tg (PL K a) [it] it (λi h=>h.IsListIter it a i) where
 mem:=by simp
 obj:=λi h st b hb=>by
  have e:b=it:=by simpa using hb
  subst e
  obtain⟨o,e,c,d⟩:=st
  exact ⟨o,e,λv z=>by rw[d]at z;cases z⟩
 keep:=λi h h' st k=>st.at λo e=>k it (by simp) o e
 item:=by
  intro X hP hw hK hc i pins s σ H E I hf st hg
  subst hP hw hK
  obtain⟨xs,x,hq,hx⟩:=hg
  obtain⟨its,rv,p,hz⟩:=I.list hq
  obtain⟨u,hu,ru⟩:=rv.get hx
  obtain⟨f0,f1,f2,f3,f4,f5⟩:=hf it (by simp)
  refine wpAny_pyNext_list_item st p.isList (x:=u) (by simpa using hu) λh' st' sb=>?_
  have I1:Inv X pins σ H { s with heap:=h' }:=I.turned (t':=s.toks) (λb o hb e=>(sb.2 b hb).trans e) f0 f1 f3 f4 f5
  obtain⟨o,e,c,d⟩:=id st'
  exact ⟨u,rfl,Bq (s:={ s with heap:=h' }) e c d (by decide) ⟨x,H,I1,ru,⟨rfl,λys hy=>by rw[I.list_inj hy hq];exact hx⟩,st',λb hb=>(hf b hb).1⟩⟩
 done:=by
  intro X hP hw hK hc i pins s σ H E I hf st hg
  subst hP hw hK
  obtain⟨xs,hq,hx⟩:=hg
  obtain⟨its,rv,p,hz⟩:=I.list hq
  obtain⟨f0,f1,f2,f3,f4,f5⟩:=hf it (by simp)
  have hl:=rv.length
  exact wpAny_pyNext_list_end (I.ok.hd hc) st p.isList (by simp;omega) λh' eb=>⟨rfl,I.turned (t':=s.toks) (λb o hb e=>eb b o hb e) f0 f1 f3 f4 f5⟩
 self:=λ_ _ _ _ _ st h=>wpAny_pyIter_listiter st h
theorem CH{P:Program}{w:World}{K:q0}{tg:Expr}(a it:Addr):Turn P w K tg (QL K a) [it] it (λi h=>h.IsTupleIter it a i) where
 mem:=by simp
 obj:=λi h st b hb=>by
  have e:b=it:=by simpa using hb
  subst e
  obtain⟨o,e,c,d⟩:=st
  exact ⟨o,e,λv z=>by rw[d]at z;cases z⟩
 keep:=λi h h' st k=>st.at λo e=>k it (by simp) o e
 item:=by
  intro X hP hw hK hc i pins s σ H E I hf st hg
  subst hP hw hK
  obtain⟨xs,x,hq,hx⟩:=hg
  obtain⟨its,rv,p,hz⟩:=I.tuple hq
  obtain⟨u,hu,ru⟩:=rv.get hx
  obtain⟨f0,f1,f2,f3,f4,f5⟩:=hf it (by simp)
  refine wpAny_pyNext_tuple_item st (show s.heap.IsTuple a its.toArray from p) (x:=u) (by simpa using hu) λh' st' sb=>?_
  have I1:Inv X pins σ H { s with heap:=h' }:=I.turned (t':=s.toks) (λb o hb e=>(sb.2 b hb).trans e) f0 f1 f3 f4 f5
  obtain⟨o,e,c,d⟩:=id st'
  exact ⟨u,rfl,Bq (s:={ s with heap:=h' }) e c d (by decide) ⟨x,H,I1,ru,⟨rfl,λys hy=>by rw[I.tuple_inj hy hq];exact hx⟩,st',λb hb=>(hf b hb).1⟩⟩
 done:=by
  intro X hP hw hK hc i pins s σ H E I hf st hg
  subst hP hw hK
  obtain⟨xs,hq,hx⟩:=hg
  obtain⟨its,rv,p,hz⟩:=I.tuple hq
  obtain⟨f0,f1,f2,f3,f4,f5⟩:=hf it (by simp)
  have hl:=rv.length
  exact wpAny_pyNext_tuple_end (I.ok.hd hc) st (show s.heap.IsTuple a its.toArray from p) (by simp;omega) λh' eb=>⟨rfl,I.turned (t':=s.toks) (λb o hb e=>eb b o hb e) f0 f1 f3 f4 f5⟩
 self:=λ_ _ _ _ _ st h=>wpAny_pyIter_tupleiter st h
theorem DH{P:Program}{w:World}{K:q0}{tg:Expr}(it:Addr)(lo:Int)(n:Nat):Turn P w K tg (aL lo n) [it] it (λi h=>IsRangeIter h it (lo+(i:Nat) * 1) ((n:Int) - (i:Nat)) 1) where
 mem:=by simp
 obj:=λi h st b hb=>by
  have e:b=it:=by simpa using hb
  subst e
  exact ⟨_,st,λv z=>by
    have z':Data.fields _=Data.cell v:=z
    cases z'⟩
 keep:=λi h h' st k=>k it (by simp) _ st
 item:=by
  intro X hP hw hK hc i pins s σ H E I hf st hg
  subst hP hw hK
  obtain⟨f0,f1,f2,f3,f4,f5⟩:=hf it (by simp)
  have W:=Walks.range (prog:=X.prog) (w:=X.w) (I.ok.hd hc) it lo 1 n
  refine W.item i s _ _ hg st λv h' tk hv st' kk=>?_
  obtain⟨t,rfl⟩:=hv
  have I1:Inv X pins σ H { s with heap:=h',toks:=tk }:=I.turned (λb o hb e=>kk b o (by simpa using hb) e) f0 f1 f3 f4 f5
  refine ⟨_,rfl,Bq (s:={ s with heap:=h',toks:=tk }) (n:="range_iterator") st' rfl rfl (by decide) ⟨.int (lo+i),H,I1,⟨t,?_⟩,⟨rfl,rfl⟩,st',λb hb=>(hf b hb).1⟩⟩
  rw[Int.mul_one]
 done:=by
  intro X hP hw hK hc i pins s σ H E I hf st hg
  subst hP hw hK
  obtain⟨f0,f1,f2,f3,f4,f5⟩:=hf it (by simp)
  exact wpAny_pyNext_range_end (I.ok.hd hc) st (by have:n<=i:=hg;omega) λh' eb=>⟨rfl,I.turned (t':=s.toks) (λb o hb e=>eb b o hb e) f0 f1 f3 f4 f5⟩
 self:=λ_ _ _ _ _ st h=>wpAny_pyIter_rangeiter st h
section
variable {X:Cx}{tg:Expr}
theorem Cq{pins:List (Addr×Obj)}{σ:St}{H:Hp}{s:Shared}{R:It->Hp->Prop}{E:Value->Shared->Prop}{lo hi:Int}{t u v:Tok}{tk:Nat}(I:Inv X pins σ H s)(h1:-(2 ^ 62)<=lo)(h2:lo < 2 ^ 62)(h3:-(2 ^ 62)<=hi)(h4:hi < 2 ^ 62)
  (q:R (aL lo (hi - lo).toNat) H):wpAny (model X.prog X.w) X.A (pyIter (.ref s.heap.objs.size)) (HM X pins σ tg R) E { s with heap:=s.heap.push { cls:=.type "range",data:=.fields #[.int lo t,.int hi u,.int 1 v] },toks:=tk }:=by
 refine wpAny_pyIter_range (IsRange.new ..) (small_one h1 h2 h3 h4) ?_
 have I1:Inv X pins σ H { s with heap:=s.heap.push { cls:=.type "range",data:=.fields #[.int lo t,.int hi u,.int 1 v] },toks:=tk }:=I.kept λb o e=>n0 _ e
 refine ⟨(s.heap.push { cls:=.type "range",data:=.fields #[.int lo t,.int hi u,.int 1 v] }).objs.size,[(s.heap.push { cls:=.type "range",data:=.fields #[.int lo t,.int hi u,.int 1 v] }).objs.size],_,_,H,rfl,
   I1.kept (t':=tk) λb o e=>n0 _ e,DH _ lo (hi - lo).toNat,?_,λb hb=>?_,q⟩
 ·have e1:lo+((0:Nat):Int) * 1=lo:=by simp
  have e2:(((hi - lo).toNat:Nat):Int) - ((0:Nat):Int)=Z7 lo hi 1:=by rw[rangeSize_one];split<;>omega
  show IsRangeIter _ _ (lo+((0:Nat):Int) * 1) ((((hi - lo).toNat:Nat):Int) - ((0:Nat):Int)) 1
  rw[e1,e2]
  exact L0 _ rfl
 ·have e:b=(s.heap.push { cls:=.type "range",data:=.fields #[.int lo t,.int hi u,.int 1 v] }).objs.size:=by simpa using hb
  subst e
  exact I1.fpOk (B0 _) (I1.hok.fresh (B0 _))
noncomputable def Dq(ta:TA):TI:=λσ H R=>ta σ H λvs H1=>∃j:Int,vs=[.int j]/\-(2 ^ 62)<=j/\j < 2 ^ 62/\R (aL 0 j.toNat) H1
theorem iD{a:Expr}{ta:TA}{p pos:Pos}(hg:Gl X "range")(hm:X.mg "range"=none)(ha:PA X [a] ta)(hs:starEach [a] X.env=[(false,eval a X.env)]:=by rfl):PI X tg (.Call (.Name "range" p) [a] [] pos) (Dq ta):=by
 intro pins s σ H R I h
 refine Call_ (wK I hg hm boot_range (i5 (pX (ha pos pins s σ H _ I h) λus s1 ⟨vs,H1,I1,r1,q1⟩=>?_) hs rfl))
 obtain⟨j,e,q1,q2,q⟩:=q1
 subst e
 cases r1 with
 | cons r rr =>
  cases rr
  obtain⟨t,rfl⟩:=r
  exact call_range_1 (Cq I1 (by omega) (by omega) q1 q2 (by simpa using q))
noncomputable def fu(wi:TI)(g:TG)(tb:TS):TS:=λD σ H=>wi σ H λJ H1=>∃W:Nat->Nat->St->Hp->Prop,(∃m,W 0 m σ H1)/\∀i m σ H,W i m σ H ->
 (J.stop i H/\D.nx σ H)\/(J.go i H/\∃N:St->Hp->Prop,(∀σ' H',N σ' H'->∃m',m' < m/\W (i+1) m' σ' H')/\∀x H',J.yld i H x H'->g x σ H' λσ2 H2=>tb { D with nx:=N,ct:=N,bk:=D.nx } σ2 H2)
noncomputable def xK(fp:List Addr)(h:Heap):List (Addr×Obj):=fp.filterMap λb=>(h.get? b).map λo=>(b,o)
theorem IZ{fp:List Addr}{h:Heap}{b:Addr}{o:Obj}(hb:b∈fp)(e:h.get? b=some o):(b,o)∈xK fp h:=R8.mpr ⟨b,hb,by rw[e];rfl⟩
theorem BW{fp:List Addr}{h:Heap}{p:Addr×Obj}(hp:p∈xK fp h):p.1∈fp/\h.get? p.1=some p.2:=by
 obtain⟨b,hb,e⟩:=R8.mp hp
 cases q:h.get? b with
 | none=>rw[q]at e;cases e
 | some o =>
  rw[q]at e
  have e':(b,o)=p:=Q1 e
  subst e'
  exact ⟨hb,q⟩
theorem Inv.pinned{pins:List (Addr×Obj)}{σ:St}{H:Hp}{s:Shared}{fp:List Addr}(I:Inv X pins σ H s)(hf:∀b∈fp,TK X pins H b)(ho:∀b∈fp,∃o,s.heap.get? b=some o/\∀v,o.data≠.cell v):Inv X (pins++xK fp s.heap) σ H s :=
 I.pins_of λp hp=>(V0.mp hp).elim (λz=>I.pin p (N1 _ z)) λz=>by
  obtain⟨hb,e⟩:=BW z
  obtain⟨f0,f1,f2,_⟩:=hf p.1 hb
  obtain⟨o,e',d⟩:=ho p.1 hb
  rw[e]at e';cases e'
  exact ⟨e,f0,f1,f2,d⟩
theorem Inv.unpinned{pins pl:List (Addr×Obj)}{σ:St}{H:Hp}{s:Shared}(I:Inv X (pins++pl) σ H s):Inv X pins σ H s:=I.pins_of λp hp=>I.pin p (N1 _ (L5 _ hp))
theorem gu{iter:Expr}{body:List Stmt}{wi:TI}{g:TG}{tb:TS}{pos:Pos}(hp:PassesOwn (model X.prog X.w) X.A X.env X.xe)(hc:X.calm=true)(hi:PI X tg iter wi)(hg:PG X tg g)(hb:PSs X body tb)
  (hs:∀x,foldedSetIterable iter X.env x=pure x:=by intro _;rfl):PS X (.For tg iter body [] pos) (fu wi g tb):=by
 intro pins s σ H D I h
 refine wpAny_For (pX (hi pins s σ H _ I h) λv s1 h1=>pX h1 λitv s2 h2=>?_) hs
 obtain⟨it,fp,tn,J,H2,e,I2,T,st2,f2,W,⟨m0,w0⟩,turn⟩:=h2
 subst e
 have stat:∀{H':Hp},(∀b∈fp,H' b=none)->∀b∈fp,TK X pins H' b:=λhn b hb=>⟨hn b hb,(f2 b hb).2⟩
 refine codeAny_forLoop_any (λn s'=>∃i σ' H',Inv X pins σ' H' s'/\tn i s'.heap/\(∀b∈fp,H' b=none)/\W i n σ' H') ?_ m0 ⟨0,σ,H2,I2,st2,λb hb=>(f2 b hb).1,w0⟩
 rintro n s3 ⟨i,σ3,H3,I3,st3,fr3,w3⟩
 rcases turn i n σ3 H3 w3 with⟨stop,qn⟩|⟨go,N,hN,step⟩
 ·refine wpAny_passesOwn hp (pX (T.done X rfl rfl rfl hc i pins s3 σ3 H3 X.xe I3 (stat fr3) st3 stop) λr s4 ⟨hr,I4⟩=>?_)
  subst hr
  exact wpAny_execs_nil ⟨σ3,H3,I4,qn⟩
 ·refine wpAny_passesOwn hp (pX (T.item X rfl rfl rfl hc i pins s3 σ3 H3 X.xe I3 (stat fr3) st3 go) λr s4 ⟨u,hr,h4⟩=>?_)
  subst hr
  refine wpAny_passesOwn hp (pX h4 λ_ s5 ⟨x,H5,I5,r5,y5,st5,fr5⟩=>?_)
  have I5':=I5.pinned (stat fr5) (T.obj _ _ st5)
  refine wpAny_passesOwn hp (pX (hg _ s5 σ3 H5 x u _ I5' r5 (step x H5 y5)) λ_ s6 ⟨σ6,H6,I6,q6⟩=>?_)
  refine wpAny_passesOwn hp (pX (hb _ s6 σ6 H6 _ I6 q6) λf s7 q7=>?_)
  have again:∀{σ7:St}{H7:Hp},Inv X (pins++xK fp s5.heap) σ7 H7 s7->N σ7 H7->∃m,m < n/\∃i σ' H',Inv X pins σ' H' s7/\tn i s7.heap/\(∀b∈fp,H' b=none)/\W i m σ' H':=λ{σ7 H7} I7 n7=>by
   obtain⟨m',hm,w7⟩:=hN σ7 H7 n7
   refine ⟨m',hm,i+1,σ7,H7,I7.unpinned,T.keep _ _ _ st5 λb hb o e=>(I7.pin (b,o) (N1 _ (N1 _ (IZ hb e)))).1,λb hb=>?_,w7⟩
   obtain⟨o,e,d⟩:=T.obj _ _ st5 b hb
   exact (I7.pin (b,o) (N1 _ (N1 _ (IZ hb e)))).2.1
  cases f with
  | next=>obtain⟨σ7,H7,I7,n7⟩:=q7;exact again I7 n7
  | cont=>obtain⟨σ7,H7,I7,n7⟩:=q7;exact again I7 n7
  | brk=>obtain⟨σ7,H7,I7,q7⟩:=q7;exact ⟨σ7,H7,I7.unpinned,q7⟩
  | ret v=>obtain⟨x7,σ7,H7,I7,r7,q7⟩:=q7;exact ⟨x7,σ7,H7,I7.unpinned,r7,q7⟩
end
noncomputable abbrev R2:=V->V->Hp->VK->Prop
noncomputable def OpR(X:Cx)(f:Value->Value->Sem Value)(r:R2):Prop :=
 ∀(pins:List (Addr×Obj)) (s:Shared) (σ:St) (H:Hp) (x y:V) (v u:Value) (Q:VK),Inv X pins σ H s->RelV x v->RelV y u->r x y H Q ->
  wpAny (model X.prog X.w) X.A (f v u) (EP X pins σ Q) X.xe s
noncomputable def RL(X:Cx)(f:Value->Sem Value)(r:V->Hp->VK->Prop):Prop :=
 ∀(pins:List (Addr×Obj)) (s:Shared) (σ:St) (H:Hp) (x:V) (v:Value) (Q:VK),Inv X pins σ H s->RelV x v->r x H Q ->
  wpAny (model X.prog X.w) X.A (f v) (EP X pins σ Q) X.xe s
noncomputable def TQ(X:Cx)(f:Value)(r:List V->Hp->VK->Prop):Prop :=
 ∀(pins:List (Addr×Obj)) (s:Shared) (σ:St) (H:Hp) (xs:List V) (us:List Value) (Q:VK),Inv X pins σ H s->Vals xs us->r xs H Q ->
  wpAny (model X.prog X.w) X.A (call f us) (EP X pins σ Q) X.xe s
noncomputable def Ax(r:R2)(ta tb:TE):TE:=λσ H Q=>ta σ H λx H1=>tb σ H1 λy H2=>r x y H2 Q
noncomputable def IM(r:V->Hp->VK->Prop)(ta:TE):TE:=λσ H Q=>ta σ H λx H1=>r x H1 Q
noncomputable def rI(C:Int->Int->Prop)(g:Int->Int->V):R2:=λx y H Q=>∃i j,x=.int i/\y=.int j/\C i j/\Q (g i j) H
noncomputable def aY(g:Int->Int->V):R2:=λx y H Q=>∃i j,x=.int i/\y=.int j/\Q (g i j) H
noncomputable def rU(g:Int->V):V->Hp->VK->Prop:=λx H Q=>∃i,x=.int i/\Q (g i) H
section
variable {X:Cx}{a b c:Expr}{ta tb tc:TE}{pos:Pos}
theorem iu(ha:PE X a ta)(hb:PE X b tb){pins:List (Addr×Obj)}{s:Shared}{σ:St}{H:Hp}{R:V->V->Hp->Prop}(I:Inv X pins σ H s)
  (h:ta σ H λx H1=>tb σ H1 λy H2=>R x y H2) {Q:Value->Shared->Prop}{f:Value->Value->Sem Value}
  (hf:∀v u s2 x y H2,Inv X pins σ H2 s2->RelV x v->RelV y u->R x y H2->wpAny (model X.prog X.w) X.A (f v u) Q X.xe s2) :
  wpAny (model X.prog X.w) X.A (eval a X.env) (λv s₁=>wpAny (model X.prog X.w) X.A (eval b X.env) (λu s₂=>wpAny (model X.prog X.w) X.A (f v u) Q X.xe s₂) X.xe s₁) X.xe s:=by
 refine pX (ha pins s σ H _ I h) λv s1 ⟨x,H1,I1,r1,q1⟩=>?_
 refine pX (hb pins s1 σ H1 _ I1 q1) λu s2 ⟨y,H2,I2,r2,q2⟩=>?_
 exact hf v u s2 x y H2 I2 r1 r2 q2
theorem zC{op:Operator}{r:R2}(ho:OpR X (binaryOp op) r)(ha:PE X a ta)(hb:PE X b tb):PE X (.BinOp a op b pos) (Ax r ta tb):=by
 intro pins s σ H Q I h
 exact wpAny_BinOp (iu ha hb I h λv u s2 x y H2 I2 rx ry q=>ho pins s2 σ H2 x y v u Q I2 rx ry q)
theorem AC{op:UnaryOp}{r:V->Hp->VK->Prop}(ho:RL X (unaryOp op) r)(ha:PE X a ta):PE X (.UnaryOp op a pos) (IM r ta):=by
 intro pins s σ H Q I h
 exact UnaryOp_ (pX (ha pins s σ H _ I h) λv s1 ⟨x,H1,I1,r1,q1⟩=>ho pins s1 σ H1 x v Q I1 r1 q1)
theorem bL{f:Value->Value->Sem Value}{C:Int->Int->Prop}{g:Int->Int->Int}
  (rule:∀(i j:Int) (t u:Tok) (s:Shared) (Q:Value->Shared->Prop) (E:Value->Shared->Prop),C i j->Q (.int (g i j) s.toks) { s with toks:=s.toks+1 }->wpAny (model X.prog X.w) X.A (f (.int i t) (.int j u)) Q E s) :
  OpR X f (rI C λi j=>.int (g i j)):=by
 intro pins s σ H x y v u Q I rx ry h
 obtain⟨i,j,rfl,rfl,hc,q⟩:=h
 obtain⟨t,rfl⟩:=rx
 obtain⟨t',rfl⟩:=ry
 exact rule i j t t' s _ _ hc ⟨.int (g i j),H,I.tok _,⟨_,rfl⟩,q⟩
theorem BC{f:Value->Value->Sem Value}{g:Int->Int->Int}
  (rule:∀(i j:Int) (t u:Tok) (s:Shared) (Q:Value->Shared->Prop) (E:Value->Shared->Prop),Q (.int (g i j) s.toks) { s with toks:=s.toks+1 }->wpAny (model X.prog X.w) X.A (f (.int i t) (.int j u)) Q E s) :
  OpR X f (aY λi j=>.int (g i j)):=by
 intro pins s σ H x y v u Q I rx ry h
 obtain⟨i,j,rfl,rfl,q⟩:=h
 obtain⟨t,rfl⟩:=rx
 obtain⟨t',rfl⟩:=ry
 exact rule i j t t' s _ _ ⟨.int (g i j),H,I.tok _,⟨_,rfl⟩,q⟩
theorem Xx{f:Value->Value->Sem Value}{g:Int->Int->Bool}
  (rule:∀(i j:Int) (t u:Tok) (s:Shared) (Q:Value->Shared->Prop) (E:Value->Shared->Prop),Q (.bool (g i j)) s->wpAny (model X.prog X.w) X.A (f (.int i t) (.int j u)) Q E s) :
  OpR X f (aY λi j=>.bl (g i j)):=by
 intro pins s σ H x y v u Q I rx ry h
 obtain⟨i,j,rfl,rfl,q⟩:=h
 obtain⟨t,rfl⟩:=rx
 obtain⟨t',rfl⟩:=ry
 exact rule i j t t' s _ _ ⟨.bl (g i j),H,I,rfl,q⟩
noncomputable def ju(i j:Int):Prop:=0 < j/\j < 1073741824
noncomputable def ku(i j:Int):Prop:=0<=j/\j<=1000000/\i.natAbs < 2 ^ 64
noncomputable def CMul(i j:Int):Prop:=(-(2 ^ 64) < i/\i < 2 ^ 64)\/(-(2 ^ 64) < j/\j < 2 ^ 64)
theorem CMul.ok{i j:Int}(h:CMul i j):IntMulOk i j:=by
 rcases h with⟨h1,h2⟩|⟨h1,h2⟩
 ·exact .of_left (intBits_le_64 h1 h2)
 ·exact .of_right (intBits_le_64 h1 h2)
theorem op_add:OpR X (binaryOp .Add) (aY λi j=>.int (i+j)):=BC λ_ _ _ _ _ _ _ q=>add_int q
theorem tZ:OpR X (binaryOp .Sub) (aY λi j=>.int (i - j)):=BC λ_ _ _ _ _ _ _ q=>sub_int q
theorem op_mul:OpR X (binaryOp .Mult) (rI CMul λi j=>.int (i * j)):=bL λ_ _ _ _ _ _ _ hc q=>mul_int q hc.ok
theorem VJ:OpR X (binaryOp .FloorDiv) (rI ju λi j=>.int (i / j)):=bL λi j _ _ _ _ _ hc q=>by
 have h1:(0:Int) < j:=hc.1
 have h2:j < 1073741824:=hc.2
 exact floordiv_int (by omega) (by rw[Int.fdiv_eq_ediv_of_nonneg i (by omega)];exact q) (.inl (PyProof.noPylong_small (by omega)))
theorem FJ:OpR X (binaryOp .Mod) (rI (λ_ j=>0 < j) λi j=>.int (i % j)):=bL λi j _ _ _ _ _ hc q=>by
 have h1:(0:Int) < j:=hc
 exact mod_int' (by omega) (by rw[Int.fmod_eq_emod_of_nonneg i (by omega)];exact q)
theorem Fq:OpR X (binaryOp .Pow) (rI ku λi j=>.int (i ^ j.toNat)):=bL λ_ _ _ _ _ _ _ hc q=>pow_int_small hc.1 hc.2.1 hc.2.2 q
theorem aN{f:Value->Sem Value}{g:Int->Int}
  (rule:∀(i:Int) (t:Tok) (s:Shared) (Q:Value->Shared->Prop) (E:Value->Shared->Prop),Q (.int (g i) s.toks) { s with toks:=s.toks+1 }->wpAny (model X.prog X.w) X.A (f (.int i t)) Q E s) :
  RL X f (rU λi=>.int (g i)):=by
 intro pins s σ H x v Q I rx h
 obtain⟨i,rfl,q⟩:=h
 obtain⟨t,rfl⟩:=rx
 exact rule i t s _ _ ⟨.int (g i),H,I.tok _,⟨_,rfl⟩,q⟩
theorem lu:RL X (unaryOp .USub) (rU λi=>.int (-i)):=aN λ_ _ _ _ _ q=>neg_int q
end
noncomputable def CC:V->V->Bool
 | .non,.non=>true | .non,.int _=>true | .int _,.non=>true | .non,.bl _=>true | .bl _,.non=>true | .non,.str _=>true | .str _,.non=>true
 | .int _,.int _=>true | .bl _,.bl _=>true | .str _,.str _=>true | .byt _,.byt _=>true
 | .int _,.str _=>true | .str _,.int _=>true | .bl _,.str _=>true | .str _,.bl _=>true
 | _,_=>false
noncomputable def cL:R2:=λx y H Q=>CC x y=true/\Q (.bl (decide (x=y))) H
noncomputable def dL:R2:=λx y H Q=>CC x y=true/\Q (.bl (!decide (x=y))) H
theorem bY{i j:Int}:decide (V.int i=V.int j)=(i==j):=by
 rw[t6]
 simp
theorem Gq{i j:Bool}:decide (V.bl i=V.bl j)=(i==j):=by
 rw[t6]
 simp
theorem cY{i j:Str}:decide (V.str i=V.str j)=(i==j):=by
 rw[t6]
 simp
theorem VG{i j:Array UInt8}:decide (V.byt i=V.byt j)=(i.toList==j.toList):=by
 rw[t6]
 cases i
 cases j
 simp
section
variable {X:Cx}{a b c:Expr}{ta tb tc:TE}{pos:Pos}
theorem LQ{pins:List (Addr×Obj)}{σ:St}{H:Hp}{s:Shared}{Q:VK}{k k':Bool}(I:Inv X pins σ H s)(q:Q (.bl k) H)(e:k=k'):EP X pins σ Q (.bool k') s:=by
 subst e
 exact ⟨.bl k,H,I,rfl,q⟩
theorem op_eq:OpR X (compareOp .Eq) cL:=by
 intro pins s σ H x y v u Q I rx ry h
 obtain⟨hs,q⟩:=h
 cases x with
 | non =>
  cases rx
  cases y with
  | non=>cases ry;exact PySem.EqNone.eq_none_none (LQ I q (by simp))
  | bl j=>cases ry;exact PySem.EqNone.eq_none_bool (LQ I q (by simp))
  | int j=>obtain⟨t',rfl⟩:=ry;exact PySem.EqNone.eq_none_int (LQ I q (by simp))
  | str j=>obtain⟨t',rfl⟩:=ry;exact PySem.EqNone.eq_none_str (LQ I q (by simp))
  | _=>exact absurd (show false=true from hs) X0
 | bl i =>
  cases rx
  cases y with
  | non=>cases ry;exact PySem.EqNone.eq_bool_none (LQ I q (by simp))
  | bl j=>cases ry;exact eq_bool (LQ I q Gq)
  | str j=>obtain⟨t',rfl⟩:=ry;exact PySem.EqMixed.eq_bool_str (LQ I q (by simp))
  | _=>exact absurd (show false=true from hs) X0
 | int i =>
  obtain⟨t,rfl⟩:=rx
  cases y with
  | non=>cases ry;exact PySem.EqNone.eq_int_none (LQ I q (by simp))
  | int j=>obtain⟨t',rfl⟩:=ry;exact eq_int (LQ I q bY)
  | str j=>obtain⟨t',rfl⟩:=ry;exact PySem.EqMixed.eq_int_str (LQ I q (by simp))
  | _=>exact absurd (show false=true from hs) X0
 | str i =>
  obtain⟨t,rfl⟩:=rx
  cases y with
  | non=>cases ry;exact PySem.EqNone.eq_str_none (LQ I q (by simp))
  | bl j=>cases ry;exact PySem.EqMixed.eq_str_bool (LQ I q (by simp))
  | int j=>obtain⟨t',rfl⟩:=ry;exact PySem.EqMixed.eq_str_int (LQ I q (by simp))
  | str j=>obtain⟨t',rfl⟩:=ry;exact eq_str (LQ I q cY)
  | _=>exact absurd (show false=true from hs) X0
 | byt i =>
  obtain⟨t,rfl⟩:=rx
  cases y with
  | byt j=>obtain⟨t',rfl⟩:=ry;exact PySem.W.eq_bytes (LQ I q VG)
  | _=>exact absurd (show false=true from hs) X0
 | _=>cases y<;>exact absurd (show false=true from hs) X0
theorem op_ne:OpR X (compareOp .NotEq) dL:=by
 intro pins s σ H x y v u Q I rx ry h
 obtain⟨hs,q⟩:=h
 cases x with
 | non =>
  cases rx
  cases y with
  | non=>cases ry;exact PySem.EqNone.ne_none_none (LQ I q (by simp))
  | bl j=>cases ry;exact PySem.EqNone.ne_none_bool (LQ I q (by simp))
  | int j=>obtain⟨t',rfl⟩:=ry;exact PySem.EqNone.ne_none_int (LQ I q (by simp))
  | str j=>obtain⟨t',rfl⟩:=ry;exact PySem.EqNone.ne_none_str (LQ I q (by simp))
  | _=>exact absurd (show false=true from hs) X0
 | bl i =>
  cases rx
  cases y with
  | non=>cases ry;exact PySem.EqNone.ne_bool_none (LQ I q (by simp))
  | bl j=>cases ry;exact ne_bool (LQ I q (congrArg not Gq))
  | str j=>obtain⟨t',rfl⟩:=ry;exact PySem.EqMixed.ne_bool_str (LQ I q (by simp))
  | _=>exact absurd (show false=true from hs) X0
 | int i =>
  obtain⟨t,rfl⟩:=rx
  cases y with
  | non=>cases ry;exact PySem.EqNone.ne_int_none (LQ I q (by simp))
  | int j=>obtain⟨t',rfl⟩:=ry;exact ne_int (LQ I q (congrArg not bY))
  | str j=>obtain⟨t',rfl⟩:=ry;exact PySem.EqMixed.ne_int_str (LQ I q (by simp))
  | _=>exact absurd (show false=true from hs) X0
 | str i =>
  obtain⟨t,rfl⟩:=rx
  cases y with
  | non=>cases ry;exact PySem.EqNone.ne_str_none (LQ I q (by simp))
  | bl j=>cases ry;exact PySem.EqMixed.ne_str_bool (LQ I q (by simp))
  | int j=>obtain⟨t',rfl⟩:=ry;exact PySem.EqMixed.ne_str_int (LQ I q (by simp))
  | str j=>obtain⟨t',rfl⟩:=ry;exact ne_str (LQ I q (congrArg not cY))
  | _=>exact absurd (show false=true from hs) X0
 | byt i =>
  obtain⟨t,rfl⟩:=rx
  cases y with
  | byt j=>obtain⟨t',rfl⟩:=ry;exact PySem.W.ne_bytes (LQ I q (congrArg not VG))
  | _=>exact absurd (show false=true from hs) X0
 | _=>cases y<;>exact absurd (show false=true from hs) X0
theorem pY:OpR X (compareOp .Lt) (aY λi j=>.bl (decide (i < j))):=Xx λ_ _ _ _ _ _ _ q=>lt_int q
theorem XG:OpR X (compareOp .LtE) (aY λi j=>.bl (decide (i<=j))):=Xx λ_ _ _ _ _ _ _ q=>le_int q
theorem CW:OpR X (compareOp .Gt) (aY λi j=>.bl (decide (j < i))):=Xx λ_ _ _ _ _ _ _ q=>gt_int q
theorem Hv:OpR X (compareOp .GtE) (aY λi j=>.bl (decide (j<=i))):=Xx λ_ _ _ _ _ _ _ q=>ge_int q
theorem OpR.or{f:Value->Value->Sem Value}{r r':R2}(h:OpR X f r)(h':OpR X f r'):OpR X f (λx y H Q=>r x y H Q\/r' x y H Q):=by
 intro pins s σ H x y v u Q I rx ry q
 rcases q with q|q
 ·exact h pins s σ H x y v u Q I rx ry q
 ·exact h' pins s σ H x y v u Q I rx ry q
theorem Hq(b:Expr){op:CmpOp}(h:op≠.In:=by decide)(h2:op≠.NotIn:=by decide):behindInMarks op b=false:=by
 have e1:(op==CmpOp.In)=false:=by cases op<;>first|rfl|exact absurd rfl h
 have e2:(op==CmpOp.NotIn)=false:=by cases op<;>first|rfl|exact absurd rfl h2
 cases b<;>simp[behindInMarks,e1,e2]
theorem Yx{op:CmpOp}{r:R2}(ho:OpR X (compareOp op) r)(ha:PE X a ta)(hb:PE X b tb)(hm:behindInMarks op b=false):PE X (.Compare a [op] [b] pos) (Ax r ta tb):=by
 intro pins s σ H Q I h
 exact wpAny_Compare1 (iu ha hb I h λv u s2 x y H2 I2 rx ry q=>ho pins s2 σ H2 x y v u Q I2 rx ry q) hm
noncomputable def iU(t:TE):TT:=λσ H Q=>t σ H λx H'=>∃k,x=.bl k/\Q k H'
theorem Zx{op:CmpOp}{r:R2}(ho:OpR X (compareOp op) r)(ha:PE X a ta)(hb:PE X b tb)(hm:behindInMarks op b=false):PT X (.Compare a [op] [b] pos) (iU (Ax r ta tb)):=by
 intro pins s σ H Q I h
 refine wpAny_isTrue_Compare1 (pX (ha pins s σ H _ I h) λv s1 ⟨x,H1,I1,r1,q1⟩=>pX (hb pins s1 σ H1 _ I1 q1) λu s2 ⟨y,H2,I2,r2,q2⟩ =>
   pX (ho pins s2 σ H2 x y v u _ I2 r1 r2 q2) λc s3 ⟨z,H3,I3,r3,k,e,q3⟩=>?_) hm
 subst e
 cases r3
 exact wpAny_truthy_bool ⟨H3,I3,q3⟩
noncomputable def EH(r r':R2)(ta tb tc:TE):TE:=λσ H Q=>ta σ H λx H1=>tb σ H1 λy H2=>r x y H2 λz H3=>∃k,z=.bl k /\
 (if k=true then tc σ H3 λw' H4=>r' y w' H4 Q else Q (.bl false) H3)
theorem Iq{op op':CmpOp}{r r':R2}(ho:OpR X (compareOp op) r)(ho':OpR X (compareOp op') r')(ha:PE X a ta)(hb:PE X b tb)(hc:PE X c tc)
  (hm:lastMarks [op,op'] [b,c]=false:=by with_unfolding_all rfl):PT X (.Compare a [op,op'] [b,c] pos) (iU (EH r r' ta tb tc)):=by
 intro pins s σ H Q I h
 refine isTrue_chain (pX (ha pins s σ H _ I h) λv s1 ⟨x,H1,I1,r1,q1⟩=>test_link (pX (hb pins s1 σ H1 _ I1 q1) λu s2 ⟨y,H2,I2,r2,q2⟩ =>
   pX (ho pins s2 σ H2 x y v u _ I2 r1 r2 q2) λd s3 ⟨z,H3,I3,r3,k,e,q3⟩=>?_)) hm
 subst e
 cases r3
 refine wpAny_truthy_bool ?_
 cases k with
 | false =>
  obtain⟨k',e',q'⟩:=q3
  cases e'
  exact ite_ff ⟨H3,I3,q'⟩
 | true =>
  refine ite_tt (test_last (pX (hc pins s3 σ H3 _ I3 q3) λw' s4 ⟨z',H4,I4,r4,q4⟩=>pX (ho' pins s4 σ H4 y z' u w' _ I4 r2 r4 q4) λd' s5 ⟨z2,H5,I5,r5,k2,e2,q5⟩=>?_))
  subst e2
  cases r5
  exact wpAny_truthy_bool ⟨H5,I5,q5⟩
theorem nV:(sizeLine:Nat) < 2 ^ 63:=by rw[sizeLine_eq];decide
theorem XX{x:V}{us:List Value}(r:Vals [x] us):∃u,us=[u]/\RelV x u:=by
 cases r with
 | cons r1 r2=>cases r2;exact ⟨_,rfl,r1⟩
theorem aJ{x y:V}{us:List Value}(r:Vals [x,y] us):∃u w',us=[u,w']/\RelV x u/\RelV y w':=by
 cases r with
 | cons r1 r2 =>
  cases r2 with
  | cons r3 r4=>cases r4;exact ⟨_,_,rfl,r1,r3⟩
theorem jD(hc:X.calm=true):TQ X (.builtin "max") (λxs H Q=>∃i j,xs=[.int i,.int j]/\Q (.int (if j > i then j else i)) H):=by
 intro pins s σ H xs us Q I r h
 obtain⟨i,j,rfl,q⟩:=h
 obtain⟨u,w',rfl,⟨t,rfl⟩,⟨t',rfl⟩⟩:=aJ r
 refine max_two_ints (I.ok.hd hc) λh' tk k=>⟨_,H,I.kept k,?_,q⟩
 by_cases hj:j > i
 ·rw[if_pos hj,if_pos hj];exact ⟨_,rfl⟩
 ·rw[if_neg hj,if_neg hj];exact ⟨_,rfl⟩
theorem kD(hc:X.calm=true):TQ X (.builtin "min") (λxs H Q=>∃i j,xs=[.int i,.int j]/\Q (.int (if j < i then j else i)) H):=by
 intro pins s σ H xs us Q I r h
 obtain⟨i,j,rfl,q⟩:=h
 obtain⟨u,w',rfl,⟨t,rfl⟩,⟨t',rfl⟩⟩:=aJ r
 refine min_two_ints (I.ok.hd hc) λh' tk k=>⟨_,H,I.kept k,?_,q⟩
 by_cases hj:j < i
 ·rw[if_pos hj,if_pos hj];exact ⟨_,rfl⟩
 ·rw[if_neg hj,if_neg hj];exact ⟨_,rfl⟩
theorem lD:TQ X (.type "int") (λxs H Q=>(∃i,xs=[.int i]/\Q (.int i) H)\/∃k,xs=[.bl k]/\Q (.int (if k then 1 else 0)) H):=by
 intro pins s σ H xs us Q I r h
 rcases h with⟨i,rfl,q⟩|⟨k,rfl,q⟩
 ·obtain⟨u,rfl,t,rfl⟩:=XX r
  exact call_int_int ⟨.int i,H,I,⟨_,rfl⟩,q⟩
 ·obtain⟨u,rfl,r1⟩:=XX r
  cases r1
  exact call_int_bool ⟨.int (if k then 1 else 0),H,I.tok _,⟨_,rfl⟩,q⟩
end
structure ObjM(h:Heap)(x dx C:Addr)(mA:Str->Option Value):Prop where
 obj:h.get? x=some (j9 C dx)
 ns:h.Ns1 dx mA
 ne:dx≠x
section
variable {prog:Program}{w:World}{A:Around}{E:Value->Shared->Prop}{s:Shared}{K:q0}{x dx C f:Addr}{mA:Str->Option Value}{name:Str}{v:Value}
end
theorem RelO.some_of{v:V}{o:Option Value}(r:RelO (some v) o):∃u,o=some u/\RelV v u:=by
 cases o with
 | none=>exact (show False from r).elim
 | some u=>exact ⟨u,rfl,r⟩
section
variable {P:Program}{w:World}{H H':Hp}{h h':Heap}{a C dx:Addr}{fs fs':List (Str×V)}
end
structure Cls(K:q0)(C:Addr):Prop where
 pg:PySem.W.plainGet K C Str.empty=true
 hd:PySem.W.hasDictIn K C=true
 po:PySem.W.plainOver K C=true
 sa:J6 K (.ref C) "__setattr__"=some (some (.builtin "object.__setattr__"))
structure Con(K:q0)(C:Addr)(f:Str)(v:V)(u:Value):Prop where
 at_:J6 K (.ref C) f=some (some u)
 rel:RelV v u
 get:g9 K u "__get__"=some none
 cp:PySem.W.copiedNames.contains f=false
structure Meth(K:q0)(C:Addr)(m:Str)(f:Addr):Prop where
 at_:J6 K (.ref C) m=some (some (.ref f))
 fn:PySem.W.isFn K (.ref f)=true
 kp:n5 K (.ref f)=true
section
variable {X:Cx}{pins:List (Addr×Obj)}{σ:St}{H:Hp}{s:Shared}{a C dx:Addr}{fs:List (Str×V)}{f:Str}{v:V}{A:Around}{E:Value->Shared->Prop}
end
section
variable {X:Cx}{o e value:Expr}{f:Str}{pos pos' tpos:Pos}{ta tv:TE}
end
section
variable {X:Cx}{pins:List (Addr×Obj)}{σ:St}{H:Hp}{s:Shared}{A:Around}{E:Value->Shared->Prop}{Q:Value->Shared->Prop}{c:Value}{b:Bool}
inductive TyOf (K:q0) (H:Hp):V->Value->Prop where
 | non:TyOf K H .non (.type "NoneType")
 | bl (x:Bool):TyOf K H (.bl x) (.type "bool")
 | int (i:Int):TyOf K H (.int i) (.type "int")
 | str (x:Str):TyOf K H (.str x) (.type "str")
 | flt (x:UInt64):TyOf K H (.flt x) (.type "float")
 | lst {a:Addr}{xs:List V} (e:H a=some (.lst xs)):TyOf K H (.ref a) (.type "list")
 | frz {a:Addr}{o:Obj}{xs:List V} (e:H a=some (.frz o (.lst xs))):TyOf K H (.ref a) (.type "list")
 | tup {a:Addr}{xs:List V} (e:H a=some (.tup xs)):TyOf K H (.ref a) (.type "tuple")
 | dK {a:Addr}{kvs:List (HQ×V)} (e:H a=some (.dK kvs)):TyOf K H (.ref a) (.type "dict")
 | dT {a:Addr}{kvs:List (List HQ×V)} (e:H a=some (.dT kvs)):TyOf K H (.ref a) (.type "dict")
 | ins {a C dx:Addr}{fs:List (Str×V)} (e:H a=some (.ins C dx fs)) (cl:Cls K C) (ha:J6 K (.ref C) "__class__"=some (some (.builtin "object.__class__")))
   (hn:g9 K (.builtin "object.__class__") "__get__"=some (some (.builtin "getset_descriptor.__get__"))) (htk:PySem.W.takesIn K (.builtin "object.__class__")=some true)
   (hm:PySem.W.mroIn K C (.type "object")=some true):TyOf K H (.ref a) (.ref C)
end
structure Room(k:Nat)(A:Around):Prop where
 hd:A.handled=none
 dp:A.depth+3 * k+5 < recursionLimit
 un:A.units+16 * k+200 < cLine
 gd:A.guards=some []
theorem Room.mono{j k:Nat}{A:Around}(r:Room k A)(h:j<=k):Room j A:=⟨r.hd,by have:=r.dp;omega,by have:=r.un;omega,r.gd⟩
theorem Room.deeper{k:Nat}{A:Around}(r:Room (k+1) A)(env:Env):Room k (A.deeper env) :=
 ⟨r.hd,by have:=r.dp;show A.depth+1+3 * k+5 < _;omega,by have:=r.un;show A.units+3+16 * k+200 < _;omega,r.gd⟩
theorem Room.depth{k:Nat}{A:Around}(r:Room k A):A.depth < recursionLimit:=by have:=r.dp;omega
theorem Room.units{k:Nat}{A:Around}(r:Room k A):A.units+64 < cLine:=by have:=r.un;omega
noncomputable def nu:TA:=λ_ H Q=>Q [] H
noncomputable def Jq(ta:TE)(tr:TA):TA:=λσ H Q=>ta σ H λx H1=>tr σ H1 λxs H2=>Q (x :: xs) H2
section
variable {X:Cx}{e:Expr}{es:List Expr}{te:TE}{t:TA}{pos:Pos}
theorem oV:PA X [] nu:=λ_ _ _ _ H Q I h=>Calls.spliced_nil ⟨[],H,I,.nil,h⟩
theorem WJ(ha:PE X e te)(hr:PA X es t)(hs:starEach (e :: es) X.env=(false,eval e X.env) :: starEach es X.env:=by rfl):PA X (e :: es) (Jq te t):=by
 intro pos pins s σ H Q I h
 rw[hs]
 show wpAny _ _ (spliced ((false,eval e X.env) :: backTo pos (starEach es X.env))) _ _ s
 refine Calls.spliced_cons (pX (ha pins s σ H _ I h) λu s1 ⟨x,H1,I1,r1,q1⟩=>?_)
 exact pX (hr pos pins s1 σ H1 _ I1 q1) λus s2 ⟨xs,H2,I2,r2,q2⟩=>⟨x :: xs,H2,I2,.cons r1 r2,q2⟩
noncomputable def ou(t:TA):TE:=λσ H Q=>t σ H λxs H1=>xs.length<=sizeLine/\∀p,H1 p=none->Q (.ref p) (dX H1 p (.tup xs))
noncomputable def qu(t:TA):TE:=λσ H Q=>t σ H λxs H1=>xs.length<=sizeLine/\∀p,H1 p=none->Q (.ref p) (dX H1 p (.lst xs))
theorem su{x1}(h:PA X es t):PE X (.Tuple es x1 pos) (ou t):=by
 intro pins s σ H Q I hq
 refine wpAny_Tuple_spliced (pX (h pos pins s σ H _ I hq) λus s1 ⟨xs,H1,I1,r,z,q⟩=>⟨by rw[<- r.length];exact z,?_⟩)
 have hf:H1 s1.heap.objs.size=none:=I1.hok.fresh (B0 _)
 refine ⟨.ref s1.heap.objs.size,dX H1 s1.heap.objs.size (.tup xs),I1.laid (t':=s1.toks) (λb u e=>n0 _ e) (B0 _) ?_,rfl,q _ hf⟩
 exact ⟨z,us,r,⟨_,L0 _ rfl,rfl,_,rfl,rfl⟩⟩
theorem tu(h:PA X es t):PE X (.List es pos) (qu t):=by
 intro pins s σ H Q I hq
 refine wpAny_List_spliced (pX (h pos pins s σ H _ I hq) λus s1 ⟨xs,H1,I1,r,z,q⟩=>⟨by rw[<- r.length];exact z,?_⟩)
 have hf:H1 s1.heap.objs.size=none:=I1.hok.fresh (B0 _)
 refine ⟨.ref s1.heap.objs.size,dX H1 s1.heap.objs.size (.lst xs),I1.laid (t':=s1.toks) (λb u e=>n0 _ e) (B0 _) ?_,rfl,q _ hf⟩
 exact ⟨z,us,0,r,L0 _ rfl⟩
end
noncomputable abbrev Sp:=List V->Hp->VK->XK->Prop
noncomputable abbrev Kq:=List Env->Hp->Shared->XK->Value->Shared->Prop
structure Env0(P:Program)(w:World)(K:q0)(mg:Str->Option Value)(base:Heap)(A:Around)(outer:List Env)(s:Shared)(H:Hp):Prop where
 frames:A.frames=some outer
 mod:Mod K mg base
 bs:∀b o,base.get? b=some o->s.heap.get? b=some o/\H b=none
 bsz:base.objs.size<=s.heap.objs.size
 funs:s.heap.FunFrames base outer
 frf:∀b∈UG outer,H b=none
 hok:HOk P w H s.heap
 bare:AllBare s.gens
noncomputable def CE(outer:List Env)(P:Program)(w:World)(H:Hp)(s:Shared)(Q:VK)(u:Value)(s':Shared):Prop :=
 ∃v H',s'.os=s.os/\AllBare s'.gens/\Un (UG outer) [] H H' s.heap s'.heap/\HOk P w H' s'.heap/\RelV v u/\Q v H'
noncomputable def CR(CX:Kq)(outer:List Env)(P:Program)(w:World)(H:Hp)(s:Shared)(Q:VK)(E:XK)(r:Result)(s':Shared):Prop :=
 match r with
 | .ok (.ret u)=>CE outer P w H s Q u s'
 | .ok _=>False
 | .error e=>CX outer H s E e s'
structure FnOk(P:Program)(w:World)(K:q0)(mg:Str->Option Value)(base:Heap)(CX:Kq)(k:Nat)(f:Addr)(fd:FuncData)(ps:List Str)(sp:Sp):Prop where
 len:∀vs H Q E,sp vs H Q E->vs.length=ps.length
 run:∀(A:Around) (outer:List Env) (s:Shared) (H:Hp) (args:Args) (us:List Value) (vs:List V) (Q:VK) (E:XK),Room k A->Env0 P w K mg base A outer s H->BindsTo s fd args (ps.zip us)->Vals vs us->sp vs H Q E ->
  codeAny (model P w) A (.call (.ref f) args) (CR CX outer P w H s Q E) s
section
variable {X:Cx}{pins:List (Addr×Obj)}{σ:St}{H:Hp}{s s':Shared}
theorem Inv.env0(I:Inv X pins σ H s):Env0 X.prog X.w X.K X.mg X.base X.A X.stack s H :=
 ⟨I.ok.frames,I.ok.mod,I.bs,Z0 I.ok.bsz I.sz,I.stack,I.stkFree,I.hok,I.bare⟩
theorem Inv.after{Q:VK}{u:Value}(I:Inv X pins σ H s)(h:CE X.stack X.prog X.w H s Q u s'):EP X pins σ Q u s':=by
 obtain⟨v,H',os,bare,un,hok,r,q⟩:=h
 obtain⟨hh,g,d,t,os'⟩:=s'
 obtain rfl:os'=s.os:=os
 exact ⟨v,H',I.call (h':=hh) (g':=g) (d':=d) (t':=t) (ch:=[]) un hok bare (λb z=>absurd z (by simp)),r,q⟩
end
noncomputable def qY(sp:Sp)(dvs:List V)(E:XK)(t:TA):TE:=λσ H Q=>t σ H λvs H1=>sp (vs++dvs) H1 Q E
noncomputable def Binds(K:q0)(fd:FuncData)(ps:List Str)(ds:List Value):Prop :=
 ∀(s:Shared) (us:List Value),K.In s.heap->(us++ds).length=ps.length->BindsTo s fd ⟨us,[]⟩ (ps.zip (us++ds))
theorem Binds.all{K:q0}{fd:FuncData}{ps:List Str}(h:∀us:List Value,us.length=ps.length->bindArgs fd ⟨us,[]⟩=pure (ps.zip us)):Binds K fd ps []:=λs us _ hl=>by
 rw[u4]at hl ⊢
 exact .of_eq (h us hl)
noncomputable def FH(CX:Kq)(X:Cx)(E:XK):Prop:=∀(pins:List (Addr×Obj)) (σ:St) (H:Hp) (s:Shared) (e:Value) (s':Shared),Inv X pins σ H s->CX X.stack H s E e s'->X.xe e s'
section
variable {X:Cx}{CX:Kq}{k:Nat}{f C:Addr}{fd:FuncData}{ps:List Str}{sp:Sp}{dvs:List V}{ds:List Value}{E:XK}{x m:Str}{p pos apos:Pos}{e o:Expr}{es:List Expr}{ta:TE}{t:TA}
theorem uu{pins:List (Addr×Obj)}{σ:St}{H:Hp}{s:Shared}{Q:VK}{us:List Value}{vs:List V}(F:FnOk X.prog X.w X.K X.mg X.base CX k f fd ps sp)(hr:Room k X.A)(hb:Binds X.K fd ps ds)(hd:Vals dvs ds)(hx:FH CX X E)
  (I:Inv X pins σ H s) (r:Vals vs us) (h:sp (vs++dvs) H Q E):wpAny (model X.prog X.w) X.A (call (.ref f) us) (EP X pins σ Q) X.xe s:=by
 have r2:Vals (vs++dvs) (us++ds):=r.append hd
 have hl:(us++ds).length=ps.length:=by rw[<- r2.length];exact F.len _ _ _ _ h
 refine wpAny_call (codeAny_mono (F.run X.A X.stack s H ⟨us,[]⟩ (us++ds) (vs++dvs) Q E hr I.env0 (hb s us I.kIn hl) r2 h) λr s' hq=>?_)
 cases r with
 | error e=>exact hx pins σ H s e s' I hq
 | ok fl =>
  cases fl with
  | ret u=>exact I.after hq
  | next=>exact False.elim hq
  | brk=>exact False.elim hq
  | cont=>exact False.elim hq
theorem ak(F:FnOk X.prog X.w X.K X.mg X.base CX k f fd ps sp)(hr:Room k X.A)(hg:Gl X x)(hm:X.mg x=some (.ref f))(hk:n5 X.K (.ref f)=true)(hb:Binds X.K fd ps ds)(hd:Vals dvs ds)(hx:FH CX X E)
  (ha:PA X (e :: es) t) (hdb:(x==("__debug__":Str))=false:=by decide) (he:starEach (e :: es) X.env=(false,eval e X.env) :: starEach es X.env:=by rfl) (hpl:(backTo pos (starEach es X.env)).any (·.1)=false:=by rfl) :
  PE X (.Call (.Name x p) (e :: es) [] pos) (qY sp dvs E t):=by
 intro pins s σ H Q I h
 refine wpAny_Call_Name_kw (Lx I hg hm ?_ hdb)
 refine PySem.W.callWith_K (h₀:=X.base) I.ok.mod.kin hk (pX (ha pos pins s σ H _ I h) λus s1 ⟨vs,H1,I1,r,q⟩=>⟨I1.kIn,?_⟩) he hpl
 exact uu F hr hb hd hx I1 r q
structure Mk(K:q0)(C f:Addr):Prop where
 makes:PySem.W.makesIn K C=true
 init:J6 K (.ref C) "__init__"=some (some (.ref f))
 fn:PySem.W.isFn K (.ref f)=true
 kp:n5 K (.ref C)=true
end
section
variable {X:Cx}{CX:Kq}{k:Nat}{f C:Addr}{fd:FuncData}{ps ks:List Str}{sp:Sp}{E:XK}{x m:Str}{p pos apos kpos:Pos}{e o:Expr}{es:List Expr}{kws:List Keyword}{te ta:TE}{t tk:TA}{nm:Option Str}
structure KBinds(K:q0)(fd:FuncData)(ps ks:List Str)(g:List Value->List Value->List Value)(gV:List V->List V->List V):Prop where
 to:∀(s:Shared) (us ws:List Value),K.In s.heap->(g us ws).length=ps.length->BindsTo s fd ⟨us,ks.zip ws⟩ (ps.zip (g us ws))
 rel:∀{vs:List V}{us:List Value}{zs:List V}{ws:List Value},Vals vs us->Vals zs ws->Vals (gV vs zs) (g us ws)
variable {g:List Value->List Value->List Value}{gV:List V->List V->List V}
end
structure FnScope(N P:List Str)(sc:Scope):Prop where
 kind:sc.kind=.function
 co:sc.isCoroutine=false
 gen:sc.isGenerator=false
 nd:N.Nodup
 pre:N.take P.length=P
 par:∀x∈P,sc.names.lookup x=some .local\/sc.names.lookup x=some .cell
 nofree:∀y∈sc.names,y.2≠.free
theorem DW{kindOf:Str->Option NameKind}{x:Str}:∀{binds:List (Str×Value)}{m:Str->Option Value},(∀v,(x,v)∉binds)->bindL kindOf binds m x=m x
 | [],_,_=>rfl
 | (n,v) :: r,m,h=>by
  unfold bindL
  rw[DW λw hw=>h w (J0 _ hw)]
  split
  ·have:x≠n:=by rintro rfl;exact h v G0
   simp[this]
  ·rfl
theorem EW{kindOf:Str->Option NameKind}{x:Str}:∀{binds:List (Str×Value)}{m:Str->Option Value},(∀v,(x,v)∉binds)->bindC kindOf binds m x=m x
 | [],_,_=>rfl
 | (n,v) :: r,m,h=>by
  unfold bindC
  rw[EW λw hw=>h w (J0 _ hw)]
  split
  ·rfl
  ·have:x≠n:=by rintro rfl;exact h v G0
   simp[this]
theorem FW{kindOf:Str->Option NameKind}{x:Str}{v:Value}:∀{P:List Str}{vs:List Value}{i:Nat}{m:Str->Option Value},P.Nodup->P[i]?=some x->vs[i]?=some v->kindOf x=some .local ->
  bindL kindOf (P.zip vs) m x=some v
 | [],_,_,_,_,h,_,_=>by simp at h
 | _ :: _,[],_,_,_,_,h,_=>by simp at h
 | p :: P,w :: vs,0,m,nd,h1,h2,hk=>by
  simp at h1 h2;subst h1;subst h2
  show bindL kindOf ((p,w) :: P.zip vs) m p=_
  unfold bindL
  rw[DW λv hv=>(X4.mp nd).1 (u6 hv).1,if_pos hk]
  simp
 | p :: P,w :: vs,i+1,m,nd,h1,h2,hk=>by
  show bindL kindOf ((p,w) :: P.zip vs) m x=_
  unfold bindL
  exact FW (i:=i) (X4.mp nd).2 (by simpa using h1) (by simpa using h2) hk
theorem GW{kindOf:Str->Option NameKind}{x:Str}{v:Value}:∀{P:List Str}{vs:List Value}{i:Nat}{m:Str->Option Value},P.Nodup->P[i]?=some x->vs[i]?=some v->kindOf x≠some .local ->
  bindC kindOf (P.zip vs) m x=some v
 | [],_,_,_,_,h,_,_=>by simp at h
 | _ :: _,[],_,_,_,_,h,_=>by simp at h
 | p :: P,w :: vs,0,m,nd,h1,h2,hk=>by
  simp at h1 h2;subst h1;subst h2
  show bindC kindOf ((p,w) :: P.zip vs) m p=_
  unfold bindC
  rw[EW λv hv=>(X4.mp nd).1 (u6 hv).1,if_neg hk]
  simp
 | p :: P,w :: vs,i+1,m,nd,h1,h2,hk=>by
  show bindC kindOf ((p,w) :: P.zip vs) m x=_
  unfold bindC
  exact GW (i:=i) (X4.mp nd).2 (by simpa using h1) (by simpa using h2) hk
noncomputable def start(N:List Str)(vs:List V):St:=vs.map some++O0 (N.length - vs.length) none
noncomputable def jU(CX:Kq)(P:Program)(w:World)(K:q0)(mg:Str->Option Value)(base:Heap)(N:List Str)(qual:Str)(scope:Scope)(f:Addr)(cd:Value)(A:Around)(outer:List Env)(s:Shared)(H:Hp)(E:XK):Cx where
 prog:=P
 w:=w
 K:=K
 mg:=mg
 base:=base
 A:=A.deeper (envOfC qual scope s.heap.objs.size f cd)
 N:=N
 s₀:=s
 H₀:=H
 env:=envOfC qual scope s.heap.objs.size f cd
 outer:=outer
 stack:=envOfC qual scope s.heap.objs.size f cd :: outer
 ex:=[]
 calm:=true
 fn:=λ_=>true
 pn:=[]
 xe:=λe s'=>wpAny (model P w) (A.deeper (envOfC qual scope s.heap.objs.size f cd)) (leaving (envOfC qual scope s.heap.objs.size f cd) e) (λ_ s''=>CX outer H s E e s'') (λe' s''=>CX outer H s E e' s'') s'
theorem XJ{sc:Scope}{n:Nat}{x:Str}(h:sc.names.lookup x=some .cell):∃c,(cellsFrom n sc.names []).lookup x=some c:=by
 have q:=o8 sc.names n [] (.inl h)
 exact Option.isSome_iff_exists.mp q
theorem mD{CX:Kq}{P:Program}{w:World}{K:q0}{mg:Str->Option Value}{base:Heap}{N ps:List Str}{qual:Str}{scope:Scope}{f:Addr}{cd:Value}{A:Around}{outer:List Env}{s s1:Shared}{H:Hp}{E:XK}{us:List Value}{vs:List V}
  (S:FnScope N ps scope) (hd:A.handled=none) (e0:Env0 P w K mg base A outer s H) (hl:vs.length=ps.length) (r:Vals vs us)
  (x:InCallC s s.heap.objs.size (bindL (envOfC qual scope s.heap.objs.size f cd).kindOf (ps.zip us) λ_=>none) (cellsFrom (s.heap.objs.size+1) scope.names []) (bindC (envOfC qual scope s.heap.objs.size f cd).kindOf (ps.zip us) λ_=>none) s1) :
  Inv (jU CX P w K mg base N qual scope f cd A outer s H E) [] (start N vs) H s1:=by
 have hpl:ps.length<=N.length:=by have:=congrArg L4 S.pre;rw[E1]at this;omega
 obtain⟨h1,tk,rfl,hk⟩:=x.done
 have noA:∀b:Addr,b∉(jU CX P w K mg base N qual scope f cd A outer s H E).ex:=λb z=>absurd (show b∈([]:List Addr) from z) (by simp)
 refine ⟨⟨e0.mod,S.kind,rfl,rfl,B0 _,λy z c h1 h2=>?_,λy hy=>?_,λy c _ h=>?_,λ_=>hd,Around.frames_deeper e0.frames,.inr ⟨rfl,rfl⟩,λb z=>absurd z (noA b),e0.bs,e0.bsz,λb _ _=>noA b,λb z=>absurd z (noA b),e0.funs,e0.frf⟩,
   rfl,e0.bare,Un.kept hk,⟨_,x.toInCall.ns,λi y v h1 h2 h3=>?_⟩,λy c h=>⟨_,x.cell y c h⟩,e0.hok.fresh (B0 _),λy c h=>?_,λp hp=>absurd (show p∈([]:List (Addr×Obj)) from hp) (by simp),e0.hok.kept hk,?_⟩
 ·exact name_of_addr x.apart (PySem.mem_of_lookup h1) (PySem.mem_of_lookup h2)
 ·have hy:scope.names.lookup y=some .cell\/scope.names.lookup y=some .free:=hy
  rcases hy with hy|hy
  ·exact XJ hy
  ·exact absurd rfl (S.nofree _ (PySem.mem_of_lookup hy))
 ·exact Y4 (x.above y c (PySem.mem_of_lookup h))
 ·have hi:i < vs.length:=by
   unfold start at h2
   by_cases hi:i < vs.length
   ·exact hi
   ·rw[T1 (by simpa using hi)]at h2
    rw[b8]at h2
    split at h2<;>cases h2
  have ha:vs[i]?=some v:=by
   unfold start at h2
   rw[P2 (by simpa using hi),R0]at h2
   cases e:vs[i]? with
   | none=>rw[e]at h2;cases h2
   | some a=>rw[e]at h2;cases h2;rfl
  obtain⟨u,hu,rv⟩:=r.get ha
  have hp:ps[i]?=some y:=by
   rw[<- S.pre,S7 (by omega)];exact h1
  have ndP:ps.Nodup:=by rw[<- S.pre];exact S.nd.sublist (List.take_sublist _ _)
  refine ⟨u,rv,?_⟩
  rcases S.par y (A1 hp) with k|k
  ·exact .inl ⟨k,FW ndP hp hu k⟩
  ·obtain⟨c,e⟩:=XJ (n:=s.heap.objs.size+1) k
   refine .inr ⟨.inl k,c,e,?_⟩
   have q:=x.cell y c e
   rw[GW ndP hp hu (by show scope.names.lookup y≠_;rw[k];decide)]at q
   exact q
 ·exact e0.hok.fresh (Y4 (x.above y c (PySem.mem_of_lookup h)))
 ·unfold start
  show _=N.length
  rw[Q0,p0,N6]
  omega
theorem DC{CX:Kq}{P:Program}{w:World}{K:q0}{mg:Str->Option Value}{base:Heap}{k:Nat}{f:Addr}{name qual:Str}{params:Arguments}{body:List Stmt}{scope:Scope}{dV kV doc pm cdv ct oc:Value}{an od:Option Addr}
  {osl:Array (Option Value)}{N ps:List Str}{sp:Sp} (lk:K.lookup f=some ⟨oc,od,.func (G5 name qual params body scope dV kV doc pm an cdv ct),osl⟩) (hcd:m7 K cdv qual=true) (S:FnScope N ps scope)
  (len:∀vs H Q E,sp vs H Q E->vs.length=ps.length)
  (hbody:∀(A:Around) (outer:List Env) (s:Shared) (H:Hp) (vs:List V) (Q:VK) (E:XK),Room k (A.deeper (envOfC qual scope s.heap.objs.size f cdv))->sp vs H Q E ->
    ∃t,PSs (jU CX P w K mg base N qual scope f cdv A outer s H E) body t/\t { nx:=λ_ H'=>Q .non H',rt:=Q } (start N vs) H) :
  FnOk P w K mg base CX (k+1) f (G5 name qual params body scope dV kV doc pm an cdv ct) ps sp:=by
 refine ⟨len,λA outer s H args us vs Q E hr e0 hb r hsp=>?_⟩
 have hl:=len _ _ _ _ hsp
 have KX:K.In s.heap:=e0.mod.kin.keeps λb o e=>(e0.bs b o e).1
 have lim:s.heap.NoLimit:=e0.mod.nolimit.keeps λb o e=>(e0.bs b o e).1
 have hkind:∀y∈ps.zip us,scope.names.lookup y.1=some .local\/(scope.names.lookup y.1=some .cell/\((cellsFrom (s.heap.objs.size+1) scope.names []).lookup y.1).isSome=true):=λ⟨n,v⟩ hy=>by
  rcases S.par n (u6 hy).1 with q|q
  ·exact .inl q
  ·exact .inr ⟨q,o8 _ _ _ (.inl q)⟩
 refine codeAny_call_function hr.depth (KX _ _ lk) rfl S.co S.gen rfl (PySem.W.codeRec_of KX hcd) (hb _ _ _ _ ?_)
 refine wpAny_newFunctionEnv_cells S.kind hkind λenv he s1 x=>?_
 subst he
 refine ⟨lim.keeps x.toInCall.keep,codeAny_func ?_⟩
 obtain⟨t,ht,hq⟩:=hbody A outer s H vs Q E (hr.deeper _) hsp
 have I:Inv (jU CX P w K mg base N qual scope f cdv A outer s H E) [] (start N vs) H s1:=mD S hr.hd e0 hl r x
 refine wpAny_mono (ht [] s1 (start N vs) H _ I hq) (λfl s' hs=>?_) λe s' hs=>hs
 have fin:∀{σ':St}{H':Hp}{v:V}{u:Value},Inv (jU CX P w K mg base N qual scope f cdv A outer s H E) [] σ' H' s'->RelV v u->Q v H'->CE outer P w H s Q u s' :=
  λ{σ' H' v u} J rv q=>⟨v,H',J.os,J.bare,J.base,J.hok,rv,q⟩
 cases fl with
 | ret u =>
  obtain⟨v,σ',H',J,rv,q⟩:=hs
  exact fin J rv q
 | next =>
  obtain⟨σ',H',J,q⟩:=hs
  exact fin (v:=V.non) (u:=A4) J rfl q
 | brk =>
  obtain⟨_,_,_,q⟩:=hs
  exact False.elim q
 | cont =>
  obtain⟨_,_,_,q⟩:=hs
  exact False.elim q
section
variable {X:Cx}{x:Str}{p pos:Pos}{e:Expr}{es:List Expr}{t:TA}{id T:String}{r:List V->Hp->VK->Prop}
noncomputable def EC(r:List V->Hp->VK->Prop)(t:TA):TE:=λσ H Q=>t σ H λvs H1=>r vs H1 Q
theorem rY(hc:TQ X (.builtin id) r)(hg:Gl X x)(hm:X.mg x=none)(hv:bootBuiltins x=some (.builtin id))(ha:PA X (e :: es) t)(hn:x ≠ "__name__":=by decide)(hdb:(x==("__debug__":Str))=false:=by decide)
  (he:starEach (e :: es) X.env=(false,eval e X.env) :: starEach es X.env:=by rfl) (hpl:(backTo pos (starEach es X.env)).any (·.1)=false:=by rfl):PE X (.Call (.Name x p) (e :: es) [] pos) (EC r t):=by
 intro pins s σ H Q I h
 refine wpAny_Call_Name_kw (wK I hg hm hv ?_ hn hdb)
 exact PyProof.Rows.callWith_builtin1 (pX (ha pos pins s σ H _ I h) λus s1 ⟨vs,H1,I1,r1,q1⟩=>hc pins s1 σ H1 vs us Q I1 r1 q1) he hpl
theorem xJ(hc:TQ X (.type T) r)(hg:Gl X x)(hm:X.mg x=none)(hv:bootBuiltins x=some (.type T))(ha:PA X (e :: es) t)(hn:x ≠ "__name__":=by decide)(hdb:(x==("__debug__":Str))=false:=by decide)
  (he:starEach (e :: es) X.env=(false,eval e X.env) :: starEach es X.env:=by rfl) (hpl:(backTo pos (starEach es X.env)).any (·.1)=false:=by rfl):PE X (.Call (.Name x p) (e :: es) [] pos) (EC r t):=by
 intro pins s σ H Q I h
 refine wpAny_Call_Name_kw (wK I hg hm hv ?_ hn hdb)
 exact i5 (pX (ha pos pins s σ H _ I h) λus s1 ⟨vs,H1,I1,r1,q1⟩=>hc pins s1 σ H1 vs us Q I1 r1 q1) he hpl
end
end L2
namespace HT
open PySem PyProof.Rows
noncomputable def lexLt:List Int->List Int->Bool
 | [],[]=>false
 | [],_ :: _=>true
 | _ :: _,[]=>false
 | x :: xs,y :: ys=>if x=y then lexLt xs ys else decide (x < y)
theorem lexLt_cons(x y:Int)(xs ys:List Int):lexLt (x :: xs) (y :: ys)=if x=y then lexLt xs ys else decide (x < y):=rfl
theorem oW:lexLt [] []=false:=rfl
theorem sY(y:Int)(ys:List Int):lexLt [] (y :: ys)=true:=rfl
theorem tY(x:Int)(xs:List Int):lexLt (x :: xs) []=false:=rfl
theorem Lq(A:Around)(s:Shared)(a:Int)(t:Tok)(c:Int)(u:Tok):∃e,SeqAt.EqAt A s (.int a t) (.int c u) e/\(e=true ↔ a=c) :=
 ⟨(a==c),SeqAt.EqAt.int_int a t c u,by simp⟩
theorem Mq(A:Around)(s:Shared)(a:Int)(t:Tok)(c:Int)(u:Tok)(prog:Program)(w:World)(E:Value->Shared->Prop)(Q:Value->Shared->Prop)(h:Q (.bool (decide (a < c))) s) :
  wpAny (model prog w) A (richCompare .Lt (.int a t) (.int c u)) Q E s :=
 (PyProof.Rows.lt_int h:wpAny (model prog w) A (compareOp .Lt (.int a t) (.int c u)) Q E s)
section
open PySem.SeqAt
open PySem.AutoSeq1 (wpAny_loadPart')
open PySem.MeetsSeq PySem.MeetsSeq2 PySem.MeetsSeq3
theorem pW(l b:Addr)(items items2:Array Value)(n n2:Nat)(dd dd2:Option Addr)(sl sl2:Array (Option Value))(ns ms:List Int)(hi:IntsAre items.toList ns)(hj:IntsAre items2.toList ms) :
  Meets (Builtin.«tuple.__lt__» ⟨[.ref l,.ref b],[]⟩)
   (λ_ R s=>s.heap.get? l=some { cls:=.type "tuple",dict:=dd,data:=.seq items n,slots:=sl }/\s.heap.get? b=some { cls:=.type "tuple",dict:=dd2,data:=.seq items2 n2,slots:=sl2 } /\
     R (.ok (.ret (.bool (lexLt ns ms)))) s) :=
 .of_wp λprog w A R s h=>by
  obtain⟨hp,g,d,tk,os⟩:=s;obtain⟨hl,hb,h⟩:=h
  have f2:=AutoSeq1.sub_tuple_tuple
  have z1:items.size=ns.length:=by rw[<- hi.length];simp
  have z2:items2.size=ms.length:=by rw[<- hj.length];simp
  wp_walk using wpAny_loadPart' hl,wpAny_loadPart' hb,wpAny_forIn_list _ (λrest b s'=>b.1=none/\s'=⟨hp,g,d,tk,os⟩/\∃(vs ws:List Value) (ns' ms':List Int),rest=vs.zip ws /\
    IntsAre vs ns'/\IntsAre ws ms'/\ns'.length+items2.size=ms'.length+items.size/\R (.ok (.ret (.bool (lexLt ns' ms')))) ⟨hp,g,d,tk,os⟩) _
  case turn =>
   rintro⟨y,x⟩ rest b s' ⟨hb',rfl,vs,ws,ns',ms',hz,hvi,hwi,hlen,hR⟩
   cases hvi with
   | nil=>rw[List.zip_nil_left]at hz;cases hz
   | cons a t hvi' =>
    cases hwi with
    | nil=>rw[List.zip_nil_right]at hz;cases hz
    | cons c u hwi' =>
     rw[S8]at hz
     injection hz with hyx hrest
     injection hyx with hy hx
     subst hy hx
     rw[lexLt_cons]at hR
     simp only[V1]at hlen
     obtain⟨e,he,hiff⟩:=Lq A.in1 ⟨hp,g,d,tk,os⟩ a t c u
     refine wpAny_bind (he prog w _ _ ?_)
     cases e with
     | true =>
      rw[if_pos (hiff.mp rfl)]at hR
      wp_walk
      exact ⟨rfl,rfl,_,_,_,_,hrest,hvi',hwi',by omega,hR⟩
     | false =>
      rw[if_neg (λq=>absurd (hiff.mpr q) X0)]at hR
      have hri:=Mq A.in1 ⟨hp,g,d,tk,os⟩ a t c u prog w
      wp_walk using hri
      exact ⟨_,rfl,by simpa using hR⟩
  case fin =>
   rintro⟨b1,b2⟩ s' ⟨hb',rfl,vs,ws,ns',ms',hz,hvi,hwi,hlen,hR⟩
   simp only at hb'
   subst hb'
   have hv:lexLt ns' ms'=decide (items.size < items2.size):=by
    cases hvi with
    | nil =>
     cases hwi with
     | nil =>
      simp only[v6]at hlen
      rw[oW]
      exact (decide_eq_false (by omega)).symm
     | cons c u hw =>
      simp only[v6,V1]at hlen
      rw[sY]
      exact (decide_eq_true (by omega)).symm
    | cons a t hv =>
     cases hwi with
     | nil =>
      simp only[v6,V1]at hlen
      rw[tY]
      exact (decide_eq_false (by omega)).symm
     | cons c u hw =>
      rw[S8]at hz
      cases hz
   rw[hv]at hR
   wp_walk
   exact ⟨_,rfl,by simpa [Builtin.Tuple.tupleCompareSizes]using hR⟩
  case h =>
   exact ⟨rfl,rfl,items.toList,items2.toList,ns,ms,rfl,hi,hj,by omega,h⟩
end
section
variable {prog:Program}{w:World}{A:Around}{E:Value->Shared->Prop}{s:Shared}
theorem lt_tupInts{l b:Addr}{items items2:Array Value}{ns ms:List Int}{Q:Value->Shared->Prop}(hl:IsTup s.heap l items)(hb:IsTup s.heap b items2)(hi:IntsAre items.toList ns)(hj:IntsAre items2.toList ms)
  (hu:A.units < cLine) (h:Q (.bool (lexLt ns ms)) s):wpAny (model prog w) A (compareOp .Lt (.ref l) (.ref b)) Q E s:=by
 obtain⟨⟨cls,dd,data,sl⟩,ho,hc,n,hd⟩:=id hl
 obtain⟨⟨cls2,dd2,data2,sl2⟩,ho2,hc2,n2,hd2⟩:=id hb
 simp only at hc hd hc2 hd2
 subst hc hd hc2 hd2
 exact richCompare_meets_room (op:=.Lt) ⟨_,ho,rfl⟩ ⟨_,ho2,rfl⟩ PySem.F.slot_tuple_lt PySem.F.entry_tuple_lt (PySem.F.args_tuple_lt_2 _ _) (pW l b items items2 n n2 dd dd2 sl sl2 ns ms hi hj)
  ⟨ho,ho2,show o9 (lexLt ns ms)≠K8/\Q (.bool (lexLt ns ms)) s from ⟨(λx=>nomatch x),h⟩⟩ hu
theorem cat_tup{t b:Addr}{vs ws:List Value}{Q:Value->Shared->Prop}(ht:IsTup s.heap t vs.toArray)(hb:IsTup s.heap b ws.toArray)(hv:vs≠[])
  (h1:ws=[]->Q (.ref t) s) (h2:ws≠[]->Q (.ref s.heap.objs.size) { s with heap:=s.heap.push { cls:=.type "tuple",data:=.seq (vs++ws).toArray } })
  (hsz:vs.length+ws.length<=sizeLine):wpAny (model prog w) A (binaryOp .Add (.ref t) (.ref b)) Q E s:=by
 obtain⟨⟨cls,dd,data,sl⟩,ho,hc,n,hd⟩:=id ht
 obtain⟨⟨cls2,dd2,data2,sl2⟩,ho2,hc2,n2,hd2⟩:=id hb
 simp only at hc hd hc2 hd2
 subst hc hd hc2 hd2
 have e:vs.toArray++ws.toArray=(vs++ws).toArray:=by simp
 by_cases hw:ws=[]
 ·exact concat_meets ⟨_,ho,rfl⟩ ⟨_,ho2,rfl⟩ noFill_tuple_add seq_tuple_add PySem.F.slot_tuple_add PySem.F.entry_tuple_add (PySem.F.args_tuple_add_2 _ _)
   (tuple_addW1 t b vs.toArray ws.toArray n n2 dd dd2 sl sl2 (by simpa using hv) (by simp[hw])) ⟨ho,ho2,h1 hw⟩
 ·refine concat_meets ⟨_,ho,rfl⟩ ⟨_,ho2,rfl⟩ noFill_tuple_add seq_tuple_add PySem.F.slot_tuple_add PySem.F.entry_tuple_add (PySem.F.args_tuple_add_2 _ _)
   (tuple_addW2 t b vs.toArray ws.toArray n n2 dd dd2 sl sl2 (by simpa using hv) (by simpa using hw) (by rw[P0,P0];exact hsz)) ⟨ho,ho2,?_⟩
  rw[e]
  exact h2 hw
noncomputable def sIx(n d:Nat):Option Int->Nat
 | none=>d
 | some v=>if v < 0 then (v+(n:Int)).toNat else min v.toNat n
theorem wu(n d:Nat)(hd:d<=n)(o:Option Int):sIx n d o<=n:=by
 cases o with
 | none=>exact hd
 | some v =>
  show (if v < 0 then (v+(n:Int)).toNat else min v.toNat n)<=n
  by_cases hv:v < 0
  ·rw[if_pos hv];omega
  ·rw[if_neg hv];exact Nat.min_le_right _ _
theorem YG(v:Int)(n d:Nat):(if v < 0 then max (v+(n:Int)) 0 else min v (n:Int))=((sIx n d (some v):Nat):Int):=by
 show (if v < 0 then max (v+(n:Int)) 0 else min v (n:Int))=(((if v < 0 then (v+(n:Int)).toNat else min v.toNat n):Nat):Int)
 by_cases hv:v < 0
 ·simp only[if_pos hv];omega
 ·simp only[if_neg hv];omega
theorem GH(lo hi:Option Int)(n:Nat):n6 lo hi 1 (n:Int)=(((sIx n 0 lo:Nat):Int),((sIx n n hi:Nat):Int)):=by
 have h1:¬((1:Int) < 0):=by omega
 unfold n6
 simp only[h1,if_false]
 refine Prod.ext ?_ ?_
 ·cases lo with
  | none=>rfl
  | some v=>exact YG v n 0
 ·cases hi with
  | none=>rfl
  | some v=>exact YG v n n
theorem HH(i j:Nat):A5 (i:Int) (j:Int) 1=j - i:=by
 unfold A5
 have h1:(1:Int) > 0:=by omega
 simp only[h1,if_true,Int.ediv_one]
 split<;>omega
theorem uY{v:Value}{o:Option Int}{Q:Option Int->Shared->Prop}(p:IsPart v o)(h:Q o s):wpAny (model prog w) A (Builtin.Slice.slicePartIndex v) Q E s:=by
 cases p with
 | none=>exact slicePart_none h
 | int i t=>exact slicePart_int h
theorem BZ{sl:Addr}{vl vu:Value}{lo hi:Option Int}{n:Nat}{Q:Int×Int×Nat->Shared->Prop}(hs:s.heap.IsSliceOf sl vl vu .none)(pl:IsPart vl lo)(pu:IsPart vu hi)
  (h:Q (((sIx n 0 lo:Nat):Int),1,sIx n n hi - sIx n 0 lo) s):wpAny (model prog w) A (y7 (.ref sl) (pure (n:Int))) Q E s:=by
 obtain⟨os,hos,hcs,hds⟩:=id hs
 unfold y7 Builtin.Slice.sliceFields
 refine wpAny_bind (wpAny_bind (wpAny_field hos hds (x:=vl) rfl (wpAny_bind (wpAny_field hos hds (x:=vu) rfl (wpAny_bind (wpAny_field hos hds (x:=.none) rfl (wpAny_pure ?_)))))))
 refine wpAny_bind (slicePart_none ?_)
 show wpAny _ _ (if ((1:Int)==0)=true then _ else _) _ _ s
 rw[if_neg (by decide)]
 refine wpAny_bind (uY pl (wpAny_bind (uY pu (wpAny_bind (wpAny_pure ?_)))))
 show wpAny _ _ (match n6 lo hi 1 (n:Int) with|(lo,hi)=>pure (lo,(1:Int),A5 lo hi 1)) _ _ s
 rw[GH lo hi n]
 show wpAny _ _ (pure (((sIx n 0 lo:Nat):Int),(1:Int),A5 ((sIx n 0 lo:Nat):Int) ((sIx n n hi:Nat):Int) 1)) _ _ s
 rw[HH]
 exact wpAny_pure h
theorem Nq(xs:Array Value)(i k:Nat):((S1 k).filterMap λ(m:Nat)=>xs[((i:Int)+(m:Int) * 1).toNat]?).toArray=((xs.toList.drop i).take k).toArray:=by
 have e:(λ(m:Nat)=>xs[((i:Int)+(m:Int) * 1).toNat]?)=λm=>xs[i+m]?:=by
  funext m
  have:((i:Int)+(m:Int) * 1).toNat=i+m:=by omega
  rw[this]
 rw[e]
 have:=pick_run xs i k
 rw[List.filterMap_map]at this
 have e2:((λx=>xs[x]?) ∘ λx=>i+x)=λm=>xs[i+m]?:=rfl
 rw[e2]at this
 rw[this]
theorem getItem_tuple_cut{t sl:Addr}{items:Array Value}{vl vu:Value}{lo hi:Option Int}{Q:Value->Shared->Prop}(ht:IsTup s.heap t items)(hs:s.heap.IsSliceOf sl vl vu .none)(pl:IsPart vl lo)(pu:IsPart vu hi)
  (hw:¬(sIx items.size 0 lo=0/\sIx items.size items.size hi=items.size))
  (h:Q (.ref s.heap.objs.size) { s with heap:=s.heap.push { cls:=.type "tuple",data:=.seq ((items.toList.drop (sIx items.size 0 lo)).take (sIx items.size items.size hi - sIx items.size 0 lo)).toArray } })
  (hsz:items.size<=sizeLine):wpAny (model prog w) A (getItem (.ref t) (.ref sl)) Q E s:=by
 have htake:sizeOk (.seq ((items.toList.drop (sIx items.size 0 lo)).take (sIx items.size items.size hi - sIx items.size 0 lo)).toArray):=by
  show ((items.toList.drop (sIx items.size 0 lo)).take (sIx items.size items.size hi - sIx items.size 0 lo)).toArray.size<=sizeLine
  rw[P0,E1,P1,W0]
  omega
 have hj:sIx items.size items.size hi<=items.size:=wu _ _ (B0 _) hi
 obtain⟨os,hos,hcs,hds⟩:=id hs
 have hTs:s.TypeIs (.ref sl) "slice":=⟨os,hos,hcs⟩
 unfold getItem
 try with_reducible refine wpAny_holding ?_
 first|refine wpAny_bind (wpAny_pure ?_)|skip
 refine wpAny_bind (wpAny_sequenceKey ht.typeIs (by decide) ?_)
 refine wpAny_bind (wpAny_callSpecial?_slot (name:=Str.ofString "__getitem__") ht.typeIs N4
   (wpAny_call_entry N4 ht.typeIs entry_tuple_getitem ?_ (args_tuple_getitem _ _)))
 show wpAny _ _ (A7 (.ref t) >>= _) _ _ s
 refine wpAny_bind (tupleItemsOf_ ht ?_)
 refine wpAny_bind (wpAny_typeOf hTs ?_)
 rw[if_pos (by decide)]
 refine wpAny_bind (BZ hs pl pu ?_)
 have hno:¬((((sIx items.size 0 lo:Nat):Int)==0&&(1:Int)==1&&(sIx items.size items.size hi - sIx items.size 0 lo)==items.size)=true):=by
  intro q
  rw[Q4,Q4]at q
  have q1:((sIx items.size 0 lo:Nat):Int)=0:=eq_of_beq q.1.1
  have q2:sIx items.size items.size hi - sIx items.size 0 lo=items.size:=eq_of_beq q.2
  exact hw ⟨by omega,by omega⟩
 show wpAny _ _ (if (((sIx items.size 0 lo:Nat):Int)==0&&(1:Int)==1&&(sIx items.size items.size hi - sIx items.size 0 lo)==items.size)=true then _ else _) _ _ s
 rw[if_neg hno,Nq]
 first
  | exact wpAny_bind (m:=N5 _) (wpAny_newObj_type (wpAny_pure ⟨_,rfl,wpAny_pure h⟩) htake)
  | exact wpAny_bind (m:=N5 _) (wpAny_newObj_type (wpAny_bind (wpAny_pure (wpAny_pure ⟨_,rfl,wpAny_pure h⟩))) htake)
  | exact wpAny_bind (wpAny_bind (m:=N5 _) (wpAny_newObj_type (wpAny_pure (wpAny_pure ⟨_,rfl,wpAny_pure h⟩)) htake))
  | exact wpAny_bind (wpAny_bind (m:=N5 _) (wpAny_newObj_type (wpAny_pure ⟨_,rfl,wpAny_pure h⟩) htake))
end
end HT
namespace L2
open PySem PySem.Spec PyProof.Rows
noncomputable abbrev TO:=St->Hp->(Option Int->Hp->Prop)->Prop
noncomputable def PO(X:Cx)(e:Option Expr)(t:TO):Prop :=
 ∀(pins:List (Addr×Obj)) (s:Shared) (σ:St) (H:Hp) (Q:Option Int->Hp->Prop),Inv X pins σ H s->t σ H Q ->
  wpAny (model X.prog X.w) X.A (evalPart e X.env) (λu s'=>∃o H',Inv X pins σ H' s'/\IsPart u o/\Q o H') X.xe s
noncomputable def ck:TO:=λ_ H Q=>Q none H
noncomputable def FC(t:TE):TO:=λσ H Q=>t σ H λx H1=>∃i,x=.int i/\Q (some i) H1
theorem lX{ns:List Int}:∀{us:List Value},Vals (ns.map V.int) us->IntsAre us ns:=by
 induction ns with
 | nil=>intro us r;rw[h8]at r;cases r;exact .nil
 | cons n ns ih =>
  intro us r
  rw[Z1]at r
  cases r with
  | cons r1 r2 =>
   obtain⟨t,e⟩:=r1
   subst e
   exact .cons n t (ih r2)
section
variable {X:Cx}{e:Expr}{te:TE}{lo hi:Option Expr}{tl th:TO}{pos p2:Pos}
theorem dY:PO X none ck:=by
 intro pins s σ H Q I h
 rw[evalPart_none]
 exact wpAny_pure ⟨none,H,I,.none,h⟩
theorem eY(h:PE X e te):PO X (some e) (FC te):=by
 intro pins s σ H Q I hw
 rw[evalPart_some]
 refine pX (h pins s σ H _ I hw) λu s1 ⟨x,H1,I1,r1,q1⟩=>?_
 obtain⟨i,rfl,q⟩:=q1
 obtain⟨t,rfl⟩:=r1
 exact ⟨some i,H1,I1,.int i t,q⟩
noncomputable def eL(X:Cx)(r:V->Option Int->Option Int->Hp->VK->Prop):Prop :=
 ∀(pins:List (Addr×Obj)) (s:Shared) (σ:St) (H:Hp) (x:V) (v vl vu:Value) (lo hi:Option Int) (sl:Addr) (Q:VK),Inv X pins σ H s->RelV x v->s.heap.IsSliceOf sl vl vu .none->IsPart vl lo->IsPart vu hi->r x lo hi H Q ->
  ∃T id,typeLookup (.type T) "__getitem__"=pure (some (.builtin id))/\s.TypeIs v T/\wpAny (model X.prog X.w) X.A (getItem v (.ref sl)) (EP X pins σ Q) X.xe s
noncomputable def bN(r:V->Option Int->Option Int->Hp->VK->Prop)(te:TE)(tl th:TO):TE:=λσ H Q=>te σ H λx H1=>tl σ H1 λl H2=>th σ H2 λu H3=>r x l u H3 Q
theorem YJ{r:V->Option Int->Option Int->Hp->VK->Prop}(hr:eL X r)(he:PE X e te)(hl:PO X lo tl)(hu:PO X hi th):PE X (.Subscript e (.Slice lo hi none p2) pos) (bN r te tl th):=by
 intro pins s σ H Q I h
 refine Subscript_ (pX (he pins s σ H _ I h) λv s1 ⟨x,H1,I1,r1,q1⟩=>?_)
 refine wpAny_Slice (pX (hl pins s1 σ H1 _ I1 q1) λvl s2 ⟨l,H2,I2,pl,q2⟩=>pX (hu pins s2 σ H2 _ I2 q2) λvu s3 ⟨u,H3,I3,pu,q3⟩=>?_)
 rw[evalPart_none]
 refine wpAny_pure ?_
 have I4:Inv X pins σ H3 { s3 with heap:=s3.heap.push { cls:=.type "slice",data:=.fields #[vl,vu,.none] } }:=I3.kept (t':=s3.toks) λb ob q=>n0 _ q
 obtain⟨T,id,hT,ht,hg⟩:=hr pins { s3 with heap:=s3.heap.push { cls:=.type "slice",data:=.fields #[vl,vu,.none] } } σ H3 x v vl vu l u s3.heap.objs.size Q I4 r1 (Heap.IsSliceOf.new ..) pl pu q3
 show wpAny (model X.prog X.w) X.A (subscriptTail e (.Slice lo hi none p2) v (.ref s3.heap.objs.size)) (EP X pins σ Q) X.xe { s3 with heap:=s3.heap.push { cls:=.type "slice",data:=.fields #[vl,vu,.none] } }
 exact tail_any (ops:=[.ref s3.heap.objs.size,v]) ht hT hg (by with_unfolding_all rfl)
noncomputable def zJ(xs:List V)(lo hi:Option Int):List V:=(xs.drop (HT.sIx xs.length 0 lo)).take (HT.sIx xs.length xs.length hi - HT.sIx xs.length 0 lo)
theorem LK(xs:List V)(lo hi:Option Int):(zJ xs lo hi).length<=xs.length:=by
 unfold zJ
 rw[E1,P1]
 omega
noncomputable def SL(K:q0):V->Option Int->Option Int->Hp->VK->Prop:=λx lo hi H Q=>∃a xs,x=.ref a/\SqT K H a xs /\
 ¬(HT.sIx xs.length 0 lo=0/\HT.sIx xs.length xs.length hi=xs.length)/\∀p,H p=none->Q (.ref p) (dX H p (.tup (zJ xs lo hi)))
theorem xu:eL X (SL X.K):=by
 intro pins s σ H x v vl vu lo hi sl Q I rx hs pl pu h
 obtain⟨a,xs,rfl,hx,hw,q⟩:=h
 cases rx
 obtain⟨its,r,ht,hz⟩:=I.tuple hx
 have hlen:its.toArray.size=xs.length:=by rw[P0];exact r.length.symm
 refine ⟨"tuple",_,N4.lookup,ht.typeIs,?_⟩
 refine HT.getItem_tuple_cut ht hs pl pu (by rw[hlen];exact hw) ?_ (by rw[hlen];exact hz)
 rw[hlen]
 refine ⟨.ref s.heap.objs.size,_,I.laid (t':=s.toks) (o:=.tup (zJ xs lo hi)) (λb ob q=>n0 _ q) (B0 _) ?_,rfl,q _ (I.hok.fresh (B0 _))⟩
 exact ⟨Z0 (LK xs lo hi) hz,_,(r.drop (HT.sIx xs.length 0 lo)).take (HT.sIx xs.length xs.length hi - HT.sIx xs.length 0 lo),IsTupD.new _ _⟩
noncomputable def GC(K:q0):R2:=λx y H Q=>∃a b xs ys,x=.ref a/\y=.ref b/\SqT K H a xs/\SqT K H b ys/\xs≠[]/\xs.length+ys.length<=sizeLine /\
 (ys=[]->Q (.ref a) H)/\(ys≠[]->∀p,H p=none->Q (.ref p) (dX H p (.tup (xs++ys))))
theorem Vals.nil_iff{xs:List V}{us:List Value}(r:Vals xs us):us=[] ↔ xs=[]:=by
 cases r with
 | nil=>simp
 | cons _ _=>simp
theorem fk:OpR X (binaryOp .Add) (GC X.K):=by
 intro pins s σ H x y v u Q I rx ry h
 obtain⟨a,b,xs,ys,rfl,rfl,ha,hb,hx,hz,q1,q2⟩:=h
 cases rx
 cases ry
 obtain⟨its,r1,p1,_⟩:=I.tuple ha
 obtain⟨its2,r2,p2,_⟩:=I.tuple hb
 refine HT.cat_tup p1 p2 (λz=>hx (r1.nil_iff.mp z)) (λz=>⟨.ref a,H,I,rfl,q1 (r2.nil_iff.mp z)⟩) (λz=>?_) (by rw[<- r1.length,<- r2.length];exact hz)
 refine ⟨.ref s.heap.objs.size,_,I.laid (t':=s.toks) (o:=.tup (xs++ys)) (λb ob q=>n0 _ q) (B0 _) ?_,rfl,q2 (λw=>z (r2.nil_iff.mpr w)) _ (I.hok.fresh (B0 _))⟩
 exact ⟨by rw[Q0];exact hz,_,r1.append r2,IsTupD.new _ _⟩
end
noncomputable def wH(n:Nat)(i:Int):Option Nat:=if 0<=i then (if i < n then some i.toNat else none) else if -(n:Int)<=i then some (i+n).toNat else none
noncomputable def TJ{α:Type}(xs:List α)(i:Int):Option α:=(wH xs.length i).bind λj=>xs[j]?
theorem ZG{n:Nat}{i:Int}{j:Nat}(h:wH n i=some j):seqIndex? i n=some j/\j < n/\-(n:Int)<=i/\i < n:=by
 unfold wH at h
 by_cases h0:0<=i
 ·rw[if_pos h0]at h
  by_cases h1:i < n
  ·rw[if_pos h1]at h
   have e:i.toNat=j:=Q1 h
   exact ⟨by rw[seqIndex_of h0 h1,e],by omega,by omega,h1⟩
  ·rw[if_neg h1]at h;cases h
 ·rw[if_neg h0]at h
  by_cases h1:-(n:Int)<=i
  ·rw[if_pos h1]at h
   have e:(i+n).toNat=j:=Q1 h
   exact ⟨by rw[seqIndex_neg (by omega) h1,e],by omega,h1,by omega⟩
  ·rw[if_neg h1]at h;cases h
theorem aF{α:Type}{xs:List α}{i:Int}{v:α}(h:TJ xs i=some v):∃j,seqIndex? i xs.length=some j/\xs[j]?=some v/\j < xs.length/\-(xs.length:Int)<=i/\i < xs.length:=by
 unfold TJ at h
 cases e:wH xs.length i with
 | none=>rw[e]at h;cases h
 | some j =>
  rw[e]at h
  obtain⟨h1,h2,h3,h4⟩:=ZG e
  exact ⟨j,h1,h,h2,h3,h4⟩
theorem YQ{α:Type}{xs:List α}{j:Nat}{v:α}(h:xs[j]?=some v):TJ xs (j:Int)=some v:=by
 have hj:j < xs.length:=(O1.mp h).1
 have e:wH xs.length (j:Int)=some j:=by
  unfold wH
  rw[if_pos (by omega),if_pos (by omega)];simp
 unfold TJ;rw[e];exact h
noncomputable def bF(b:Expr):Prop:=∀o i,subscripted b false o i=operate [o,i] (getItem o i)
noncomputable def IxR(X:Cx)(r:R2):Prop :=
 ∀(value slice:Expr) (pins:List (Addr×Obj)) (s:Shared) (σ:St) (H:Hp) (x y:V) (v u:Value) (Q:VK),Inv X pins σ H s->RelV x v->RelV y u->r x y H Q ->
  subscripted slice false v u=operate [v,u] (getItem v u)->wpAny (model X.prog X.w) X.A (subscriptTail value slice v u) (EP X pins σ Q) X.xe s
noncomputable def fL(X:Cx)(id:String)(r:V->List V->Hp->VK->Prop):Prop :=
 ∀(pins:List (Addr×Obj)) (s:Shared) (σ:St) (H:Hp) (x:V) (xs:List V) (v:Value) (us:List Value) (Q:VK),Inv X pins σ H s->RelV x v->Vals xs us->r x xs H Q ->
  wpAny (model X.prog X.w) X.A (call (.builtin id) (v :: us)) (EP X pins σ Q) X.xe s
section
variable {X:Cx}{a b:Expr}{ta tb:TE}{pos:Pos}
theorem IxR.or{r r':R2}(h:IxR X r)(h':IxR X r'):IxR X (λx y H Q=>r x y H Q\/r' x y H Q):=by
 intro value slice pins s σ H x y v u Q I rx ry q hs
 rcases q with q|q
 ·exact h value slice pins s σ H x y v u Q I rx ry q hs
 ·exact h' value slice pins s σ H x y v u Q I rx ry q hs
theorem Oq{r:R2}(hr:IxR X r)(ha:PE X a ta)(hb:PE X b tb)(hs:bF b):PE X (.Subscript a b pos) (Ax r ta tb):=by
 intro pins s σ H Q I h
 exact Subscript_ (iu ha hb I h λv u s2 x y H2 I2 rx ry q=>hr a b pins s2 σ H2 x y v u Q I2 rx ry q (hs _ _))
noncomputable def kU(K:q0):R2:=λx y H Q=>∃p xs i v,x=.ref p/\y=.int i/\SqL K H p xs/\TJ xs i=some v/\Q v H
noncomputable def lU(K:q0):R2:=λx y H Q=>∃p xs i v,x=.ref p/\y=.int i/\SqT K H p xs/\TJ xs i=some v/\Q v H
theorem gk:IxR X (kU X.K):=by
 intro value slice pins s σ H x y v u Q I rx ry h hs
 obtain⟨p,xs,i,z,rfl,rfl,hq,he,q⟩:=h
 cases rx
 obtain⟨t,rfl⟩:=ry
 obtain⟨its,r,pl,hz⟩:=I.list hq
 obtain⟨j,h1,h2,h3,h4,h5⟩:=aF he
 obtain⟨w,ew,rw'⟩:=r.get h2
 have hl:=r.length
 have hn:=nV
 have fin:EP X pins σ Q w s:=⟨z,H,I,rw',q⟩
 by_cases h0:0<=i
 ·have hj:i.toNat=j:=by
   rw[seqIndex_of h0 h5]at h1
   exact Q1 h1
  exact item_listR pl.isList h0 (by omega) (by rw[hj];simpa using ew) fin hs
 ·have hj:(i+(its.toArray.size:Int)).toNat=j:=by
   rw[seqIndex_neg (by omega) h4]at h1
   rw[P0,<- hl]
   exact Q1 h1
  exact subscriptTail_builtinR (x:=w) pl.isList.typeIs slot_list_getitem.lookup
   (wpAny_getItem_list_neg (Q:=λr s'=>r=w/\EP X pins σ Q r s') pl.isList (by omega) (by rw[P0]<;>omega) (by omega) (by rw[hj];simpa using ew) ⟨rfl,fin⟩) hs
theorem yu:IxR X (lU X.K):=by
 intro value slice pins s σ H x y v u Q I rx ry h hs
 obtain⟨p,xs,i,z,rfl,rfl,hq,he,q⟩:=h
 cases rx
 obtain⟨t,rfl⟩:=ry
 obtain⟨its,r,pl,hz⟩:=I.tuple hq
 obtain⟨j,h1,h2,h3,h4,h5⟩:=aF he
 obtain⟨w,ew,rw'⟩:=r.get h2
 have hl:=r.length
 have hn:=nV
 have fin:EP X pins σ Q w s:=⟨z,H,I,rw',q⟩
 exact subscriptTail_builtinR (x:=w) pl.typeIs slot_tuple_getitem.lookup
  (getItem_tuple (j:=j) (Q:=λr s'=>r=w/\EP X pins σ Q r s') pl (by omega) (by omega) (by rw[P0,<- hl];exact h1) (by simpa using ew) ⟨rfl,fin⟩) hs
theorem IH(its:List Value)(n j:Nat)(u:Value):K2 (·.setIfInBounds j u) { cls:=.type "list",data:=.seq its.toArray n }={ cls:=.type "list",data:=.seq (its.set j u).toArray n }:=by
 simp[K2]
theorem Inv.lst{pins:List (Addr×Obj)}{σ:St}{H:Hp}{s:Shared}{p:Addr}{xs:List V}(I:Inv X pins σ H s)(h:H p=some (.lst xs)) :
  ∃(its:List Value) (n:Nat),Vals xs its/\s.heap.get? p=some { cls:=.type "list",data:=.seq its.toArray n }/\xs.length<=sizeLine:=by
 obtain⟨z,its,n,r,e⟩:=I.hok p _ h
 exact ⟨its,n,r,e,z⟩
theorem Inv.lstUpd{pins:List (Addr×Obj)}{σ:St}{H:Hp}{s:Shared}{p:Addr}{xs ys:List V}{its its':List Value}{n n':Nat}{f:Obj->Obj}(I:Inv X pins σ H s)(h:H p=some (.lst xs))
  (ho:s.heap.get? p=some { cls:=.type "list",data:=.seq its.toArray n }) (hf:f { cls:=.type "list",data:=.seq its.toArray n }={ cls:=.type "list",data:=.seq its'.toArray n' }) (r:Vals ys its') (hz:ys.length<=sizeLine) (t:Nat) :
  Inv X pins σ (dX H p (.lst ys)) { s with heap:=s.heap.update p f,toks:=t }:=by
 have e:(s.heap.update p f).get? p=some { cls:=.type "list",data:=.seq its'.toArray n' }:=by
  rw[V2 f ho (by rw[hf]<;>rfl),hf]
 refine I.write (x:=p) (e:=p) (by rw[h];trivial) (.inl rfl) (λb u hb q=>(V5 _ _ (m4 hb)).trans q) ⟨_,e⟩ ?_
 exact ⟨hz,its',n',r,e⟩
noncomputable def cF:V->V->V->Hp->(Hp->Prop)->Prop:=λo i v H Q=>∃p xs k j,o=.ref p/\i=.int k/\H p=some (.lst xs)/\wH xs.length k=some j/\Q (dX H p (.lst (xs.set j v)))
theorem Pq:xC X cF:=by
 intro pins s σ H o i v ov iv u Q I ro ri rv h
 obtain⟨p,xs,k,j,rfl,rfl,hp,hj,q⟩:=h
 cases ro
 obtain⟨t,rfl⟩:=ri
 obtain⟨its,n,r,ho,hz⟩:=I.lst hp
 obtain⟨h1,h2,h3,h4⟩:=ZG hj
 have hl:=r.length
 have hn:=nV
 have I':Inv X pins σ (dX H p (.lst (xs.set j v))) { s with heap:=s.heap.update p (K2 (·.setIfInBounds j u)) } :=
  I.lstUpd hp ho (IH its n j u) (r.set rv j) (by rw[v4];exact hz) s.toks
 by_cases h0:0<=k
 ·have hk:k.toNat=j:=by
   rw[seqIndex_of h0 h4]at h1
   exact Q1 h1
  exact PySem.W.ki_setAt ho h0 (by omega) (by rw[P0,<- hl];exact h4) (by rw[hk];exact ⟨_,I',q⟩)
 ·have hk:(k+(its.toArray.size:Int)).toNat=j:=by
   rw[seqIndex_neg (by omega) h3]at h1
   rw[P0,<- hl]
   exact Q1 h1
  exact PySem.W.ki_setBack ho (by omega) (by rw[P0,<- hl];exact h3) (by omega) (by rw[hk];exact ⟨_,I',q⟩)
theorem pV(lo hi:Option Int)(n:Nat):(sliceBounds lo hi none n).1=((HT.sIx n 0 lo:Nat):Int)/\(sliceBounds lo hi none n).2.1=((HT.sIx n n hi:Nat):Int)/\(sliceBounds lo hi none n).2.2=1:=by
 refine ⟨?_,?_,rfl⟩
 ·cases lo with
  | none=>simp[sliceBounds,HT.sIx]
  | some i =>
   simp only[sliceBounds,HT.sIx,i9,show (1:Int) > 0 by decide,if_true]
   by_cases h:i < 0
   ·simp only[h,if_true]<;>omega
   ·simp only[h,if_false]<;>omega
 ·cases hi with
  | none=>simp[sliceBounds,HT.sIx]
  | some i =>
   simp only[sliceBounds,HT.sIx,i9,show (1:Int) > 0 by decide,if_true]
   by_cases h:i < 0
   ·simp only[h,if_true]<;>omega
   ·simp only[h,if_false]<;>omega
theorem qW(its:List Value)(lo hi:Option Int):slicePick its.toArray lo hi none=((its.drop (HT.sIx its.length 0 lo)).take (HT.sIx its.length its.length hi - HT.sIx its.length 0 lo)).toArray:=by
 obtain⟨h1,h2,h3⟩:=pV lo hi its.toArray.size
 unfold slicePick
 rw[h1,h2,h3]
 simp only[sliceRange_one,pick_run,P0]<;>rfl
noncomputable def zu(K:q0):V->Option Int->Option Int->Hp->VK->Prop:=λx lo hi H Q=>∃a xs,x=.ref a/\SqL K H a xs/\∀p,H p=none->Q (.ref p) (dX H p (.lst (zJ xs lo hi)))
theorem dF:eL X (zu X.K):=by
 intro pins s σ H x v vl vu lo hi sl Q I rx hs pl pu h
 obtain⟨a,xs,rfl,hx,q⟩:=h
 cases rx
 obtain⟨its,r,ht,hz⟩:=I.list hx
 have hlen:=r.length
 refine ⟨"list",_,slot_list_getitem.lookup,ht.isList.typeIs,?_⟩
 refine wpAny_getItem_list_slice ht.isList hs pl pu .none (by simp) ?_ (by rw[P0]<;>omega)
 rw[qW,<- hlen]
 refine ⟨.ref s.heap.objs.size,_,I.laid (t':=s.toks) (o:=.lst (zJ xs lo hi)) (λb ob q=>n0 _ q) (B0 _) ?_,rfl,q _ (I.hok.fresh (B0 _))⟩
 exact ⟨Z0 (LK xs lo hi) hz,_,0,(r.drop (HT.sIx xs.length 0 lo)).take (HT.sIx xs.length xs.length hi - HT.sIx xs.length 0 lo),L0 _ rfl⟩
theorem qV:TQ X (.builtin "len") (λxs H Q=>∃p ys,xs=[.ref p]/\(SqL X.K H p ys\/SqT X.K H p ys)/\Q (.int ys.length) H):=by
 intro pins s σ H xs us Q I r h
 obtain⟨p,ys,rfl,hq,q⟩:=h
 obtain⟨u,rfl,rx⟩:=XX r
 cases rx
 have hn:=nV
 rcases hq with hq|hq
 ·obtain⟨its,r',pl,hz⟩:=I.list hq
  have hlen:=r'.length
  exact Calls.call_len_list pl.isList (by simp only[P0]<;>omega) ⟨.int ys.length,H,I.tok _,⟨s.toks+1,by rw[P0,hlen]⟩,q⟩
 ·obtain⟨its,r',pl,hz⟩:=I.tuple hq
  have hlen:=r'.length
  exact len_tuple pl (by simp only[P0]<;>omega) ⟨.int ys.length,H,I.tok _,⟨s.toks+1,by rw[P0,hlen]⟩,q⟩
theorem rV:TQ X (.type "list") (λxs H Q=>∃p ys,xs=[.ref p]/\(SqL X.K H p ys\/SqT X.K H p ys)/\∀l,H l=none->Q (.ref l) (dX H l (.lst ys))):=by
 intro pins s σ H xs us Q I r h
 obtain⟨p,ys,rfl,hq,q⟩:=h
 obtain⟨u,rfl,rx⟩:=XX r
 cases rx
 have fin:∀(its:List Value),Vals ys its->ys.length<=sizeLine->∀(h':Heap) (c':Nat),(∀b o',s.heap.get? b=some o'->h'.get? b=some o') ->
   h'.get? s.heap.objs.size=some { cls:=.type "list",dict:=none,data:=.seq its.toArray c',slots:=#[] }->EP X pins σ Q (.ref s.heap.objs.size) { s with heap:=h' }:=λits r' hz h' c' kp e =>
  ⟨.ref s.heap.objs.size,_,I.laid (t':=s.toks) kp (B0 _) (show ObjOk X.prog X.w _ h' _ (.lst ys) from ⟨hz,its,c',r',e⟩),rfl,q _ (I.hok.fresh (B0 _))⟩
 rcases hq with hq|hq
 ·obtain⟨its,r',pl,hz⟩:=I.list hq
  have hlen:=r'.length
  obtain⟨o,ho,hc,n,hd⟩:=pl.isList
  exact call_list_seq p (.inl rfl) ho hc hd (λh' c' kp e=>fin its r' hz h' c' kp e) (by simp only[P0]<;>omega)
 ·obtain⟨its,r',pl,hz⟩:=I.tuple hq
  have hlen:=r'.length
  obtain⟨o,ho,hc,n,hd⟩:=pl
  exact call_list_seq p (.inr rfl) ho hc hd (λh' c' kp e=>fin its r' hz h' c' kp e) (by simp only[P0]<;>omega)
theorem rW:TQ X (.type "tuple") (λxs H Q=>∃p ys,xs=[.ref p]/\((SqL X.K H p ys/\∀l,H l=none->Q (.ref l) (dX H l (.tup ys)))\/(SqT X.K H p ys/\Q (.ref p) H))):=by
 intro pins s σ H xs us Q I r h
 obtain⟨p,ys,rfl,h⟩:=h
 obtain⟨u,rfl,rx⟩:=XX r
 cases rx
 rcases h with⟨hq,q⟩|⟨hq,q⟩
 ·obtain⟨its,r',pl,hz⟩:=I.list hq
  have hlen:=r'.length
  refine call_tuple_list pl.isList (λh' kp=>?_) (by simp only[P0]<;>omega)
  have I1:Inv X pins σ H { s with heap:=h' }:=I.kept (t':=s.toks) kp
  have I2:Inv X pins σ (dX H h'.objs.size (.tup ys)) { s with heap:=h'.push { cls:=.type "tuple",data:=.seq its.toArray } } :=
   I1.laid (t':=s.toks) (λb o e=>n0 _ e) (B0 _) (show ObjOk X.prog X.w _ _ _ (.tup ys) from ⟨hz,its,r',IsTupD.new _ _⟩)
  exact ⟨.ref h'.objs.size,_,I2,rfl,q _ (I1.hok.fresh (B0 _))⟩
 ·obtain⟨its,r',pl,hz⟩:=I.tuple hq
  exact call_tuple_same pl ⟨.ref p,H,I,rfl,q⟩
noncomputable def TL(K:q0)(T:String)(x:V)(H:Hp):Prop:=match x with
 | .str _=>T = "str"
 | .int _=>T = "int"
 | .ref p=>(T = "list"/\∃xs,SqL K H p xs)\/(T = "tuple"/\∃o,K.lookup p=some o/\o.cls=.type "tuple"/\o.dict=none) \/
   (T = "dict"/\((∃kvs,H p=some (.dK kvs))\/∃kvs,H p=some (.dT kvs)))\/(T = "set"/\∃S n,H p=some (.set S n))
 | _=>False
theorem Qq{pins:List (Addr×Obj)}{σ:St}{H:Hp}{s:Shared}{T:String}{x:V}{v:Value}(I:Inv X pins σ H s)(r:RelV x v)(ty:TL X.K T x H) :
  s.TypeIs v T/\∀a,v=.ref a->∃ob,s.heap.get? a=some ob/\ob.dict=none:=by
 cases x with
 | str z =>
  obtain⟨t,rfl⟩:=r
  cases (show T = "str" from ty)
  exact ⟨typeIs_str s z t,λ_ e=>nomatch e⟩
 | int i =>
  obtain⟨t,rfl⟩:=r
  cases (show T = "int" from ty)
  exact ⟨typeIs_int s i t,λ_ e=>nomatch e⟩
 | ref p =>
  cases r
  rcases ty with⟨rfl,xs,hq⟩|⟨rfl,o,hk,hc,hd⟩|⟨rfl,hk⟩|⟨rfl,S,n,hk⟩
  ·obtain⟨its,_,pl,_⟩:=I.list hq
   refine ⟨pl.isList.typeIs,λa e=>?_⟩
   cases e
   obtain⟨o,n,e,c,hd,_⟩:=pl
   exact ⟨o,e,hd⟩
  ·refine ⟨⟨o,I.kIn p o hk,hc⟩,λa e=>?_⟩
   cases e
   exact ⟨o,I.kIn _ o hk,hd⟩
  ·have z:∃o,s.heap.get? p=some o/\o.ExactDict:=by
    rcases hk with⟨kvs,hk⟩|⟨kvs,hk⟩
    ·obtain⟨_,_,_,_,o,_,_,e,ex,_⟩:=I.hok p _ hk
     exact ⟨o,e,ex⟩
    ·obtain⟨_,_,_,_,o,_,_,e,ex,_⟩:=I.hok p _ hk
     exact ⟨o,e,ex⟩
   obtain⟨o,e,ex⟩:=z
   refine ⟨⟨o,e,ex.1⟩,λa e2=>?_⟩
   cases e2
   exact ⟨o,e,ex.2.1⟩
  ·obtain⟨o,_,_,_,e,ex,_⟩:=I.hok p _ hk
   refine ⟨⟨o,e,ex.1⟩,λa e2=>?_⟩
   cases e2
   exact ⟨o,e,ex.2.1⟩
 | _=>exact False.elim ty
noncomputable def HC(K:q0)(T:String)(r:V->List V->Hp->VK->Prop)(to:TE):TE:=λσ H Q=>to σ H λx H1=>TL K T x H1/\r x [] H1 Q
noncomputable def JM(K:q0)(T:String)(r:V->List V->Hp->VK->Prop)(to:TE)(t:TA):TE:=λσ H Q=>to σ H λx H1=>TL K T x H1/\t σ H1 λxs H2=>r x xs H2 Q
variable {o e:Expr}{es:List Expr}{to:TE}{t:TA}{name:Str}{apos cpos:Pos}{T id:String}{r:V->List V->Hp->VK->Prop}
theorem Au(pa:PlainAttrs T)(slot:Slot T name id)(hty:typeOf (.builtin id)=pure (.type "method_descriptor"))(hm:fL X id r)(ho:PE X o to)
  (hbase:attributeBase o name X.env (eval o X.env)=eval o X.env:=by rfl) (hline:(apos.endLine==cpos.line)=true:=by rfl):PE X (.Call (.Attribute o name apos) [] [] cpos) (HC X.K T r to):=by
 intro pins s σ H Q I h
 refine wpAny_Call_method0_late hbase hline (pX (ho pins s σ H _ I h) λv s1 ⟨x,H1,I1,r1,ty,q1⟩=>?_)
 obtain⟨h1,h2⟩:=Qq I1 r1 ty
 exact ⟨T,id,pa,slot,hty,h1,h2,Calls.callWith_builtin rfl (PySem.evalArgs_none (hm pins s1 σ H1 x [] v [] Q I1 r1 .nil q1))⟩
theorem IC(pa:PlainAttrs T)(slot:Slot T name id)(hty:typeOf (.builtin id)=pure (.type "method_descriptor"))(hm:fL X id r)(ho:PE X o to)(ha:PA X (e :: es) t)
  (hbase:attributeBase o name X.env (eval o X.env)=eval o X.env:=by rfl)
  (hfew:((backTo cpos (starEach (e :: es) X.env)).all (λx=>!x.1)&&(backToKw cpos (keywordEach [] X.env)).all (λx=>x.1.isSome)
    && decide ((e :: es).length+([]:List Keyword).length+(if ([]:List Keyword).isEmpty then 0 else 1) < 30))=true:=by rfl)
  (hline:(apos.endLine==cpos.line)=true:=by rfl) (hs:starEach (e :: es) X.env=(false,eval e X.env) :: starEach es X.env:=by rfl) (hplain:(backTo cpos (starEach es X.env)).any (·.1)=false:=by rfl) :
  PE X (.Call (.Attribute o name apos) (e :: es) [] cpos) (JM X.K T r to t):=by
 intro pins s σ H Q I h
 refine wpAny_Call_method_late hbase hfew hline rfl (pX (ho pins s σ H _ I h) λv s1 ⟨x,H1,I1,r1,ty,q1⟩=>?_)
 obtain⟨h1,h2⟩:=Qq I1 r1 ty
 refine ⟨T,id,pa,slot,hty,h1,h2,?_⟩
 have hA:=ha cpos pins s1 σ H1 _ I1 q1
 rw[hs]at hA ⊢
 refine Calls.callWith_builtin (by show (false||(backTo cpos (starEach es X.env)).any (·.1))=false;rw[hplain]<;>rfl) (Calls.evalArgs_plain ?_)
 exact pX hA λus s2 ⟨vs,H2,I2,r2,q2⟩=>hm pins s2 σ H2 x vs v us Q I2 r1 r2 q2
end
noncomputable def JC(X:Cx)(id:String)(r:V->List V->Hp->VK->Prop):Prop :=
 ∀(pins:List (Addr×Obj)) (s:Shared) (σ:St) (H:Hp) (x:V) (xs:List V) (v:Value) (us:List Value) (Q:VK),Inv X pins σ H s->RelV x v->Vals xs us->r x xs H Q ->
  wpAny (model X.prog X.w) X.A (call (.builtin id) (v :: us)) (EP X pins σ Q) X.xe s
theorem Vals.one:∀{x:V}{us:List Value},Vals [x] us->∃u,us=[u]/\RelV x u
 | _,_,.cons r .nil=>⟨_,rfl,r⟩
theorem Vals.zero:∀{us:List Value},Vals [] us->us=[]
 | _,.nil=>rfl
theorem Vals.dropLast{xs:List V}{us:List Value}(h:Vals xs us):Vals xs.dropLast us.dropLast:=by
 induction h with
 | nil=>exact .nil
 | cons r t ih =>
  cases t with
  | nil=>exact .nil
  | cons q t'=>exact .cons r ih
theorem Vals.eraseIdx:∀{xs:List V}{us:List Value} (i:Nat),Vals xs us->Vals (xs.eraseIdx i) (us.eraseIdx i)
 | _,_,_,.nil=>.nil
 | _,_,0,.cons _ t=>t
 | _,_,i+1,.cons r t=>.cons r (Vals.eraseIdx i t)
theorem Vals.rep{xs:List V}{us:List Value}(h:Vals xs us):∀k:Nat,Vals (O0 k xs).flatten (O0 k us).flatten
 | 0=>.nil
 | k+1=>by
  rw[J3,J3,U4,U4]
  exact Vals.append h (Vals.rep h k)
theorem KH{α:Type}(l:List α):l.eraseIdx (l.length - 1)=l.dropLast:=by
 induction l with
 | nil=>rfl
 | cons a r ih =>
  cases r with
  | nil=>rfl
  | cons b r =>
   have e:(a :: b :: r).length - 1=((b :: r).length - 1)+1:=by
    have h1:(a :: b :: r).length=r.length+2:=rfl
    have h2:(b :: r).length=r.length+1:=rfl
    omega
   rw[e,e8,ih]
   all_goals rfl
theorem HW{α:Type}:∀(l:List α) (i:Nat),(l.eraseIdx i).length<=l.length
 | [],_=>B0 _
 | _ :: _,0=>j5 _
 | _ :: r,i+1=>Nat.succ_le_succ (HW r i)
theorem yK(its:List Value):∀(k:Nat) (acc:List Value),
  P6 (λx1 x2=>x1++x2) acc.toArray (O0 k its.toArray)=(acc++(O0 k its).flatten).toArray
 | 0,acc=>by simp
 | k+1,acc=>by
  have e:acc.toArray++its.toArray=(acc++its).toArray:=by simp
  have e2:(acc++its)++(O0 k its).flatten=acc++(O0 (k+1) its).flatten:=by
   rw[J3,U4,T2]
  rw[<- e2,<- yK its k (acc++its),<- e,J3,X6]
section
variable {X:Cx}{pins:List (Addr×Obj)}{σ:St}{H:Hp}{s:Shared}{l b:Addr}{xs ys zs:List V}
theorem Inv.lset{its its':List Value}{n:Nat}{f:Array Value->Array Value}{t':Nat}(I:Inv X pins σ H s)(hH:H l=some (.lst xs))
  (e:s.heap.get? l=some { cls:=.type "list",data:=.seq its.toArray n }) (hf:f its.toArray=its'.toArray) (hv:Vals ys its') (hz:ys.length<=sizeLine) :
  Inv X pins σ (dX H l (.lst ys)) { s with heap:=s.heap.update l (K2 f),toks:=t' }:=by
 have q:=PySem.IsL.update e f
 rw[hf]at q
 refine I.write (x:=l) (e:=l) (by rw[hH];exact trivial) (.inl rfl) (λb' u hb hu=>(V5 s.heap (K2 f) (m4 hb)).trans hu) ⟨_,q⟩ ?_
 exact ⟨hz,its',_,hv,q⟩
theorem Inv.lnew{its:List Value}{t':Nat}(I:Inv X pins σ H s)(hv:Vals ys its)(hz:ys.length<=sizeLine) :
  Inv X pins σ (dX H s.heap.objs.size (.lst ys)) { s with heap:=s.heap.push { cls:=.type "list",data:=.seq its.toArray },toks:=t' } :=
 I.laid (λ_ _ q=>n0 _ q) (B0 _) ⟨hz,its,0,hv,L0 _ rfl⟩
theorem Inv.fresh(I:Inv X pins σ H s):H s.heap.objs.size=none:=I.hok.fresh (B0 _)
theorem Inv.lstM(I:Inv X pins σ H s)(hH:H l=some (.lst xs)):xs.length<=sizeLine/\∃(its:List Value) (n:Nat),Vals xs its/\xs.length=its.length/\s.heap.get? l=some { cls:=.type "list",data:=.seq its.toArray n }:=by
 obtain⟨z,its,n,r,e⟩:=I.hok l _ hH
 exact ⟨z,its,n,r,r.length,e⟩
theorem mU{n:Nat}(h:n<=sizeLine):O5 n=false:=by
 unfold O5
 exact decide_eq_false (by omega)
end
section
variable {X:Cx}
noncomputable def fF:V->List V->Hp->VK->Prop:=λx vs H Q=>∃l xs y,x=.ref l/\vs=[y]/\H l=some (.lst xs)/\xs.length < sizeLine/\Q .non (dX H l (.lst (xs++[y])))
theorem vX:JC X "list.append" fF:=by
 intro pins s σ H x vs v us Q I rx rv h
 obtain⟨l,xs,y,rfl,rfl,hH,hz,q⟩:=h
 cases rx
 obtain⟨u,rfl,ru⟩:=rv.one
 obtain⟨z,its,n,r,hl,e⟩:=I.lstM hH
 refine call_meets F.slot_list_append ⟨_,e,rfl⟩ F.entry_list_append (F.args_list_append_2 _ _) (PySem.list_append l its.toArray n u (by rw[P0];omega)) ⟨e,?_⟩
 refine ⟨.non,_,I.lset (its':=its++[u]) hH e (by simp) (r.append (.cons ru .nil)) ?_,rfl,q⟩
 rw[Q0,v5]
 omega
noncomputable def gF:V->List V->Hp->VK->Prop:=λx vs H Q=>∃l b xs zs,x=.ref l/\vs=[.ref b]/\H l=some (.lst xs)/\H b=some (.lst zs)/\xs.length+zs.length<=sizeLine/\Q .non (dX H l (.lst (xs++zs)))
theorem IW:JC X "list.extend" gF:=by
 intro pins s σ H x vs v us Q I rx rv h
 obtain⟨l,b,xs,zs,rfl,rfl,hH,hB,hz,q⟩:=h
 cases rx
 obtain⟨u,rfl,ru⟩:=rv.one
 cases ru
 obtain⟨z,its,n,r,hl,e⟩:=I.lstM hH
 obtain⟨z2,its2,n2,r2,hl2,e2⟩:=I.lstM hB
 have hsz:its.toArray.size+its2.toArray.size<=sizeLine:=by rw[P0,P0];omega
 have hlong:¬(!its.toArray.isEmpty&&O5 (its.toArray.size+its2.toArray.size))=true:=by
  rw[mU hsz,o7]
  exact X0
 refine call_meets F.slot_list_extend ⟨_,e,rfl⟩ F.entry_list_extend (F.args_list_extend_2 _ _)
  (AutoSeq1.list_extend_list_list_0 l its.toArray n b its2.toArray n2 hlong (by rw[P0];omega) (by omega)) ⟨e,e2,?_⟩
 refine ⟨.non,_,I.lset (its':=its++its2) hH e (by simp) (r.append r2) ?_,rfl,q⟩
 rw[Q0]
 omega
noncomputable def KC:V->List V->Hp->VK->Prop:=λx vs H Q=>∃l xs y,x=.ref l/\vs=[]/\H l=some (.lst xs)/\xs[xs.length - 1]?=some y/\Q y (dX H l (.lst xs.dropLast))
theorem Rq:JC X "list.pop" KC:=by
 intro pins s σ H x vs v us Q I rx rv h
 obtain⟨l,xs,y,rfl,rfl,hH,hy,q⟩:=h
 cases rx
 have hus:=rv.zero
 subst hus
 obtain⟨z,its,n,r,hl,e⟩:=I.lstM hH
 obtain⟨u,hu,ru⟩:=r.get hy
 have hy':its.toArray[its.toArray.size - 1]?=some u:=by
  show its.toArray[its.length - 1]?=some u
  rw[<- B2,<- hl]
  exact hu
 refine call_meets F.slot_list_pop ⟨_,e,rfl⟩ F.entry_list_pop (F.args_list_pop_1 _) (MeetsSeq.list_pop_last l its.toArray n u hy' (by rw[P0];omega)) ⟨e,?_⟩
 refine ⟨y,_,I.lset (its':=its.dropLast) hH e ?_ r.dropLast ?_,ru,q⟩
 ·show its.toArray.eraseIdxIfInBounds (its.toArray.size - 1)=its.dropLast.toArray
  rw[P0,M6,KH]
 ·rw[List.length_dropLast]
  omega
noncomputable def Tq:V->List V->Hp->VK->Prop:=λx vs H Q=>∃l xs i k y,x=.ref l/\vs=[.int i]/\H l=some (.lst xs)/\-(2 ^ 63)<=i/\i < 2 ^ 63/\seqIndex? i xs.length=some k/\xs[k]?=some y/\Q y (dX H l (.lst (xs.eraseIdx k)))
theorem Uq:JC X "list.pop" Tq:=by
 intro pins s σ H x vs v us Q I rx rv h
 obtain⟨l,xs,i,k,y,rfl,rfl,hH,h1,h2,hk,hy,q⟩:=h
 cases rx
 obtain⟨u,rfl,ru⟩:=rv.one
 obtain⟨t,rfl⟩:=ru
 obtain⟨z,its,n,r,hl,e⟩:=I.lstM hH
 obtain⟨w,hw,rw'⟩:=r.get hy
 refine call_meets F.slot_list_pop ⟨_,e,rfl⟩ F.entry_list_pop (F.args_list_pop_2 _ _)
  (MeetsSeq.list_pop_at l its.toArray n i t k w (fitsIndex_both h1 h2) (by rw[P0,<- hl];exact hk) (by rw[<- B2];exact hw) (by rw[P0];omega)) ⟨e,?_⟩
 refine ⟨y,_,I.lset (its':=its.eraseIdx k) hH e ?_ (r.eraseIdx k) ?_,rw',q⟩
 ·show its.toArray.eraseIdxIfInBounds k=(its.eraseIdx k).toArray
  rw[M6]
 ·have:=HW xs k
  omega
noncomputable def Bu:R2:=λx y H Q=>∃l b xs zs,x=.ref l/\y=.ref b/\H l=some (.lst xs)/\H b=some (.lst zs)/\xs.length+zs.length<=sizeLine/\∀p,H p=none->Q (.ref p) (dX H p (.lst (xs++zs)))
theorem Cu:OpR X (binaryOp .Add) Bu:=by
 intro pins s σ H x y v u Q I rx ry h
 obtain⟨l,b,xs,zs,rfl,rfl,hH,hB,hz,q⟩:=h
 cases rx
 cases ry
 obtain⟨z,its,n,r,hl,e⟩:=I.lstM hH
 obtain⟨z2,its2,n2,r2,hl2,e2⟩:=I.lstM hB
 refine PySem.P.add_list e e2 ?_ (by rw[P0,P0];omega)
 have ea:its.toArray++its2.toArray=(its++its2).toArray:=by simp
 rw[ea]
 exact ⟨.ref _,_,I.lnew (t':=s.toks) (r.append r2) (by rw[Q0];omega),rfl,q _ I.fresh⟩
noncomputable def Du:R2:=λx y H Q=>∃l k xs,x=.ref l/\y=.int k/\H l=some (.lst xs)/\-(2 ^ 63)<=k/\k < 2 ^ 63/\xs.length * k.toNat<=sizeLine /\
 ∀p,H p=none->Q (.ref p) (dX H p (.lst (O0 k.toNat xs).flatten))
theorem iF{α:Type}(xs:List α)(k:Nat):(O0 k xs).flatten.length=k * xs.length:=by
 induction k with
 | zero=>simp
 | succ k ih=>rw[J3,U4,Q0,ih,i8,Nat.add_comm]
theorem Eu:OpR X (binaryOp .Mult) Du:=by
 intro pins s σ H x y v u Q I rx ry h
 obtain⟨l,k,xs,rfl,rfl,hH,h1,h2,hz,q⟩:=h
 cases rx
 obtain⟨t,rfl⟩:=ry
 obtain⟨z,its,n,r,hl,e⟩:=I.lstM hH
 have hlen:its.toArray.size * k.toNat<=sizeLine:=by rw[P0,<- hl];exact hz
 have hcap:¬its.toArray.size * k.toNat > (2 ^ 63 - 1) / 8:=by
  have:(sizeLine:Nat)<=(2 ^ 63 - 1) / 8:=by decide
  omega
 have hfit:¬(!Builtin.List.listFitsIndex k)=true:=by
  rw[fitsIndex_both h1 h2]
  exact X0
 have hlong:¬O5 (its.toArray.size * k.toNat)=true:=by
  rw[mU hlen]
  exact X0
 have hnew:P6 (λx1 x2=>x1++x2) #[] (O0 (if its.toArray.isEmpty=true then 0 else k.toNat) its.toArray)=(O0 k.toNat its).flatten.toArray:=by
  have f0:∀m:Nat,P6 (λx1 x2=>x1++x2) #[] (O0 m its.toArray)=(O0 m its).flatten.toArray:=λm=>by
   have:=yK its m []
   rw[v8]at this
   exact this
  rw[f0]
  cases its with
  | nil=>simp
  | cons a r'=>rw[if_neg (by simp)]
 refine wpAny_binaryOp_repeat_ref (T:="list") (U:="int") (by decide) ⟨_,e,rfl⟩ (λs'=>typeIs_int s' k t) noFill_list_mul F.fills_int_mul F.slot_int_rmul repeat_list F.slot_int_index.lookup
  (call_meets F.slot_int_rmul (typeIs_int s k t) F.entry_int_rmul (F.args_int_rmul_2 _ _) (int___rmul___int_list k t l its.toArray n)
    ⟨e,rfl,⟨_,e,rfl⟩,call_meets F.slot_list_mul ⟨_,e,rfl⟩ F.entry_list_mul (F.args_list_mul_2 _ _) (AutoListH.list___mul___list_int_3 l its.toArray n k t hfit hcap hlong) ⟨e,?_⟩⟩)
 rw[hnew]
 exact ⟨.ref _,_,I.lnew (t':=s.toks) (r.rep k.toNat) (by rw[iF,Y8];exact hz),rfl,q _ I.fresh⟩
end
section
variable {prog:Program}{w:World}{A:Around}{E:Value->Shared->Prop}{s:Shared}
set_option maxRecDepth 100000 in
end
section
variable {X:Cx}
end
section
variable {κ:Type}[DecidableEq κ]
noncomputable def YZ(kvs:List (κ×V))(k:κ):Option V:=(kvs.find? λkv=>decide (kv.1=k)).map (·.2)
noncomputable def JZ(kvs:List (κ×V))(k:κ)(v:V):List (κ×V) :=
 if (kvs.any λkv=>decide (kv.1=k))=true then kvs.map (λkv=>if kv.1=k then (kv.1,v) else kv) else kvs++[(k,v)]
theorem ZJ{p:κ×V}{r:List (κ×V)}{k:κ}(e:p.1=k):YZ (p :: r) k=some p.2:=by simp[YZ,V3,e]
theorem aK{p:κ×V}{r:List (κ×V)}{k:κ}(e:¬p.1=k):YZ (p :: r) k=YZ r k:=by simp[YZ,V3,e]
theorem nU(k:κ):∀kvs:List (κ×V),(kvs.any λkv=>decide (kv.1=k))=(YZ kvs k).isSome
 | []=>rfl
 | p :: r=>by
  rw[Q8]
  by_cases e:p.1=k
  ·simp only[ZJ e,decide_eq_true e,Bool.true_or,T8]
  ·rw[aK e,decide_eq_false e,Bool.false_or];exact nU k r
theorem MK(kvs:List (κ×V))(k:κ)(v:V):(JZ kvs k v).length<=kvs.length+1:=by
 unfold JZ
 split
 ·rw[p0];omega
 ·rw[Q0,V1,v6];omega
theorem RelO.isSome_eq{o:Option V}{u:Option Value}(r:RelO o u):o.isSome=u.isSome:=by
 cases o with
 | none=>cases u with
  | none=>rfl
  | some _=>exact (show False from r).elim
 | some _=>cases u with
  | none=>exact (show False from r).elim
  | some _=>rfl
theorem RelO.getD{o:Option V}{u:Option Value}{d:V}{d':Value}(r:RelO o u)(rd:RelV d d'):RelV (o.getD d) (u.getD d'):=by
 cases o with
 | none=>cases u with
  | none=>exact rd
  | some _=>exact (show False from r).elim
 | some _=>cases u with
  | none=>exact (show False from r).elim
  | some _=>exact r
theorem KV.val{kvs:List (κ×V)}{vs:List (κ×Value)}(r:KV kvs vs)(k:κ):RelO (YZ kvs k) (valueAt vs k):=by
 unfold KV at r
 induction r with
 | nil=>exact True.intro
 | @cons p q ps qs h t ih =>
  obtain⟨h1,h2⟩:=h
  by_cases e:p.1=k
  ·have e':q.1=k:=h1.symm.trans e
   have b:valueAt (q :: qs) k=some q.2:=by simp[valueAt,V3,e']
   rw[ZJ e,b];exact h2
  ·have e':¬q.1=k:=λz=>e (h1.trans z)
   have b:valueAt (q :: qs) k=valueAt qs k:=by simp[valueAt,V3,e']
   rw[aK e,b];exact ih
theorem KV.any{kvs:List (κ×V)}{vs:List (κ×Value)}(r:KV kvs vs)(k:κ):(kvs.any λkv=>decide (kv.1=k))=vs.any λkv=>decide (kv.1=k):=by
 unfold KV at r
 induction r with
 | nil=>rfl
 | cons h t ih=>rw[Q8,Q8,ih,h.1]
theorem KV.repl{kvs:List (κ×V)}{vs:List (κ×Value)}(r:KV kvs vs)(k:κ){y:V}{u:Value}(ry:RelV y u) :
  KV (kvs.map λkv=>if kv.1=k then (kv.1,y) else kv) (vs.map λkv=>if kv.1=k then (kv.1,u) else kv):=by
 unfold KV at r ⊢
 induction r with
 | nil=>exact .nil
 | @cons p q ps qs h t ih =>
  rw[Z1,Z1]
  refine .cons ?_ ih
  obtain⟨h1,h2⟩:=h
  by_cases e:p.1=k
  ·rw[if_pos e,if_pos (h1.symm.trans e)];exact ⟨h1,ry⟩
  ·rw[if_neg e,if_neg (λz=>e (h1.trans z))];exact ⟨h1,h2⟩
theorem KV.put{kvs:List (κ×V)}{vs:List (κ×Value)}(r:KV kvs vs)(k:κ){y:V}{u:Value}(ry:RelV y u):KV (JZ kvs k y) (stored vs k u):=by
 unfold JZ stored
 rw[r.any k]
 by_cases e:(vs.any λkv=>decide (kv.1=k))=true
 ·rw[if_pos e,if_pos e];exact r.repl k ry
 ·rw[if_neg e,if_neg e];exact Paired.snoc r ⟨rfl,ry⟩
theorem KV.length{kvs:List (κ×V)}{vs:List (κ×Value)}(r:KV kvs vs):kvs.length=vs.length:=Paired.length r
end
theorem oU{P:Program}{w:World}{k:HQ}{u:Value}(r:RelV (kV k) u):(OQ P w).is k u=true:=by
 cases k with
 | inl i=>obtain⟨t,e⟩:=(show ∃t,u=G6 i t from r);subst e;exact eU P w i t
 | inr x=>obtain⟨t,e⟩:=(show ∃t,u=Value.str x t from r);subst e;exact fU P w x t
theorem zK{P:Program}{w:World}:∀{ks:List HQ}{us:List Value},Vals (ks.map kV) us->ItemsAre (OQ P w) ks us
 | [],_,r=>by rw[h8]at r;cases r;exact .nil
 | k :: ks,_,r=>by
  rw[Z1]at r
  cases r with
  | cons h t=>exact .cons (oU h) (zK t)
noncomputable abbrev KT(H:Hp):List (List HQ×V)->List (List HQ×Addr×Value)->Prop:=Paired λp q=>p.1=q.1/\H q.2.1=some (.tup (p.1.map kV))/\RelV p.2 q.2.2
theorem KT.val{H:Hp}{kvs:List (List HQ×V)}{xs:List (List HQ×Addr×Value)}(r:KT H kvs xs)(k:List HQ):RelO (YZ kvs k) ((atKey xs k).map (·.2)):=by
 induction r with
 | nil=>exact True.intro
 | @cons p q ps qs h t ih =>
  obtain⟨h1,_,h2⟩:=h
  by_cases e:p.1=k
  ·have e':q.1=k:=h1.symm.trans e
   have b:atKey (q :: qs) k=some q.2:=by simp[atKey,V3,e']
   rw[ZJ e,b];exact h2
  ·have e':¬q.1=k:=λz=>e (h1.trans z)
   have b:atKey (q :: qs) k=atKey qs k:=by simp[atKey,V3,e']
   rw[aK e,b];exact ih
theorem KT.repl{H:Hp}{kvs:List (List HQ×V)}{xs:List (List HQ×Addr×Value)}(r:KT H kvs xs)(k:List HQ){y:V}{u:Value}(ry:RelV y u) :
  KT H (kvs.map λkv=>if kv.1=k then (kv.1,y) else kv) (xs.map (putAt k u)):=by
 induction r with
 | nil=>exact .nil
 | @cons p q ps qs h t ih =>
  rw[Z1,Z1]
  refine .cons ?_ ih
  obtain⟨h1,h2,h3⟩:=h
  unfold putAt
  by_cases e:p.1=k
  ·rw[if_pos e,if_pos (h1.symm.trans e)];exact ⟨h1,h2,ry⟩
  ·rw[if_neg e,if_neg (λz=>e (h1.trans z))];exact ⟨h1,h2,h3⟩
theorem KT.put{H:Hp}{kvs:List (List HQ×V)}{xs:List (List HQ×Addr×Value)}(r:KT H kvs xs)(k:List HQ){b:Addr}{y:V}{u:Value}(hb:H b=some (.tup (k.map kV)))(ry:RelV y u) :
  KT H (JZ kvs k y) (storedH xs k b u):=by
 have e:(kvs.any λkv=>decide (kv.1=k))=(atKey xs k).isSome:=by
  rw[nU,(r.val k).isSome_eq,Option.isSome_map]
 unfold JZ storedH
 rw[e]
 by_cases q:(atKey xs k).isSome=true
 ·rw[if_pos q,if_pos q];exact r.repl k ry
 ·rw[if_neg q,if_neg q];exact Paired.snoc r ⟨rfl,hb,ry⟩
theorem KT.keeps{H H':Hp}{kvs:List (List HQ×V)}{xs:List (List HQ×Addr×Value)}(r:KT H kvs xs)(ht:∀b ys,H b=some (.tup ys)->H' b=some (.tup ys)):KT H' kvs xs :=
 Paired.mapP r λ_ _ z=>⟨z.1,ht _ _ z.2.1,z.2.2⟩
section
variable {P:Program}{w:World}{H:Hp}{h:Heap}{a:Addr}
theorem Iv{u:HO}(ok:HOk P w H h)(e:Rd H a u):ObjOk P w H h a u:=e.ok ok
theorem pU{kvs:List (HQ×V)}(ok:HOk P w H h)(e:Rd H a (.dK kvs)):kvs.length<=sizeLine/\(a==sysModules)=false/\∃vs,KV kvs vs/\h.DictOf (OQ P w) a vs :=
 show ObjOk P w H h a (.dK kvs) from Iv ok e
theorem LC{kvs:List (HQ×V)}(ok:HOk P w H h)(e:H a=some (.dK kvs)):kvs.length<=sizeLine/\(a==sysModules)=false/\∃vs,KV kvs vs/\h.DictOf (OQ P w) a vs:=pU ok (.inl e)
theorem LH{ks:List HQ}(ok:HOk P w H h)(e:H a=some (.tup (ks.map kV))):(tupleKind (OQ P w)).is h ks a:=by
 obtain⟨_,its,r,o,h1,h2,n,h3,_⟩:=(show ObjOk P w H h a (.tup (ks.map kV)) from ok a _ e)
 exact ⟨o,its.toArray,n,h1,h2,h3,by simpa using zK r⟩
theorem jF{kvs:List (List HQ×V)}(ok:HOk P w H h)(e:Rd H a (.dT kvs)):kvs.length<=sizeLine/\(a==sysModules)=false /\
  ∃xs,KT H kvs xs/\h.DictOfH (tupleKind (OQ P w)) a xs:=by
 obtain⟨z,y,xs,r,o,es,ep,h1,h2,h3,h4,h5⟩:=(show ObjOk P w H h a (.dT kvs) from Iv ok e)
 refine ⟨z,y,xs,r,o,es,ep,h1,h2,h3,h4,λx hx=>?_,h5⟩
 have all:∀{l:List (List HQ×V)}{m:List (List HQ×Addr×Value)},KT H l m->∀x∈m,(tupleKind (OQ P w)).is h x.1 x.2.1:=by
  intro l m q
  induction q with
  | nil=>intro x hx;exact nomatch hx
  | @cons p q ps qs hq t ih =>
   intro x hx
   rcases K0.mp hx with e|hx
   ·subst e
    exact LH ok (by rw[<- hq.1];exact hq.2.1)
   ·exact ih x hx
 exact all r x hx
end
noncomputable def NH(H:Hp)(a:Addr)(y:V)(r:Option V):Prop :=
 (∃kvs k,Rd H a (.dK kvs)/\y=kV k/\r=YZ kvs k)\/∃kvs k b,Rd H a (.dT kvs)/\y=.ref b/\H b=some (.tup (k.map kV))/\r=YZ kvs k
section
variable {X:Cx}{pins:List (Addr×Obj)}{σ:St}{H:Hp}{s:Shared}{a:Addr}{y v:V}{u r:Value}{o:Option V}{A:Around}{E:Value->Shared->Prop}
theorem Inv.big(I:Inv X pins σ H s):sysModules < s.heap.objs.size:=by
 have h:mainGlobals < s.heap.objs.size:=(I.mod.glob.keeps I.bk).lt
 exact Z8 (by decide) h
theorem nD{Q:Value->Shared->Prop}(hu:A.units+1 < cLine)(I:Inv X pins σ H s)(g:NH H a y (some v))(ry:RelV y u)(h:∀w' s',Inv X pins σ H s'->RelV v w'->Q w' s') :
  wpAny (model X.prog X.w) A (getItem (.ref a) u) Q E s:=by
 rcases g with⟨kvs,k,e,ey,l⟩|⟨kvs,k,b,e,ey,eb,l⟩
 ·subst ey
  obtain⟨z,hd,vs,rel,dd⟩:=pU I.hok e
  obtain⟨w',hw,rw'⟩:=RelO.some_of (v:=v) (o:=valueAt vs k) (by rw[l];exact rel.val k)
  exact wpAny_getItem_of (oU ry) dd.mapOf hw (h w' _ (I.tok _) rw')
 ·subst ey
  cases (show u=B5 b from ry)
  obtain⟨z,hd,xs,rel,dd⟩:=jF I.hok e
  obtain⟨w',hw,rw'⟩:=RelO.some_of (v:=v) (o:=(atKey xs k).map (·.2)) (by rw[l];exact rel.val k)
  obtain⟨p,hp,hp2⟩:=Z4.mp hw
  refine wpAny_getItem_heap (tupleKind_room_in1 hu) (LH I.hok eb) dd hp ?_
  rw[hp2]
  exact h w' _ (I.tok _) rw'
theorem ik{h':Heap}{t':Nat}{ob:HO}(I:Inv X pins σ H s)(mu:sC (H a))(hs:W3 a s.heap h')(he:∃q,h'.get? a=some q)(new:ObjOk X.prog X.w (dX H a ob) h' a ob) :
  Inv X pins σ (dX H a ob) { s with heap:=h',toks:=t' } :=
 I.write (x:=a) (e:=a) mu (.inl rfl) (λb q hb z=>(hs.2 b hb).trans z) he new
theorem Fu{P:Program}{w:World}{H':Hp}{h':Heap}{kvs:List (HQ×V)}{vs:List (HQ×Value)}(z:kvs.length<=sizeLine)(hd:(a==sysModules)=false)(rel:KV kvs vs)(dd:h'.DictOf (OQ P w) a vs) :
  ObjOk P w H' h' a (.dK kvs):=⟨z,hd,vs,rel,dd⟩
end
section
variable {X:Cx}{pins:List (Addr×Obj)}{σ:St}{H:Hp}{s:Shared}{a:Addr}{kvs:List (HQ×V)}{k:HQ}{u:Value}{A:Around}{E:Value->Shared->Prop}
end
noncomputable def Gu(i:Expr):Prop:=∀ov iv,subscripted i false ov iv=operate [ov,iv] (getItem ov iv)
theorem jk{prog:Program}{w:World}{A:Around}{E:Value->Shared->Prop}{s:Shared}{env:Env}{value slice:Expr}{pos:Pos}{T id:String}{Q:Value->Shared->Prop}
  (hl:typeLookup (.type T) "__getitem__"=pure (some (.builtin id))) (hs:Gu slice)
  (h:wpAny (model prog w) A (eval value env) (λo s₁=>wpAny (model prog w) A (eval slice env) (λi s₂=>s₂.TypeIs o T/\wpAny (model prog w) A (getItem o i) Q E s₂) E s₁) E s) :
  wpAny (model prog w) A (eval (.Subscript value slice pos) env) Q E s:=by
 refine Subscript_ (wpAny_mono h (λo s₁ h₁=>wpAny_mono h₁ (λi s₂ h₂=>?_) λ_ _ x=>x) λ_ _ x=>x)
 obtain⟨hT,h₂⟩:=h₂
 unfold subscriptTail
 refine wpAny_bind ?_
 rw[getitemInPython_of_ne hT.not_modules]
 refine wpAny_bind (wpAny_specialOf hT hl ?_)
 have fin:wpAny (model prog w) A (subscripted slice false o i) (λr s₃=>wpAny (model prog w) A (letTemporaryGo value o r >>= λ_=>pure r) Q E s₃) E s₂:=by
  rw[hs o i]
  exact wpAny_operating (wpAny_mono h₂ (λr s₃ h₃=>wpAny_bind (wpAny_letTemporaryGo (wpAny_pure h₃))) λ_ _ x=>x)
 first
  | exact wpAny_pure (wpAny_bind fin)
  | exact wpAny_bind (wpAny_pure (wpAny_bind fin))
  | exact wpAny_bind fin
theorem qU{X:Cx}{pins:List (Addr×Obj)}{σ:St}{H:Hp}{s:Shared}{a:Addr}{y:V}{o:Option V}(I:Inv X pins σ H s)(g:NH H a y o):s.TypeIs (.ref a) "dict":=by
 rcases g with⟨kvs,k,e,_,_⟩|⟨kvs,k,b,e,_,_,_⟩
 ·obtain⟨_,_,vs,_,dd⟩:=pU I.hok e
  exact dd.typeIs
 ·obtain⟨_,_,xs,_,dd⟩:=jF I.hok e
  exact dd.typeIs
noncomputable def MC(td ty:TE):TE:=λσ H Q=>td σ H λx H1=>ty σ H1 λy H2=>∃a v,x=.ref a/\NH H2 a y (some v)/\Q v H2
section
variable {X:Cx}{o i e value:Expr}{pos pos' tpos:Pos}{td ty tv:TE}
theorem mk(hu:X.A.units+1 < cLine)(ho:PE X o td)(hi:PE X i ty)(hs:Gu i):PE X (.Subscript o i pos) (MC td ty):=by
 intro pins s σ H Q I h
 refine jk PySem.F.slot_dict_getitem.lookup hs (pX (ho pins s σ H _ I h) λu s1 ⟨x,H1,I1,rx,q1⟩=>pX (hi pins s1 σ H1 _ I1 q1) λiv s2 ⟨y,H2,I2,ry,a,v,ex,g,q2⟩=>?_)
 subst ex
 obtain rfl:u=B5 a:=rx
 exact ⟨qU I2 g,nD hu I2 g ry λw' s3 I3 rw'=>⟨v,H2,I3,rw',q2⟩⟩
end
theorem Vq{P:Program}{w:World}{H:Hp}(h:Heap)(hb:sysModules < h.objs.size):ObjOk P w H (h.push { cls:=.type "dict",data:=.dict #[] }) h.objs.size (.dK []) :=
 ⟨M4 _,beq_eq_false_iff_ne.mpr (m4 (S0 hb)),[],.nil,m9 h⟩
theorem Wq{P:Program}{w:World}{H:Hp}(h:Heap)(hb:sysModules < h.objs.size):ObjOk P w H (h.push { cls:=.type "dict",data:=.dict #[] }) h.objs.size (.dT []) :=
 ⟨M4 _,beq_eq_false_iff_ne.mpr (m4 (S0 hb)),[],.nil,_,#[],0,L0 _ rfl,⟨rfl,rfl,rfl⟩,rfl,rfl,t7⟩
noncomputable def Xq:TE:=λ_ H Q=>∀p,H p=none->Q (.ref p) (dX H p (.dT []))
section
variable {X:Cx}{pos:Pos}
theorem Yq:PE X (.Dict [] [] pos) Xq:=λpins s σ H Q I h =>
 wpAny_Dict_empty ⟨.ref s.heap.objs.size,_,I.laid (a:=s.heap.objs.size) (o:=.dT []) (t':=s.toks) (λ_ _ q=>n0 _ q) (B0 _) (Wq s.heap I.big),rfl,h _ (I.hok.fresh (B0 _))⟩
end
noncomputable def OH:List (TE×TE)->St->Hp->(List (V×V)->Hp->Prop)->Prop
 | [],_,H,Q=>Q [] H
 | (tk,tv) :: r,σ,H,Q=>tk σ H λx H1=>tv σ H1 λy H2=>OH r σ H2 λps H3=>Q ((x,y) :: ps) H3
noncomputable abbrev VV:List (V×V)->List (Value×Value)->Prop:=Paired λp q=>RelV p.1 q.1/\RelV p.2 q.2
noncomputable def gL(X:Cx)(pos:Pos)(keys:List (Option Expr))(values:List Expr)(trs:List (TE×TE)):Prop :=
 ∀(pins:List (Addr×Obj)) (s:Shared) (σ:St) (H:Hp) (Q:List (V×V)->Hp->Prop),Inv X pins σ H s->OH trs σ H Q ->
  wpAny (model X.prog X.w) X.A (evalPairs (pairTrees keys values X.env pos)) (λvs s'=>∃ps H',Inv X pins σ H' s'/\VV ps vs/\Q ps H') X.xe s
theorem qk{X:Cx}{pos:Pos}:gL X pos [] [] []:=λpins s σ H Q I h=>pairTrees_nil_walk ⟨[],H,I,.nil,h⟩
theorem sU{X:Cx}{pos:Pos}{k v:Expr}{ks:List (Option Expr)}{vs:List Expr}{tk tv:TE}{trs:List (TE×TE)}(hk:PE X k tk)(hv:PE X v tv)(hr:gL X pos ks vs trs) :
  gL X pos (some k :: ks) (v :: vs) ((tk,tv) :: trs):=λpins s σ H Q I h =>
 pairTrees_cons_walk (pX (hk pins s σ H _ I h) λu s1 ⟨x,H1,I1,rx,q1⟩=>pX (hv pins s1 σ H1 _ I1 q1) λw2 s2 ⟨y,H2,I2,ry,q2⟩ =>
   pX (hr pins s2 σ H2 _ I2 q2) λws s3 ⟨ps,H3,I3,rel,q3⟩=>⟨(x,y) :: ps,H3,I3,.cons ⟨rx,ry⟩ rel,q3⟩)
noncomputable def GJ(kvs more:List (HQ×V)):List (HQ×V):=more.foldl (λacc kv=>JZ acc kv.1 kv.2) kvs
theorem KV.merge:∀{more:List (HQ×V)}{rs:List (HQ×Value)}{kvs:List (HQ×V)}{vs:List (HQ×Value)},KV more rs->KV kvs vs->KV (GJ kvs more) (merged vs rs):=by
 intro more rs kvs vs r
 unfold KV at r
 induction r generalizing kvs vs with
 | nil=>intro q;exact q
 | @cons p q ps qs h t ih =>
  intro r0
  have e:KV (JZ kvs p.1 p.2) (stored vs q.1 q.2):=by
   have:=r0.put p.1 h.2
   rw[<- h.1];exact this
  exact ih e
theorem AJ:∀(more kvs:List (HQ×V)),(GJ kvs more).length<=kvs.length+more.length
 | [],kvs=>by show kvs.length<=kvs.length+0;omega
 | p :: r,kvs=>by
  have h1:=AJ r (JZ kvs p.1 p.2)
  have h2:=MK kvs p.1 p.2
  show (GJ (JZ kvs p.1 p.2) r).length<=_
  rw[V1];omega
theorem vY{P:Program}{w:World}:∀{kvs:List (HQ×V)}{ws:List (Value×Value)},VV (kvs.map λkv=>(kV kv.1,kv.2)) ws->∃rs,Carries (OQ P w) ws rs/\KV kvs rs
 | [],_,r=>by rw[h8]at r;cases r;exact ⟨[],True.intro,.nil⟩
 | p :: kvs,_,r=>by
  rw[Z1]at r
  cases r with
  | @cons a b as bs h t =>
   obtain⟨rs,c,q⟩:=vY (P:=P) (w:=w) t
   obtain⟨b1,b2⟩:=b
   exact ⟨(p.1,b2) :: rs,⟨oU h.1,rfl,c⟩,.cons ⟨rfl,h.2⟩ q⟩
noncomputable def Zq(trs:List (TE×TE)):TE:=λσ H Q=>∀p,H p=none->OH trs σ (dX H p (.dK [])) λps H2=>H2 p=some (.dK [])/\∃kvs:List (HQ×V),ps=kvs.map (λkv=>(kV kv.1,kv.2))/\kvs.length<=15/\Q (.ref p) (dX H2 p (.dK (GJ [] kvs)))
theorem sk{X:Cx}{pos:Pos}{keys:List (Option Expr)}{values:List Expr}{trs:List (TE×TE)}(h:gL X pos keys values trs)(hall:keys.all (·.isSome)=true)(hl:keys.length=values.length)(h0:keys≠[])
  (h15:keys.length<=15):PE X (.Dict keys values pos) (Zq trs):=by
 intro pins s σ H Q I q
 have hn:=I.hok.fresh (B0 s.heap.objs.size)
 have I1:=I.laid (a:=s.heap.objs.size) (o:=.dK []) (h':=s.heap.push { cls:=.type "dict",data:=.dict #[] }) (t':=s.toks) (λ_ _ q=>n0 _ q) (B0 _) (Vq s.heap I.big)
 refine wpAny_Dict_walk (knd:=OQ X.prog X.w) hall hl h0 h15 (pX (h pins _ σ _ _ I1 (q _ hn)) λws s2 ⟨ps,H2,I2,rel,e,kvs,ep,lk,q2⟩=>?_)
 subst ep
 obtain⟨rs,c,rk⟩:=vY (P:=X.prog) (w:=X.w) rel
 obtain⟨z,hd,vs0,r0,dd⟩:=LC I2.hok e
 cases r0
 refine ⟨rs,c,dd,λh' dd' hs=>⟨.ref s.heap.objs.size,_,?_,rfl,q2⟩⟩
 have hz:(GJ [] kvs).length<=sizeLine:=by
  have h1:=AJ kvs []
  rw[v6]at h1
  rw[sizeLine_eq];omega
 have he:∃q,h'.get? s.heap.objs.size=some q:=let ⟨q,_,_,hq,_⟩:=dd';⟨q,hq⟩
 exact ik I2 (by rw[e];exact True.intro) hs he (Fu hz hd (rk.merge .nil) dd')
structure M1(X:Cx)(o:Expr)(m:Str)(apos:Pos)(e:Expr)(cpos:Pos):Prop where
 base:attributeBase o m X.env (eval o X.env)=eval o X.env
 few:((backTo cpos (starEach [e] X.env)).all (λx=>!x.1)&&(backToKw cpos (keywordEach [] X.env)).all (λx=>x.1.isSome)
   && decide (([e]:List Expr).length+([]:List Keyword).length+(if ([]:List Keyword).isEmpty then 0 else 1) < 30))=true
 line:(apos.endLine==cpos.line)=true
 trees:backTo cpos (starEach [e] X.env)=[(false,eval e X.env)]
structure M2(X:Cx)(o:Expr)(m:Str)(apos:Pos)(e f:Expr)(cpos:Pos):Prop where
 base:attributeBase o m X.env (eval o X.env)=eval o X.env
 few:((backTo cpos (starEach [e,f] X.env)).all (λx=>!x.1)&&(backToKw cpos (keywordEach [] X.env)).all (λx=>x.1.isSome)
   && decide (([e,f]:List Expr).length+([]:List Keyword).length+(if ([]:List Keyword).isEmpty then 0 else 1) < 30))=true
 line:(apos.endLine==cpos.line)=true
 trees:backTo cpos (starEach [e,f] X.env)=[(false,eval e X.env),(false,eval f X.env)]
noncomputable def iL(H:Hp)(a:Addr):Prop:=(∃kvs,Rd H a (.dK kvs))\/∃kvs,Rd H a (.dT kvs)
theorem az{X:Cx}{pins:List (Addr×Obj)}{σ:St}{H:Hp}{s:Shared}{a:Addr}(I:Inv X pins σ H s)(d:iL H a) :
  s.TypeIs (.ref a) "dict"/\(∀b,B5 a=.ref b->∃ob,s.heap.get? b=some ob/\ob.dict=none)/\(a==sysModules)=false:=by
 rcases d with⟨kvs,e⟩|⟨kvs,e⟩
 ·obtain⟨_,hd,vs,_,dd⟩:=pU I.hok e
  refine ⟨dd.typeIs,λb q=>?_,hd⟩
  cases q
  obtain⟨ob,_,_,h1,h2,_⟩:=dd
  exact ⟨ob,h1,h2.2.1⟩
 ·obtain⟨_,hd,xs,_,dd⟩:=jF I.hok e
  refine ⟨dd.typeIs,λb q=>?_,hd⟩
  cases q
  obtain⟨ob,_,_,h1,h2,_⟩:=dd
  exact ⟨ob,h1,h2.2.1⟩
section
variable {X:Cx}{pins:List (Addr×Obj)}{σ:St}{H:Hp}{s:Shared}{a:Addr}{y d:V}{u r:Value}{o:Option V}{A:Around}{E:Value->Shared->Prop}
theorem Hu{Q:Value->Shared->Prop}(hu:A.units+1 < cLine)(I:Inv X pins σ H s)(g:NH H a y o)(ry:RelV y u)(rd:RelV d r)(h:∀w' s',Inv X pins σ H s'->RelV (o.getD d) w'->Q w' s') :
  wpAny (model X.prog X.w) A (call (.builtin "dict.get") [.ref a,u,r]) Q E s:=by
 rcases g with⟨kvs,k,e,ey,l⟩|⟨kvs,k,b,e,ey,eb,l⟩
 ·subst ey
  obtain⟨z,hd,vs,rel,dd⟩:=pU I.hok e
  refine call_meetsIn PySem.F.slot_dict_get dd.typeIs PySem.F.entry_dict_get (PySem.F.args_dict_get_3 _ _ _) (meets_dict_get_default (OQ X.prog X.w) a (oU ry) hd r) ⟨_,dd.mapOf,h _ _ (I.tok _) ?_⟩
  rw[l]
  exact (rel.val k).getD rd
 ·subst ey
  cases (show u=B5 b from ry)
  obtain⟨z,hd,xs,rel,dd⟩:=jF I.hok e
  refine call_meetsIn PySem.F.slot_dict_get dd.typeIs PySem.F.entry_dict_get (PySem.F.args_dict_get_3 _ _ _) (meetsH_dict_get_default (tupleKind (OQ X.prog X.w)) a b hd r) ⟨tupleKind_room_in1 hu,k,xs,LH I.hok eb,dd,h _ _ (I.tok _) ?_⟩
  rw[l]
  exact (rel.val k).getD rd
end
noncomputable def PH(td ty tx:TE):TE:=λσ H Q=>td σ H λx H1=>∃a,x=.ref a/\iL H1 a/\ty σ H1 λy H2=>tx σ H2 λz H3=>∃o,NH H3 a y o/\Q (o.getD z) H3
section
variable {X:Cx}{o e f:Expr}{apos cpos:Pos}{td ty tx:TE}
theorem bz(hu:X.A.units+1 < cLine)(ho:PE X o td)(he:PE X e ty)(hf:PE X f tx)(m:M2 X o "get" apos e f cpos):PE X (.Call (.Attribute o "get" apos) [e,f] [] cpos) (PH td ty tx):=by
 intro pins s σ H Q I h
 refine wpAny_Call_method m.base m.few m.line PySem.F.plainAttrs_dict PySem.F.slot_dict_get PySem.F.type_dict_get (pX (ho pins s σ H _ I h) λu s1 ⟨x,H1,I1,rx,a,ex,d,q1⟩=>?_)
 subst ex
 obtain rfl:u=B5 a:=rx
 obtain⟨t1,t2,_⟩:=az I1 d
 refine ⟨t1,t2,?_⟩
 rw[m.trees]
 refine Calls.callWith_builtin rfl (Calls.evalArgs_plain (Calls.spliced_cons (pX (he pins s1 σ H1 _ I1 q1) λiv s2 ⟨y,H2,I2,ry,q2⟩ =>
   Calls.spliced_cons (pX (hf pins s2 σ H2 _ I2 q2) λfv s3 ⟨z,H3,I3,rz,ov,g,q3⟩=>Calls.spliced_nil ?_))))
 exact Hu hu I3 g ry rz λw' s4 I4 rw'=>⟨_,H3,I4,rw',q3⟩
end
section
variable {X:Cx}{pins:List (Addr×Obj)}{σ:St}{H:Hp}{s:Shared}{a:Addr}{kvs:List (HQ×V)}{A:Around}{E:Value->Shared->Prop}
end
section
variable {X:Cx}{pins:List (Addr×Obj)}{σ:St}{H:Hp}{s:Shared}{a:Addr}{y:V}{u:Value}{A:Around}{E:Value->Shared->Prop}
end
end L2
namespace Att
open PySem PySem.W PySem.Calls PyProof.Rows
theorem UK{P:Params}{h:Heap}:∀(ns:List Int) (vs:List Value),WellAll P h vs (ns.map WData.int)->IntsAre vs ns:=by
 intro ns
 induction ns with
 | nil =>
  intro vs w
  rw[h8]at w
  cases w
  exact .nil
 | cons n ns ih =>
  intro vs w
  rw[Z1]at w
  cases w with
  | cons a b =>
   cases a
   exact .cons _ _ (ih _ b)
theorem qD{l:OpenLaw}{n:Nat}(hn:l.most=some n){P:Params}{h:Heap}{args:List WData}{vals:List Value}
  (hpre:l.row.toRowW.claim.pre args=true) (hwl:WellAll P h vals args) :
  ∃a vs ns,vals=[B5 a]/\args=[WData.list (ns.map WData.int)]/\h.get? a=some { cls:=.type "list",data:=.seq vs.toArray }/\IntsAre vs ns/\ns.length<=n:=by
 have hsh:WShape.hasAll [] args [.list .int]=true:=(pre_splitW hpre).1
 have hc:l.pre.holds [] { args:=args }=true:=(pre_splitW hpre).2
 obtain⟨d,r,rfl,h1,h2⟩:=hasAllW_cons hsh
 obtain rfl:=hasAllW_nil h2
 obtain⟨xs,rfl,h3⟩:=hasW_list h1
 obtain⟨ns,rfl⟩:=items_int h3
 have hlen:ns.length<=n:=by
  unfold OpenLaw.pre at hc
  have h4:(WTm.not (.lt (.lit (.int (n:Int))) (.len (.arg 0)))).holds [] { args:=[.list (ns.map .int)] }=true:=by
   have h4:=(holds_andW hc).1
   rw[hn]at h4
   exact h4
  have h5:=condW_of h4 (w_not (w_lt w_lit (w_len_list (w_arg rfl))))
  rw[p0]at h5
  refine V7 λq=>?_
  have q':(n:Int) < ((ns.length:Nat):Int):=by omega
  first
   | (rw[decide_eq_true q']at h5;exact absurd h5 (by decide))
   | (simp at h5;omega)
 cases hwl with
 | cons w1 w2 =>
  cases w2
  cases w1 with
  | list ho hall=>exact ⟨_,_,ns,rfl,rfl,ho,UK ns _ hall,hlen⟩
theorem rD(l:OpenLaw)(args:List WData):l.row.toRowW.claim.post args (.bool true) args=true :=
 postW_of (r:=l.row.toRowW) (X:=(true==true))
  (show WShape.has [] (.bool true) .bool=true by first|rfl|decide|simp[WShape.has,WShape.arms,WShape.armsAll])
  (show (WTm.eq .res (.lit (.bool true))).value [] { args:=args,res:=some (.bool true),after:=args }=some (.bool (true==true)) from w_eq_bool (w_res rfl) w_lit) rfl
theorem attach_call{l:OpenLaw}{n:Nat}{q:Program}{loose:List Str}{XP:(Str->Option Value)->Heap->Prop}{YP:World->Heap->Prop}{d:DefRec}
  (hn:l.most=some n) (hdf:d.params.defaults=[])
  (call:∀(w:World) (s₀ s₁:Shared) (mg mb:Str->Option Value) (fa:Addr) (o:Obj) (pm cd doc:Value) (a:Addr) (vs:List Value) (ns:List Int),
    Ground q loose [] XP w s₀ mg mb s₁.heap->YP w s₁.heap ->
    s₁.heap.get? fa=some o->o.data=.func (docDef d.name d.params d.body d.scope pm cd doc)->s₁.heap.CodeRec cd d.name->mg d.name=some (.ref fa) ->
    s₁.heap.get? a=some { cls:=.type "list",data:=.seq vs.toArray }->IntsAre vs ns->ns.length<=n->s₁.gens=#[] ->
    codeAny (model l.prog w) callerA (.call (.ref fa) ⟨[.ref a],[]⟩) (λr s'=>r=.ok (.ret (.bool true))/\OldK s₁.heap s'.heap/\s'.os=s₁.os/\AllBare s'.gens) s₁) :
  WalkO q loose XP YP l.row.toRowW d [] (λf vs=>PySem.call f vs):=by
 intro w s₀ s₁ mg mb G Y fa o pm cd doc dV kV ho hd hcd hD hmg hg args vals as hpre hlay hrd hwl hlo
 obtain rfl:dV=.none:=Dflts.none hD hdf
 obtain rfl:kV=.none:=Dflts.noKw hD
 obtain⟨a,vs,ns,rfl,rfl,hobj,hints,hlen⟩:=qD hn hpre hwl
 refine enter_call (codeAny_mono (call w s₀ s₁ mg mb fa o pm cd doc a vs ns G Y ho (fd_plain hd) hcd hmg hobj hints hlen hg) λr s' hq=>?_)
 obtain⟨rfl,h2,h3,h4⟩:=hq
 exact ⟨.inl ⟨.bool true,.bool true,[],rfl,λ_=>rfl,.bool true,rD l _,λ_=>⟨List.Pairwise.nil,λ_ hm=>(nomatch hm)⟩⟩,h2,h3,h4⟩
section
variable {prog:Program}{w:World}{A:Around}{E:Value->Shared->Prop}{s:Shared}{K:Frag}
end
end Att
namespace L2
open PySem PySem.Spec PyProof.Rows
theorem JW:∀{vs:List Value}{ns:List Int},IntsAre vs ns->Vals (ns.map V.int) vs
 | _,_,.nil=>.nil
 | _,_,.cons n t h=>.cons ⟨t,rfl⟩ (JW h)
noncomputable def Iu(H:Hp):Prop:=∀b,H b=none\/∃o xs,H b=some (.frz o (.lst xs))
theorem cz{P:Program}{w:World}{K:q0}{mg mb:Str->Option Value}{CX:Kq}{k:Nat}{fa a:Addr}{fd:FuncData}{x:Str}{sp:Sp}{s₁:Shared}{vs:List Value}{ns:List Int}
  (KX:K.In s₁.heap) (hns:s₁.heap.Ns mainGlobals mg) (hb:s₁.heap.Ns builtinsNs mb) (hbb:∀x:Str,x ≠ "__name__"->mb x=bootBuiltins x) (hlim:s₁.heap.NoLimit) (hg:s₁.gens=#[])
  (ha:s₁.heap.get? a=some { cls:=.type "list",data:=.seq vs.toArray }) (hi:IntsAre vs ns) (hl:ns.length<=sizeLine) (hr:Room k callerA)
  (F:∀base:Heap,K.In base->base.Ns mainGlobals mg->FnOk P w K mg base CX k fa fd [x] sp) (hbind:∀(s:Shared) (u:Value),BindsTo s fd ⟨[u],[]⟩ [(x,u)])
  (hsp:∀H:Hp,Iu H->SqL K H a (ns.map V.int)->sp [.ref a] H (λv _=>v=.bl true) λ_ _ _=>False)
  (hCX:∀H e s',CX [] H s₁ (λ_ _ _=>False) e s'->False) :
  codeAny (model P w) callerA (.call (.ref fa) ⟨[.ref a],[]⟩) (λr s'=>r=.ok (.ret (.bool true))/\OldK s₁.heap s'.heap/\s'.os=s₁.os/\AllBare s'.gens) s₁:=by
 have rv:=JW hi
 have lenV:=hi.length
 have core:∀H:Hp,Iu H->SqL K H a (ns.map V.int)->HOk P w H s₁.heap->(∀b,H b≠none->b=a)->(H a≠none->K.lookup a=none) ->
   codeAny (model P w) callerA (.call (.ref fa) ⟨[.ref a],[]⟩) (λr s'=>r=.ok (.ret (.bool true))/\OldK s₁.heap s'.heap/\s'.os=s₁.os/\AllBare s'.gens) s₁:=by
  intro H hO hS hok hA hK
  have base_of:∀{b:Addr}{o:Obj},s₁.heap.get? b=some o->H b=none->(mV s₁.heap H).get? b=some o:=λe n=>mq e n
  have noA:∀{b:Addr}{o:Obj}{es:Array DictEntry}{ep:Nat},s₁.heap.get? b=some o->o.data=.dict es ep->H b=none:=λ{b o es ep} e d=>by
   cases q:H b with
   | none=>rfl
   | some u =>
    have e':b=a:=hA b (by rw[q];simp)
    subst e'
    rw[ha]at e;cases e
    have d':Data.seq vs.toArray _=Data.dict es ep:=d
    cases d'
  have nsK:∀{b:Addr}{m:Str->Option Value},s₁.heap.Ns b m->(mV s₁.heap H).Ns b m:=λ{b m} ⟨o,es,ep,e,d,r⟩=>⟨o,es,ep,base_of e (noA e d),d,r⟩
  have hKb:K.In (mV s₁.heap H):=λb o e=>base_of (KX b o e) (by
    cases q:H b with
    | none=>rfl
    | some u =>
      have e':b=a:=hA b (by rw[q];simp)
      subst e'
      rw[hK (by rw[q];simp)]at e;cases e)
  have hM:Mod K mg (mV s₁.heap H):=⟨hKb,nsK hns,⟨mb,nsK hb,hbb⟩,let ⟨mc,h1,h2⟩:=hlim;⟨mc,nsK h1,h2⟩⟩
  have e0:Env0 P w K mg (mV s₁.heap H) callerA [] s₁ H:=⟨rfl,hM,λb o e=>Jx e,Nat.le_of_eq (fD _ _),trivial,λb hb=>absurd (show b∈([]:List Addr) from hb) (by simp),hok,.of_eq hg⟩
  refine codeAny_mono ((F _ hKb (nsK hns)).run callerA [] s₁ H ⟨[.ref a],[]⟩ [.ref a] [.ref a] _ _ hr e0 (hbind s₁ (.ref a)) (.cons rfl .nil) (hsp H hO hS)) λr s' h=>?_
  cases r with
  | error e=>exact (hCX H e s' h).elim
  | ok fl =>
   cases fl with
   | next=>exact False.elim h
   | brk=>exact False.elim h
   | cont=>exact False.elim h
   | ret u =>
    obtain⟨v,H',os,bare,un,hok',r',q⟩:=h
    have q':v=.bl true:=q
    subst q'
    obtain rfl:u=o9 true:=r'
    refine ⟨rfl,OldK.of_keep λb o e=>?_,os,bare⟩
    cases q:H b with
    | none=>exact un.keep b o e q (by intro z;exact absurd (show b∈([]:List Addr) from z) (by simp)) (by simp)
    | some u =>
     rcases hO b with z|⟨ob,xs,z⟩
     ·rw[q]at z;cases z
     ·have z2:=un.frzs b ob _ z
      obtain⟨e1,_⟩:=hok b _ z
      obtain⟨e2,_⟩:=hok' b _ z2
      rw[e]at e1;cases e1
      exact e2
 cases hk:K.lookup a with
 | some o =>
  have e:=KX a o hk
  rw[ha]at e
  cases e
  refine core (λ_=>none) (λ_=>.inl rfl) (.inr ⟨_,vs.toArray,_,hk,rfl,rfl,rfl,by rw[P0,lenV];exact hl,by simpa using rv⟩) (λb u z=>by have z':(none:Option HO)=some u:=z;cases z') (λb z=>absurd rfl z) λz=>absurd rfl z
 | none =>
  refine core (λb=>if b=a then some (.frz { cls:=.type "list",data:=.seq vs.toArray } (.lst (ns.map V.int))) else none) (λb=>?_) (.inl (.inr ⟨{ cls:=.type "list",data:=.seq vs.toArray },if_pos rfl⟩)) (λb u z=>?_) (λb z=>?_) λ_=>hk
  ·by_cases hb:b=a
   ·exact .inr ⟨_,_,if_pos hb⟩
   ·exact .inl (if_neg hb)
  ·by_cases hb:b=a
   ·have z':=(if_pos hb).symm.trans z
    cases z'
    subst hb
    exact ⟨ha,by rw[p0];exact hl,vs,_,rv,ha⟩
   ·have z':=(if_neg hb).symm.trans z
    cases z'
  ·by_cases hb:b=a
   ·exact hb
   ·exact absurd (if_neg hb) z
theorem walk_of{l:w8}{n k:Nat}{q:Program}{loose:List Str}{XP:(Str->Option Value)->Heap->Prop}{YP:World->Heap->Prop}{d:DefRec}{K:Params->q0}{CX:World->Kq}{sp:World->Sp}{x:Str}
  (hn:l.most=some n) (hn2:n<=sizeLine) (hdf:d.params.defaults=[]) (hr:Room k callerA)
  (hY:∀(w:World) (h:Heap),YP w h->(K w.params).In h)
  (F:∀(w:World) (mg:Str->Option Value) (fa:Addr) (h:Heap),(K w.params).In h->h.Ns mainGlobals mg->mg d.name=some (.ref fa) ->
    ∃fd:FuncData,(∀(s:Shared) (u:Value),BindsTo s fd ⟨[u],[]⟩ [(x,u)]) /\
      ∀base:Heap,(K w.params).In base->base.Ns mainGlobals mg->FnOk l.prog w (K w.params) mg base (CX w) k fa fd [x] (sp w))
  (hsp:∀(w:World) (H:Hp) (a:Addr) (ns:List Int),ns.length<=n->Iu H->SqL (K w.params) H a (ns.map V.int)->sp w [.ref a] H (λv _=>v=.bl true) λ_ _ _=>False)
  (hCX:∀(w:World) (H:Hp) (s:Shared) (e:Value) (s':Shared),CX w [] H s (λ_ _ _=>False) e s'->False) :
  PySem.W.WalkO q loose XP YP l.row.toRowW d [] (λf vs=>PySem.call f vs):=by
 refine Att.attach_call hn hdf λw s₀ s₁ mg mb fa o pm cd doc a vs ns G Y ho hd hcd hmg hobj hints hlen hg=>?_
 have KX:=hY w _ Y
 obtain⟨fd,hb,hF⟩:=F w mg fa _ KX G.T.g hmg
 exact cz KX G.T.g G.T.b G.T.builtins G.T.nolimit hg hobj hints (Z0 hlen hn2) hr hF hb (λH hO hS=>hsp w H a ns hlen hO hS) λH e s'=>hCX w H s₁ e s'
noncomputable def KZ(s:Stmt):Arguments:=match s with
 | .FunctionDef _ a _ _ _ _ _ _ _ _=>a
 | _=>{ posonlyargs:=[],args:=[],vararg:=none,kwonlyargs:=[],kw_defaults:=[],kwarg:=none,defaults:=[] }
noncomputable def TX(s:Stmt):List Stmt:=match s with
 | .FunctionDef _ _ b _ _ _ _ _ _ _=>b
 | _=>[]
noncomputable def jQ(s:Stmt):Scope:=match s with
 | .FunctionDef _ _ _ _ _ _ sc _ _ _=>sc
 | _=>{ kind:=.function,names:=[],isGenerator:=false,isCoroutine:=false }
noncomputable abbrev WZ:Kq:=λ_ _ _ _ _ _=>False
noncomputable abbrev E0:XK:=λ_ _ _=>False
theorem NC{X:Cx}:FH WZ X E0:=λ_ _ _ _ _ _ _ h=>h.elim
structure Fun(K:q0)(x qual:Str)(st:Stmt)(f:Addr)(fd:FuncData):Prop where
 ex:∃(oc:Value) (od:Option Addr) (kV doc pm:Value) (an:Option Addr) (cdv ct:Value) (osl:Array (Option Value)),
  fd=G5 x qual (KZ st) (TX st) (jQ st) .none kV doc pm an cdv ct/\K.lookup f=some ⟨oc,od,.func fd,osl⟩/\m7 K cdv qual=true
 kp:n5 K (.ref f)=true
section
variable {P:Program}{w:World}{K:q0}{mg:Str->Option Value}{base:Heap}
theorem Fun.ok{x qual:Str}{st:Stmt}{f:Addr}{fd:FuncData}{N ps:List Str}{k:Nat}{sp:Sp}(F:Fun K x qual st f fd)(S:FnScope N ps (jQ st))(len:∀vs H Q E,sp vs H Q E->vs.length=ps.length)
  (hbody:∀(cdv:Value) (A:Around) (outer:List Env) (s:Shared) (H:Hp) (vs:List V) (Q:VK) (E:XK),Room k (A.deeper (envOfC qual (jQ st) s.heap.objs.size f cdv))->sp vs H Q E ->
    ∃t,PSs (jU WZ P w K mg base N qual (jQ st) f cdv A outer s H E).nox (TX st) t/\t { nx:=λ_ H'=>Q .non H',rt:=Q } (start N vs) H):FnOk P w K mg base WZ (k+1) f fd ps sp:=by
 obtain⟨oc,od,kV,doc,pm,an,cdv,ct,osl,rfl,lk,hcd⟩:=F.ex
 refine DC lk hcd S len λA outer s H vs Q E hr hsp=>?_
 obtain⟨t,h,q⟩:=hbody cdv A outer s H vs Q E hr hsp
 exact ⟨t,h.nox,q⟩
theorem Fun.binds{x qual:Str}{st:Stmt}{f:Addr}{fd:FuncData}{ps:List Str}(F:Fun K x qual st f fd)
  (h:∀(kV doc pm:Value) (an:Option Addr) (cdv ct:Value) (us:List Value),us.length=ps.length->bindArgs (G5 x qual (KZ st) (TX st) (jQ st) .none kV doc pm an cdv ct) ⟨us,[]⟩=pure (ps.zip us)):Binds K fd ps []:=by
 obtain⟨oc,od,kV,doc,pm,an,cdv,ct,osl,rfl,lk,hcd⟩:=F.ex
 exact .all (h kV doc pm an cdv ct)
theorem Ju{x qual:Str}{st:Stmt}{f:Addr}{oc:Value}{od an:Option Addr}{osl:Array (Option Value)}{kV doc pm cdv ct:Value}(l:K.lookup f=some ⟨oc,od,.func (G5 x qual (KZ st) (TX st) (jQ st) .none kV doc pm an cdv ct),osl⟩)
  (c:m7 K cdv qual=true) (k:n5 K (.ref f)=true):Fun K x qual st f (G5 x qual (KZ st) (TX st) (jQ st) .none kV doc pm an cdv ct):=⟨⟨oc,od,kV,doc,pm,an,cdv,ct,osl,rfl,l,c⟩,k⟩
end
theorem Jv{A:Around}{k:Nat}(hr:Room k A):A.units+1 < cLine:=O2 (M8 (by decide:1<=64) _) hr.units
section
variable {X:Cx}
theorem pv(i:Nat){x:Str}{pos:Pos}(hN:X.N[i]?=some x:=by rfl)(hv:mC X.env.scope x:=by first|exact Or.inl rfl|exact Or.inr (Or.inl rfl)|exact Or.inr (Or.inr rfl))(hd:(x==("__debug__":Str))=false:=by decide)
  (hcd:(x==("__classdict__":Str))=false:=by decide):PE X (.Name x pos) (DX i):=AH hN hv hd hcd
end
theorem eX{c A B:Prop}[Decidable c](h1:c->A)(h2:¬c->B):if c then A else B:=by
 by_cases h:c
 ·rw[if_pos h]
  exact h1 h
 ·rw[if_neg h]
  exact h2 h
section
variable {κ:Type}[DecidableEq κ]
end
noncomputable def LZ(cells:List (Str×Addr)):List (Str×NameKind)->List (Str×Addr)->List (Str×Addr)
 | [],acc=>acc
 | (n,k) :: r,acc=>LZ cells r (if k==.free then (n,(cells.lookup n).getD 0) :: acc else acc)
theorem wY{env:Env}{sc:Scope}(h:∀y∈sc.names,y.2=.free->∃c,env.cells.lookup y.1=some c):closureFor sc env=pure (LZ env.cells sc.names []):=by
 have go:∀(l:List (Str×NameKind)) (acc:List (Str×Addr)),(∀y∈l,y.2=.free->∃c,env.cells.lookup y.1=some c) ->
   (forIn l acc λ(x:Str×NameKind) r=>(if (x.2==NameKind.free)=true then (do let a<-cellOf env x.1;pure (ForInStep.yield ((x.1,a) :: r))) else pure (ForInStep.yield r):Sem (ForInStep (List (Str×Addr)))))=pure (LZ env.cells l acc):=by
  intro l
  induction l with
  | nil=>intro acc _;rfl
  | cons y r ih =>
   intro acc hl
   obtain⟨n,k⟩:=y
   rw[x8]
   by_cases hk:(k==NameKind.free)=true
   ·obtain⟨c,hc⟩:=hl (n,k) G0 (by simpa using hk)
    have hc:env.cells.lookup n=some c:=hc
    simp only[hk,if_true,cellOf,hc,pure_bind,LZ,m5]
    exact ih _ λy hy=>hl y (J0 _ hy)
   ·simp only[hk,if_false,pure_bind,LZ]
    exact ih _ λy hy=>hl y (J0 _ hy)
 have e:=go sc.names [] h
 unfold closureFor
 show (forIn sc.names [] _ >>= λcs=>pure cs)=_
 rw[show (forIn sc.names ([]:List (Str×Addr)) λ(x:Str×NameKind) r=>(match x with|(name,kind)=>if (kind==NameKind.free)=true then (do let a<-cellOf env name;pure (ForInStep.yield ((name,a) :: r))) else pure (ForInStep.yield r):Sem (ForInStep (List (Str×Addr)))))=pure (LZ env.cells sc.names []) from e]
 rfl
theorem bJ{cells:List (Str×Addr)}{x:Str}{c:Addr}:∀{l:List (Str×NameKind)}{acc:List (Str×Addr)},(∀y∈l,y.2=.free->∃c,cells.lookup y.1=some c)->(LZ cells l acc).lookup x=some c ->
  acc.lookup x=some c\/cells.lookup x=some c
 | [],acc,_,h=>.inl h
 | (n,k) :: r,acc,hl,h=>by
  have ih:=bJ (l:=r) (λy hy=>hl y (J0 _ hy)) h
  rcases ih with ih|ih
  ·by_cases hk:(k==NameKind.free)=true
   ·rw[if_pos hk,X3]at ih
    obtain⟨c',hc⟩:=hl (n,k) G0 (by simpa using hk)
    have hc:cells.lookup n=some c':=hc
    cases e:x==n with
    | true =>
     rw[e]at ih
     have:x=n:=by simpa using e
     subst this
     simp only[hc,m5,Option.some.injEq]at ih
     subst ih
     exact .inr hc
    | false=>rw[e]at ih;exact .inl ih
   ·rw[if_neg hk]at ih;exact .inl ih
  ·exact .inr ih
theorem xY{cells:List (Str×Addr)}{x:Str}:∀{l:List (Str×NameKind)}{acc:List (Str×Addr)},((∃c,acc.lookup x=some c)\/l.lookup x=some .free)->∃c,(LZ cells l acc).lookup x=some c
 | [],acc,h=>by
  rcases h with h|h
  ·exact h
  ·simp at h
 | (n,k) :: r,acc,h=>by
  refine xY (l:=r) ?_
  rcases h with⟨c,h⟩|h
  ·left
   by_cases hk:(k==NameKind.free)=true
   ·rw[if_pos hk,X3]
    cases x==n with
    | true=>exact ⟨_,rfl⟩
    | false=>exact ⟨c,h⟩
   ·rw[if_neg hk];exact ⟨c,h⟩
  ·rw[X3]at h
   cases e:x==n with
   | true =>
    rw[e]at h
    have hk:k=.free:=Q1 h
    left
    subst hk
    rw[if_pos (by decide),X3,e]
    exact ⟨_,rfl⟩
   | false=>rw[e]at h;exact .inr h
theorem cJ{env:Env}{x:Str}:∀{names:List (Str×NameKind)},
  (names.map λ(n,k)=>if (k==NameKind.free&&env.scope.kind==.function&&env.kindOf n==some .cell) then (n,NameKind.cell) else (n,k)).lookup x =
   (names.lookup x).map λk=>if (k==NameKind.free&&env.scope.kind==.function&&env.kindOf x==some .cell) then .cell else k
 | []=>rfl
 | (n,k) :: r=>by
  have ih:=@cJ env x r
  rw[Z1]
  show E7 x ((if (k==NameKind.free&&env.scope.kind==.function&&env.kindOf n==some .cell)=true then (n,NameKind.cell) else (n,k)) :: _)=_
  cases hx:x==n with
  | true =>
   have e:x=n:=by simpa using hx
   subst e
   by_cases hc:(k==NameKind.free&&env.scope.kind==.function&&env.kindOf x==some .cell)=true
   ·rw[if_pos hc];simp only[X3,hx,E5];rw[if_pos hc]
   ·rw[if_neg hc];simp only[X3,hx,E5];rw[if_neg hc]
  | false =>
   by_cases hc:(k==NameKind.free&&env.scope.kind==.function&&env.kindOf n==some .cell)=true
   ·rw[if_pos hc];simp only[X3,hx];exact ih
   ·rw[if_neg hc];simp only[X3,hx];exact ih
theorem dJ(sc:Scope)(env:Env)(x:Str):(relabel sc env).names.lookup x=(sc.names.lookup x).map λk=>if (k==NameKind.free&&env.scope.kind==.function&&env.kindOf x==some .cell) then .cell else k:=cJ
theorem MZ:∀(names:List (Str×NameKind)) (n:Nat) (acc:List (Str×Addr)),cellsFrom n names acc=cellsFrom n names []++acc
 | [],_,_=>rfl
 | (x,k) :: r,n,acc=>by
  unfold cellsFrom
  split
  ·rw[MZ r (n+1) ((x,n) :: acc),MZ r (n+1) [(x,n)],T2];rfl
  ·exact MZ r n acc
theorem yY{x:Str}{c:Addr}:∀(names:List (Str×NameKind)) (n:Nat),(x,c)∈cellsFrom n names []->(x,NameKind.cell)∈names/\n<=c
 | [],_,h=>by cases h
 | (y,k) :: r,n,h=>by
  unfold cellsFrom at h
  split at h
  ·rename_i hk
   have hk:k=.cell:=by simpa using hk
   rw[MZ,V0]at h
   rcases h with h|h
   ·have:=yY r (n+1) h
    exact ⟨J0 _ this.1,by omega⟩
   ·have h:(x,c)=(y,n):=by simpa using h
    cases h
    subst hk
    exact ⟨G0,B0 _⟩
  ·have:=yY r n h
   exact ⟨J0 _ this.1,this.2⟩
theorem PX{α:Type}{x:Str}:∀{l m:List (Str×α)},(l++m).lookup x=(l.lookup x).or (m.lookup x)
 | [],_=>rfl
 | (y,v) :: l,m=>by
  rw[List.cons_append,X3,X3]
  cases x==y with
  | true=>rfl
  | false=>exact PX
theorem AK{M:Model}{A:Around}{E:Value->Shared->Prop}{s:Shared}{scope:Scope}{globals:Addr}{closure:List (Str×Addr)}{qual:Str}{env:Env}{Q:Env->Shared->Prop}
  (hQ:Q (newEnv scope s.heap.objs.size globals (cellsFrom (s.heap.objs.size+1) scope.names closure) qual none .none (some env) builtinsNs) { s with heap:=pushCells (s.heap.push { cls:=.type "dict",data:=.dict #[] }) scope.names }) :
  wpAny M A (newFunctionEnv scope globals closure [] qual none .none (some env)) Q E s:=by
 simp only[newFunctionEnv,T8,if_true]
 refine wpAny_bind (wpAny_alloc ?_)
 refine wpAny_bind (wpAny_layCells _ (λname kind cells=>by cases hkc:kind==NameKind.cell<;>simp[hkc]) _ _ _ _ ?_)
 rw[show ({ s with heap:=s.heap.push { cls:=.type "dict",data:=.dict #[] } }:Shared).heap.objs.size=s.heap.objs.size+1 from Y2 ..]
 refine wpAny_bind ?_
 rw[E8]
 exact wpAny_pure (wpAny_pure hQ)
noncomputable def OC(N:List Str)(fr:List Nat):List Str:=fr.map λi=>N.getD i Str.empty
noncomputable def oC(σ:St)(fr:List Nat):St:=fr.map λi=>(σ[i]?).getD none
noncomputable def EQ(X:Cx)(own:List Str)(fr:List Nat)(sc:Scope)(C:Addr)(s:Shared)(H:Hp)(ex:List Addr):Cx where
 prog:=X.prog
 w:=X.w
 K:=X.K
 mg:=X.mg
 base:=X.base
 A:=X.A
 N:=own++OC X.N fr
 s₀:=s
 H₀:=H
 env:=compEnvC sc (cellsFrom (C+1) sc.names (LZ X.env.cells sc.names [])) C X.env
 outer:=X.stack
 stack:=X.stack
 ex:=ex
 fn:=λx=>sc.names.lookup x==some .cell
 calm:=X.calm
 pn:=[]
 xe:=λ_ _=>False
noncomputable def Ku(own:List Str)(σ:St)(fr:List Nat):St:=own.map (λ_=>none)++oC σ fr
structure CompSc(X:Cx)(own:List Str)(fr:List Nat)(sc:Scope):Prop where
 kind:sc.kind=.function
 cells:∀y∈sc.names,y.2=.cell->sc.names.lookup y.1=some .cell
 loc:∀y∈sc.names,y.2=.local->sc.names.lookup y.1=some .local
 free:∀y∈sc.names,y.2=.free->X.env.kindOf y.1=some .cell\/X.env.kindOf y.1=some .free
 fr:∀i∈fr,∃x,X.N[i]?=some x/\sc.names.lookup x=some .free
theorem QH{X:Cx}{own:List Str}{fr:List Nat}{sc:Scope}{pins:List (Addr×Obj)}{σ:St}{H:Hp}{s:Shared}{fp:List Addr}{C D:Addr}{h1:Heap}{tk:Nat}{oD:Obj}
  (S:CompSc X own fr sc) (I:Inv X pins σ H s) (hf:∀b∈fp,TK X pins H b) (hfo:∀b∈fp,∃o,s.heap.get? b=some o) (hC:s.heap.objs.size<=C) (hD:s.heap.objs.size<=D) (hDC:D≠C) (hn:h1.Ns C λx=>([]:List (Str×Value)).reverse.lookup x)
  (hk:∀b o,s.heap.get? b=some o->h1.get? b=some o) (hcl:∀x c,(x,c)∈cellsFrom (C+1) sc.names []->h1.IsCell c none) (hap:(cellsFrom (C+1) sc.names []).Pairwise λx y=>x.2≠y.2) (hoD:h1.get? D=some oD) (hdD:∀v,oD.data≠.cell v) :
  Inv (EQ X own fr sc C s H fp) [(D,oD)] (Ku own σ fr) H { s with heap:=h1,toks:=tk }:=by
 have hfree:∀y∈sc.names,y.2=.free->∃c,X.env.cells.lookup y.1=some c:=λy hy e=>I.ok.has y.1 (S.free y hy e)
 have cl1:∀x c,(LZ X.env.cells sc.names []).lookup x=some c->X.env.cells.lookup x=some c:=λx c e=>by
  rcases bJ hfree e with z|z
  ·simp at z
  ·exact z
 have cl2:∀x c,(cellsFrom (C+1) sc.names (LZ X.env.cells sc.names [])).lookup x=some c->(x,c)∈cellsFrom (C+1) sc.names []\/X.env.cells.lookup x=some c:=λx c e=>by
  rw[MZ,PX]at e
  cases q:(cellsFrom (C+1) sc.names []).lookup x with
  | none=>rw[q]at e;exact .inr (cl1 x c e)
  | some c'=>rw[q]at e;cases e;exact .inl (PySem.mem_of_lookup q)
 have new:∀x c,(x,c)∈cellsFrom (C+1) sc.names []->C+1<=c:=λx c h=>(yY _ _ h).2
 have oldc:∀x c,X.env.cells.lookup x=some c->c < s.heap.objs.size:=λx c e=>by
  obtain⟨v,q⟩:=I.cell x c e
  exact q.lt
 have kin:∀x k,(relabel sc X.env).names.lookup x=some k->k=.cell\/k=.free->sc.names.lookup x=some .free\/sc.names.lookup x=some .cell:=λx k e hk=>by
  rw[dJ]at e
  cases q:sc.names.lookup x with
  | none=>rw[q]at e;cases e
  | some j =>
   rw[q,E5,Option.some.injEq]at e
   by_cases hj:j=.free
   ·rw[hj];exact .inl rfl
   ·have hne:(j==NameKind.free)=false:=by simpa using hj
    rw[hne,P5,P5,if_neg (by simp)]at e
    subst e
    rcases hk with z|z
    ·rw[z];exact .inr rfl
    ·exact absurd z hj
 have kout:∀x,sc.names.lookup x=some .free->((relabel sc X.env).names.lookup x=some .cell\/(relabel sc X.env).names.lookup x=some .free):=λx e=>by
  rw[dJ,e,E5]
  by_cases h:(NameKind.free==NameKind.free&&X.env.scope.kind==.function&&X.env.kindOf x==some .cell)=true
  ·rw[if_pos h];exact .inl rfl
  ·rw[if_neg h];exact .inr rfl
 have okc:∀b∈fp,b < s.heap.objs.size:=λb hb=>by obtain⟨o,e⟩:=hfo b hb;exact M0 e
 have fresh:∀{a:Addr},s.heap.objs.size<=a->H a=none:=λh=>I.hok.fresh h
 have ok:(EQ X own fr sc C s H fp).Ok:={
   mod:=I.ok.mod
   kind:=S.kind
   glob:=I.ok.glob
   blt:=I.ok.blt
   above:=hC
   inj:=λx y c h1 h2=>by
     have hC:s.heap.objs.size<=C:=hC
     rcases cl2 x c h1 with a|a<;>rcases cl2 y c h2 with b|b
     · exact name_of_addr hap a b
     · have:=new x c a;have:=oldc y c b;exact absurd (U0 (oldc y c b) (Z0 hC (J5 (new x c a)))) (G3 _)
     · exact absurd (U0 (oldc x c a) (Z0 hC (J5 (new y c b)))) (G3 _)
     · exact I.ok.inj x y c a b
   has:=λx hx=>by
     have hx:sc.names.lookup x=some .free\/sc.names.lookup x=some .cell:=by
       rcases hx with hx|hx
       · exact kin x _ hx (.inl rfl)
       · exact kin x _ hx (.inr rfl)
     show ∃c,(cellsFrom (C+1) sc.names (LZ X.env.cells sc.names [])).lookup x=some c
     rw[MZ,PX]
     rcases hx with hx|hx
     · obtain⟨c,e⟩:=xY (cells:=X.env.cells) (x:=x) (l:=sc.names) (acc:=[]) (.inr hx)
       rw[e]
       cases (cellsFrom (C+1) sc.names []).lookup x with
       | none=>exact ⟨c,rfl⟩
       | some c'=>exact ⟨c',rfl⟩
     · obtain⟨c,e⟩:=XJ (n:=C+1) hx
       rw[e]
       exact ⟨c,rfl⟩
   cab:=λx c h e=>by
     have h:sc.names.lookup x=some .cell:=by simpa [EQ]using h
     have e:(cellsFrom (C+1) sc.names (LZ X.env.cells sc.names [])).lookup x=some c:=e
     obtain⟨c',q⟩:=XJ (n:=C+1) h
     rw[MZ,PX,q]at e
     cases e
     exact Z0 hC (J5 (new x _ (PySem.mem_of_lookup q)))
   hd:=I.ok.hd
   frames:=I.ok.frames
   stk:=.inl rfl
   exf:=λb hb=>⟨S0 (U0 (okc b hb) hC),λx c e=>by
     rcases cl2 x c e with z|z
     · exact W2 (U0 (okc b hb) (Z0 hC (J5 (new x c z))))
     · exact (hf b hb).2.2.2.2.1 x c z⟩
   bs:=I.bs
   bsz:=Z0 I.ok.bsz I.sz
   noex:=λb o e hb=>by
     rcases (hf b hb).2.2.2.1 with z|z
     · exact I.ok.noex b o e z
     · exact absurd (U0 (M0 e) (Z0 I.ok.bsz z)) (G3 _)
   exfs:=λb hb hm=>by
     rcases K0.mp (I.stkSub b hm) with z|z
     · exact (hf b hb).2.1 z
     · exact (hf b hb).2.2.1 z
   funs:=I.stack
   frf:=I.stkFree }
 refine ⟨ok,rfl,I.bare,Un.kept hk,⟨_,hn,λi x v e1 e2 e3=>?_⟩,λx c e=>?_,fresh hC,λx c e=>?_,λp hp=>?_,I.hok.kept hk,?_⟩
 ·have e1:(own++OC X.N fr)[i]?=some x:=e1
  have e2:(own.map (λ_=>(none:Option V))++oC σ fr)[i]?=some (some v):=e2
  by_cases hi:i < own.length
  ·rw[P2 (by simpa using hi),R0]at e2
   cases q:own[i]? with
   | none=>rw[q]at e2;cases e2
   | some z=>rw[q]at e2;cases e2
  ·rw[T1 (by omega)]at e1
   rw[T1 (by simpa using hi),p0]at e2
   unfold OC at e1
   unfold oC at e2
   rw[R0]at e1 e2
   cases q:fr[i - own.length]? with
   | none=>rw[q]at e1;cases e1
   | some j =>
    rw[q,E5,Option.some.injEq]at e1 e2
    obtain⟨y,hy,hyf⟩:=S.fr j (A1 q)
    rw[Z2,hy,m5]at e1
    subst e1
    have e2':σ[j]?=some (some v):=by
     cases r:σ[j]? with
     | none=>rw[r]at e2;cases e2
     | some z=>rw[r,m5]at e2;rw[e2]
    have hkf:X.env.kindOf y=some .cell\/X.env.kindOf y=some .free:=S.free (y,.free) (PySem.mem_of_lookup hyf) rfl
    obtain⟨m,hm,hl⟩:=I.loc
    have vis:mC X.env.scope y:=by
     rcases hkf with z|z
     ·exact .inr (.inl z)
     ·exact .inr (.inr z)
    obtain⟨u,r,l⟩:=hl j y v hy e2' vis
    refine ⟨u,r,?_⟩
    rcases l with⟨k,_⟩|⟨k,c,hc,z⟩
    ·rcases hkf with k'|k'<;>rw[k]at k'<;>cases k'
    ·refine .inr ⟨kout y hyf,?_⟩
     obtain⟨c',hc'⟩:∃c',(LZ X.env.cells sc.names []).lookup y=some c':=xY (.inr hyf)
     have:c'=c:=Q1 ((cl1 y c' hc').symm.trans hc)
     subst this
     obtain⟨o,ho,hd⟩:=z
     refine ⟨c',?_,o,hk _ _ ho,hd⟩
     show (cellsFrom (C+1) sc.names (LZ X.env.cells sc.names [])).lookup y=some c'
     rw[MZ,PX,hc']
     cases q:(cellsFrom (C+1) sc.names []).lookup y with
     | none=>rfl
     | some c2 =>
      have:=S.cells _ (yY _ _ (PySem.mem_of_lookup q)).1 rfl
      rw[hyf]at this
      cases this
 ·rcases cl2 x c e with z|z
  ·exact ⟨_,hcl x c z⟩
  ·obtain⟨v,o,ho,hd⟩:=I.cell x c z
   exact ⟨v,o,hk _ _ ho,hd⟩
 ·rcases cl2 x c e with z|z
  ·exact fresh (Z0 hC (J5 (new x c z)))
  ·exact I.freeC x c z
 ·have e:p=(D,oD):=by
   have:p∈([]:List (Addr×Obj))++[(D,oD)]:=hp
   simpa using this
  subst e
  refine ⟨hoD,fresh hD,hDC,λhm=>?_,hdD⟩
  have hm:D∈UG X.stack:=hm
  obtain⟨_,o,ho,_⟩:=I.stack.mem hm
  exact absurd (U0 (M0 ho) hD) (G3 _)
 ·show (own.map (λ_=>(none:Option V))++oC σ fr).length=(own++OC X.N fr).length
  simp[oC,OC]
theorem dz{X:Cx}{own:List Str}{fr:List Nat}{sc:Scope}{pins:List (Addr×Obj)}{σ σ':St}{H H':Hp}{s s':Shared}{fp:List Addr}{C D:Addr}{oD:Obj}{ys:List V}{us:List Value}{n:Nat}
  (I:Inv X pins σ H s) (hf:∀b∈fp,TK X pins H b) (hC:s.heap.objs.size<=C) (hD:s.heap.objs.size<=D) (hDC:D≠C)
  (J:Inv (EQ X own fr sc C s H fp) [(D,oD)] σ' H' s') (ho:oD={ cls:=.type "list",data:=.seq us.toArray n }) (r:Vals ys us) (hz:ys.length<=sizeLine) :
  Inv X pins σ (dX H' D (.lst ys)) s'/\(∃m,s'.heap.Ns C m)/\TK X pins (dX H' D (.lst ys)) C:=by
 have pD:=J.pin (D,oD) (by simp[EQ])
 have hHD:H' D=none:=pD.2.1
 have u:Un (UG X.stack) fp H H' s.heap s'.heap:=J.base
 have lt:∀b o,s.heap.get? b=some o->b≠D:=λb o e=>S0 (U0 (M0 e) hD)
 have u2:Un (UG X.stack) fp H (dX H' D (.lst ys)) s.heap s'.heap :=
  ⟨u.keep,u.slot,λb o e n hx=>by rw[oQ (lt b o e)];exact u.free b o e n hx,u.there,λb xs e=>by rw[oQ (pQ (u.tups b xs e) hHD)];exact u.tups b xs e,
    λb o x e=>by rw[oQ (pQ (u.frzs b o x e) hHD)];exact u.frzs b o x e,λb ps e=>by
      obtain⟨more,q⟩:=u.tbls b ps e
      exact ⟨more,by rw[oQ (pQ q hHD)];exact q⟩⟩
 have hok:HOk X.prog X.w (dX H' D (.lst ys)) s'.heap:=λb o e=>by
  by_cases hb:b=D
  ·subst hb
   rw[JQ]at e
   cases e
   exact ⟨hz,us,n,r,by rw[<- ho];exact pD.1⟩
  ·rw[oQ hb]at e
   exact (J.hok b o e).stay (λ_ _ _ q=>q) (λc q=>by rw[oQ (pQ q hHD)];exact q) λc xs q=>by rw[oQ (pQ q hHD)];exact q
 refine ⟨I.call' (ch:=fp) J.os u2 hok J.bare λb hb=>?_,?_,?_⟩
 ·obtain⟨f0,f1,f2,f3,f4,f5⟩:=hf b hb
  exact ⟨f3,f1,f4,f5⟩
 ·obtain⟨m,hm,_⟩:=J.loc
  exact ⟨m,hm⟩
 ·have hfree:H' C=none:=J.free
  refine ⟨by rw[oQ (m4 hDC)];exact hfree,?_⟩
  exact (I.fpOk hC (I.hok.fresh hC)).2
theorem eJ{prog:Program}{w:World}{A:Around}{R:Result->Shared->Prop}{s:Shared}{elt target iter:Expr}{ifs:List Expr}{scope:Scope}{pos:Pos}{it acc:Value}{env:Env}(I:Nat->Shared->Prop)
  (turn:∀n s,I n s->wpAny (model prog w) A (pyNext it) (λr s₁=>match r with
    | none=>R (.ok .next) s₁
    | some v=>wpAny (model prog w) A (letOwnedTupleGo target it v) (λ_ s₁'=>wpAny (model prog w) A (assign target env v) (λ_ s₂ =>
        wpAny (model prog w) A (forIn ifs true λc r=>if r=true then do let ok<-isTrue c env (eval c env);pure (ForInStep.yield ok) else pure (ForInStep.yield r)) (λok s₃ =>
          if ok=true then wpAny (model prog w) A (eval elt env) (λx s₄ =>
            wpAny (model prog w) A (call (.builtin "list.append") [acc,x]) (λ_ s₅=>∃m,m < n/\I m s₅) (λ_ _=>False) s₄) (λ_ _=>False) s₃
          else ∃m,m < n/\I m s₃) (λ_ _=>False) s₂) (λ_ _=>False) s₁') (λ_ _=>False) s₁) (λ_ _=>False) s)
  (n:Nat) (h:I n s) :
  codeAny (model prog w) A (.compLoop (.ListComp elt [⟨target,iter,ifs,0⟩] scope pos) 0 it acc env) R s:=by
 refine codeAny_loop rfl I (λn s hI=>?_) n h
 show wpAny _ A ((compTurn (.ListComp elt [⟨target,iter,ifs,0⟩] scope pos) 0 it acc env).onRaise (λx=>do noteFrame x env;theTreesLotGoes x)) _ _ s
 refine wpAny_noted ?_
 rw[compTurn_list]
 refine wpAny_bind (wpAny_standAt (wpAny_bind (wpAny_mono (turn n s hI) (λr s₁ h₁=>?_) λ_ _ h'=>h'.elim)))
 cases r with
 | none=>exact wpAny_pure h₁
 | some v =>
  refine wpAny_bind (wpAny_mono h₁ (λ_ s₁' h₁'=>?_) λ_ _ h'=>h'.elim)
  refine wpAny_bind (wpAny_mono h₁' (λ_ s₂ h₂=>wpAny_bind (wpAny_mono h₂ (λok s₃ h₃=>?_) λ_ _ h'=>h'.elim)) λ_ _ h'=>h'.elim)
  cases ok with
  | false=>exact wpAny_pure ⟨rfl,h₃⟩
  | true =>
   exact wpAny_bind (wpAny_bind (wpAny_mono h₃ (λx s₄ h₄=>wpAny_bind (wpAny_mono h₄ (λ_ s₅ h₅=>wpAny_pure (wpAny_pure ⟨rfl,h₅⟩)) λ_ _ h'=>h'.elim)) λ_ _ h'=>h'.elim))
noncomputable def gz(X:Cx)(ifs:List Expr)(t:TT):Prop :=
 ∀(pins:List (Addr×Obj)) (s:Shared) (σ:St) (H:Hp) (Q:Bool->Hp->Prop),Inv X pins σ H s->t σ H Q ->
  wpAny (model X.prog X.w) X.A (forIn ifs true λc r=>if r=true then do let ok<-isTrue c X.env (eval c X.env);pure (ForInStep.yield ok) else pure (ForInStep.yield r)) (TP X pins σ Q) X.xe s
noncomputable def PC:TT:=λ_ H Q=>Q true H
theorem Lu{X:Cx}:gz X [] PC:=λ_ _ _ H _ I h=>wpAny_tests_nil ⟨H,I,h⟩
theorem Mu{X:Cx}{c:Expr}{t:TT}(h:PT X c t):gz X [c] t:=λpins s σ H Q I hw=>wpAny_tests_one (h pins s σ H Q I hw)
noncomputable def Kv(wi:TI)(own:List Str)(fr:List Nat)(g:TG)(tc:TT)(te:TE):TE:=λσ H Q=>wi σ H λJ H1=>∃W:Nat->Nat->List V->St->Hp->Prop,(∃m,W 0 m [] (Ku own σ fr) H1)/\∀i m ys τ H,W i m ys τ H ->
 (J.stop i H/\∀D,H D=none->Q (.ref D) (dX H D (.lst ys))) \/
 (J.go i H/\ys.length < sizeLine/\∃N:List V->St->Hp->Prop,(∀ys' τ' H',N ys' τ' H'->∃m',m' < m/\W (i+1) m' ys' τ' H')/\∀x H',J.yld i H x H'->g x τ H' λτ2 H2 =>
   tc τ2 H2 λb H3=>if b=true then te τ2 H3 λy H4=>N (ys++[y]) τ2 H4 else N ys τ2 H3)
theorem sD{X:Cx}{D:Addr}{us:List Value}{k:Nat}{pl:List (Addr×Obj)}{σ:St}{H:Hp}{s:Shared}{u:Value}{Q:Value->Shared->Prop}{E:Value->Shared->Prop}
  (I:Inv X ([(D,{ cls:=.type "list",data:=.seq us.toArray k })]++pl) σ H s) (h1:X.s₀.heap.objs.size<=D) (h2:∀x c,X.env.cells.lookup x=some c->c≠D) (h3:∀p∈X.pn++pl,p.1≠D) (hz:us.length < sizeLine)
  (h:∀k' s',Inv X ([(D,{ cls:=.type "list",data:=.seq (us++[u]).toArray k' })]++pl) σ H s'->Q .none s'):wpAny (model X.prog X.w) X.A (call (.builtin "list.append") [.ref D,u]) Q E s:=by
 obtain⟨e,hn,hL,hF,_⟩:=I.pin (D,{ cls:=.type "list",data:=.seq us.toArray k }) (N1 _ (L5 _ (Y0.mpr rfl)))
 dsimp only at e hn hL hF
 have I0:Inv X pl σ H s:=I.pins_of λp hp=>I.pin p (N1 _ (N1 _ hp))
 refine call_meets F.slot_list_append ⟨_,e,rfl⟩ F.entry_list_append (F.args_list_append_2 _ _) (PySem.list_append D us.toArray k u (by rw[P0];omega)) ⟨e,?_⟩
 have q:=PySem.IsL.update e λxs=>xs.push u
 rw[show us.toArray.push u=(us++[u]).toArray by simp]at q
 have I1:Inv X pl σ H { s with heap:=s.heap.update D (K2 λxs=>xs.push u),toks:=s.toks } :=
  I0.turned (it:=D) (λb o hb ho=>(V5 s.heap (K2 λxs=>xs.push u) (m4 hb)).trans ho) hn hL (.inr h1) h2 h3
 obtain⟨k',q⟩:∃k',(s.heap.update D (K2 λxs=>xs.push u)).get? D=some { cls:=.type "list",data:=.seq (us++[u]).toArray k' }:=⟨_,q⟩
 refine h k' _ (I1.pins_of (pins':=[(D,{ cls:=.type "list",data:=.seq (us++[u]).toArray k' })]++pl) λp hp=>?_)
 rcases V0.mp hp with z|z
 ·have z:p=_:=Y0.mp z
  subst z
  exact ⟨q,hn,hL,hF,λv z=>by cases z⟩
 ·exact I1.pin p (N1 _ z)
theorem zY{X:Cx}{tg iter elt:Expr}{ifs:List Expr}{sc:Scope}{pos:Pos}{own:List Str}{fr:List Nat}{g:TG}{tc:TT}{te:TE}{pins:List (Addr×Obj)}{σ:St}{H2:Hp}{s2:Shared}{it:Addr}{fp:List Addr}{tn:Nat->Heap->Prop}{J:It}{Q:VK}{E:Value->Shared->Prop}
  {RR:Value->Addr->Result->Shared->Prop}
  (hc:X.calm=true) (S:CompSc X own fr sc) (I2:Inv X pins σ H2 s2) (T:Turn X.prog X.w X.K tg J fp it tn) (st2:tn 0 s2.heap) (f2:∀b∈fp,TK X pins H2 b)
  (hg:∀C ex,PG (EQ X own fr sc C s2 H2 ex) tg g) (hif:∀C ex,gz (EQ X own fr sc C s2 H2 ex) ifs tc) (he:∀C ex,PE (EQ X own fr sc C s2 H2 ex) elt te)
  (W:Nat->Nat->List V->St->Hp->Prop) (m0:Nat) (w0:W 0 m0 [] (Ku own σ fr) H2)
  (turn:∀i m ys τ H,W i m ys τ H->(J.stop i H/\∀D,H D=none->Q (.ref D) (dX H D (.lst ys))) \/
    (J.go i H/\ys.length < sizeLine/\∃N:List V->St->Hp->Prop,(∀ys' τ' H',N ys' τ' H'->∃m',m' < m/\W (i+1) m' ys' τ' H')/\∀x H',J.yld i H x H'->g x τ H' λτ2 H2 =>
      tc τ2 H2 λb H3=>if b=true then te τ2 H3 λy H4=>N (ys++[y]) τ2 H4 else N ys τ2 H3))
  (hRR:∀D C H s',Inv X pins σ H s'->Q (.ref D) H->(∃m,s'.heap.Ns C m)->TK X pins H C->RR (.ref D) C (.ok .next) s') :
  wpAny (model X.prog X.w) X.A (newList []) (λacc s₃=>wpAny (model X.prog X.w) X.A (newFunctionEnv sc X.env.globals (LZ X.env.cells sc.names []) [] X.env.qual none .none (some X.env)) (λcenv s₄ =>
    codeAny (model X.prog X.w) X.A (.compStart (.ListComp elt [⟨tg,iter,ifs,0⟩] sc pos) 0 (.ref it) acc { cenv with scope:=relabel sc X.env }) (RR acc cenv.locals) s₄) E s₃) E s2:=by
 refine wpAny_newObj_type (AK ?_)
 dsimp only
 generalize hH2:s2.heap.push { cls:=.type "list",dict:=none,data:=.seq ([]:List Value).toArray }=G
 generalize hh1:pushCells (G.push { cls:=.type "dict",data:=.dict #[] }) sc.names=h₁
 have kp:∀b o,(G.push { cls:=.type "dict",data:=.dict #[] }).get? b=some o->h₁.get? b=some o:=λb o e=>hh1 ▸ pushCells_keeps _ _ b o e
 have hns₁:h₁.Ns G.objs.size λx=>([]:List (Str×Value)).reverse.lookup x:=(Heap.Ns.new G (.type "dict")).keeps kp
 have cok:CellsOk h₁ (G.objs.size+1) (cellsFrom (G.objs.size+1) sc.names []):=by
  have:=cellsFrom_ok sc.names (G.push { cls:=.type "dict",data:=.dict #[] }) (G.objs.size+1) [] ⟨λ_ _ hm=>(nomatch hm),List.Pairwise.nil⟩ (by rw[Y2];exact B0 _)
  rw[Y2,hh1]at this
  exact this
 have hC:G.objs.size=s2.heap.objs.size+1:=by rw[<- hH2,Y2]
 have hCle:s2.heap.objs.size<=G.objs.size:=by rw[hC];exact j5 _
 have hDC:s2.heap.objs.size≠G.objs.size:=by rw[hC];exact S0 (S4 _)
 have old:∀b o,s2.heap.get? b=some o->h₁.get? b=some o:=λb o e=>kp b o (n0 _ (hH2 ▸ n0 _ e))
 have hacc:h₁.get? s2.heap.objs.size=some { cls:=.type "list",data:=.seq ([]:List Value).toArray }:=kp _ _ (n0 _ (hH2 ▸ L0 _ rfl))
 have st0':tn 0 h₁:=T.keep _ _ _ st2 λb hb o e=>old b o e
 have fo:∀b∈fp,∃o,s2.heap.get? b=some o:=λb hb=>let ⟨o,e,_⟩:=T.obj _ _ st2 b hb;⟨o,e⟩
 have flt:∀b∈fp,b < s2.heap.objs.size:=λb hb=>by obtain⟨o,e⟩:=fo b hb;exact M0 e
 have clb:∀x c,(LZ X.env.cells sc.names []).lookup x=some c->X.env.cells.lookup x=some c:=λx c e=>by
  rcases bJ (λy hy e=>I2.ok.has y.1 (S.free y hy e)) e with z|z
  ·simp at z
  ·exact z
 have clb2:∀(C':Addr) x c,(cellsFrom (C'+1) sc.names (LZ X.env.cells sc.names [])).lookup x=some c->C'+1<=c\/X.env.cells.lookup x=some c:=λC' x c e=>by
  rw[MZ,PX]at e
  cases q:(cellsFrom (C'+1) sc.names []).lookup x with
  | none=>rw[q]at e;exact .inr (clb x c e)
  | some c'=>rw[q]at e;cases e;exact .inl (yY _ _ (PySem.mem_of_lookup q)).2
 have stt:∀C':Addr,s2.heap.objs.size<=C'->∀{H':Hp}{pl:List (Addr×Obj)},(∀b∈fp,H' b=none)->(∀p∈pl,s2.heap.objs.size<=p.1)->∀b∈fp,TK (EQ X own fr sc C' s2 H2 fp) pl H' b:=λC' hC' H' pl hn hp b hb=>by
  have I0:=f2 b hb
  refine ⟨hn b hb,S0 (U0 (flt b hb) hC'),λhm=>?_,.inl hb,λx c e=>by
      rcases clb2 C' x c e with z|z
      · exact W2 (U0 (flt b hb) (Z0 hC' (J5 z)))
      · exact I0.2.2.2.2.1 x c z,λp hp'=>?_⟩
  ·rcases K0.mp (I2.stkSub b hm) with z|z
   ·exact I0.2.1 z
   ·exact I0.2.2.1 z
  ·have hp':p∈pl:=by
    have:p∈([]:List (Addr×Obj))++pl:=hp'
    simpa using this
   exact W2 (U0 (flt b hb) (hp p hp'))
 have loop:∀s₃:Shared,s₃={ s2 with heap:=h₁,toks:=s2.toks } ->
   codeAny (model X.prog X.w) X.A (.compLoop (.ListComp elt [⟨tg,iter,ifs,0⟩] sc pos) 0 (.ref it) (.ref s2.heap.objs.size) (compEnvC sc (cellsFrom (G.objs.size+1) sc.names (LZ X.env.cells sc.names [])) G.objs.size X.env))
    (RR (.ref s2.heap.objs.size) G.objs.size) s₃:=by
  rintro s₃ rfl
  have I3:=QH (own:=own) (fr:=fr) (tk:=s2.toks) S I2 f2 fo hCle (B0 _) hDC hns₁ old (λx c h=>(cok.empty x c h).1) cok.apart hacc (λv z=>by cases z)
  refine eJ (λn s'=>∃i H' ys us k τ,Inv (EQ X own fr sc G.objs.size s2 H2 fp) [(s2.heap.objs.size,{ cls:=.type "list",data:=.seq us.toArray k })] τ H' s'/\tn i s'.heap/\(∀b∈fp,H' b=none)/\Vals ys us/\ys.length<=sizeLine/\W i n ys τ H') ?_ m0
   ⟨0,H2,[],[],0,_,I3,st0',λb hb=>(f2 b hb).1,.nil,M4 _,w0⟩
  rintro n s4 ⟨i,H4,ys,us,k,τ,I4,st4,fr4,rv4,hz4,w4⟩
  have hp4:∀p∈[(s2.heap.objs.size,({ cls:=.type "list",data:=.seq us.toArray k }:Obj))],s2.heap.objs.size<=p.1:=λp hp=>by
   rw[Y0.mp hp]
   exact B0 _
  rcases turn i n ys τ H4 w4 with⟨stop,qn⟩|⟨go,hlt,N,hN,step⟩
  ·refine pX (T.done (EQ X own fr sc G.objs.size s2 H2 fp) rfl rfl rfl hc i _ s4 _ H4 (λ_ _=>False) I4 (stt _ hCle fr4 hp4) st4 stop) λr s5 ⟨hr,I5⟩=>?_
   subst hr
   obtain⟨a1,a2,a3⟩:=dz I2 f2 hCle (B0 _) hDC I5 rfl rv4 hz4
   exact hRR _ _ _ s5 a1 (qn _ (I5.pin _ (N1 _ (Y0.mpr rfl))).2.1) a2 a3
  ·refine pX (T.item (EQ X own fr sc G.objs.size s2 H2 fp) rfl rfl rfl hc i _ s4 _ H4 (λ_ _=>False) I4 (stt _ hCle fr4 hp4) st4 go) λr s5 ⟨u,hr,h5⟩=>?_
   subst hr
   refine pX h5 λ_ s6 ⟨x,H6,I6,r6,y6,st6,fr6⟩=>?_
   have I6':=I6.pinned (stt _ hCle fr6 hp4) (T.obj _ _ st6)
   refine pX (hg G.objs.size fp _ s6 _ H6 x u _ I6' r6 (step x H6 y6)) λ_ s7 ⟨σ7,H7,I7,q7⟩=>?_
   refine pX (hif G.objs.size fp _ s7 σ7 H7 _ I7 q7) λb s8 ⟨H8,I8,q8⟩=>?_
   have again:∀{s9:Shared}{H9:Hp}{ys':List V}{us':List Value}{k':Nat},Inv (EQ X own fr sc G.objs.size s2 H2 fp) ([(s2.heap.objs.size,{ cls:=.type "list",data:=.seq us'.toArray k' })]++xK fp s6.heap) σ7 H9 s9->Vals ys' us'->ys'.length<=sizeLine->N ys' σ7 H9 ->
     ∃m,m < n/\∃i H' ys us k τ,Inv (EQ X own fr sc G.objs.size s2 H2 fp) [(s2.heap.objs.size,{ cls:=.type "list",data:=.seq us.toArray k })] τ H' s9/\tn i s9.heap/\(∀b∈fp,H' b=none)/\Vals ys us/\ys.length<=sizeLine/\W i m ys τ H':=λ{s9 H9 ys' us' k'} I9 rv9 hz9 n9=>by
    obtain⟨m',hm,w9⟩:=hN ys' σ7 H9 n9
    refine ⟨m',hm,i+1,H9,ys',us',k',σ7,I9.unpinned,T.keep _ _ _ st6 λb hb o e=>(I9.pin (b,o) (N1 _ (N1 _ (IZ hb e)))).1,λb hb=>?_,rv9,hz9,w9⟩
    obtain⟨o,e,d⟩:=T.obj _ _ st6 b hb
    exact (I9.pin (b,o) (N1 _ (N1 _ (IZ hb e)))).2.1
   cases b with
   | false =>
    rw[if_neg X0]at q8 ⊢
    exact again I8 rv4 hz4 q8
   | true =>
    rw[if_pos rfl]at q8 ⊢
    refine pX (he G.objs.size fp _ s8 σ7 H8 _ I8 q8) λy s9 ⟨yv,H9,I9,r9,n9⟩=>?_
    refine sD (X:=EQ X own fr sc G.objs.size s2 H2 fp) I9 (B0 _) (λx c e z=>?_) (λp hp z=>?_) (by rw[<- rv4.length];exact hlt) λk' s10 I10=>?_
    ·rcases clb2 _ x c e with y|y
     ·rw[z]at y
      exact absurd (U0 (Nat.lt_succ_of_le hCle) y) (G3 _)
     ·obtain⟨v,q⟩:=I2.cell x c y
      exact absurd (U0 q.lt (by rw[z];exact B0 _)) (G3 _)
    ·have hp:p∈([]:List (Addr×Obj))++xK fp s6.heap:=hp
     rw[v8]at hp
     have:=flt _ (BW hp).1
     rw[z]at this
     exact absurd this (G3 _)
    ·exact again I10 (rv4.append (.cons r9 .nil)) (by rw[Q0,v5];omega) n9
 exact codeAny_compStart_list (loop _ rfl) (T.self _ 0 _ _ _ st0' (loop _ rfl))
theorem uk{X:Cx}{tg iter elt:Expr}{ifs:List Expr}{sc:Scope}{pos:Pos}{own:List Str}{fr:List Nat}{wi:TI}{g:TG}{tc:TT}{te:TE}(hc:X.calm=true)(S:CompSc X own fr sc)(hi:PI X tg iter wi)
  (hg:∀C s H ex,PG (EQ X own fr sc C s H ex) tg g) (hif:∀C s H ex,gz (EQ X own fr sc C s H ex) ifs tc) (he:∀C s H ex,PE (EQ X own fr sc C s H ex) elt te)
  (hs:∀x,foldedSetIterable iter X.env x=pure x:=by intro _;rfl):PE X (.ListComp elt [⟨tg,iter,ifs,0⟩] sc pos) (Kv wi own fr g tc te):=by
 intro pins s σ H Q I h
 rw[eval_ListComp]
 refine wpAny_comprehension_free (use:=none) rfl hs (wY λy hy e=>I.ok.has y.1 (S.free y hy e)) S.kind S.loc (pX (hi pins s σ H _ I h) λv s1 h1=>pX h1 λitv s2 h2=>?_)
 obtain⟨it,fp,tn,J,H2,e,I2,T,st2,f2,W,⟨m0,w0⟩,turn⟩:=h2
 subst e
 refine zY (Q:=Q) (RR:=λacc C=>compPost (model X.prog X.w) X.A X.xe none (EP X pins σ Q) acc C) hc S I2 T st2 f2 (λC ex=>hg C s2 H2 ex) (λC ex=>hif C s2 H2 ex) (λC ex=>he C s2 H2 ex) W m0 w0 turn ?_
 intro D C H' s' I' q ⟨m,hm⟩ fC
 refine ⟨m,hm,λh' sb=>⟨.ref D,H',?_,rfl,q⟩⟩
 obtain⟨f0,f1,f2,f3,f4,f5⟩:=fC
 exact I'.turned (t':=s'.toks) (λb o hb e=>(sb.2 b hb).trans e) f0 f1 f3 f4 f5
theorem SH{X:Cx}{tg iter elt:Expr}{ifs:List Expr}{sc:Scope}{pos spos py:Pos}{i:Nat}{y:Str}{own:List Str}{fr:List Nat}{wi:TI}{g:TG}{tc:TT}{te:TE}(hN:X.N.Nodup)(hy:X.N[i]?=some y)(hl:X.env.scope.names.lookup y=some .local)(hc:X.calm=true)(S:CompSc X own fr sc)(hi:PI X tg iter wi)
  (hg:∀C s H ex,PG (EQ X own fr sc C s H ex) tg g) (hif:∀C s H ex,gz (EQ X own fr sc C s H ex) ifs tc) (he:∀C s H ex,PE (EQ X own fr sc C s H ex) elt te)
  (hsw:swapsWith (.ListComp elt [⟨tg,iter,ifs,0⟩] sc pos) (some (.Name y py)) spos.line X.env=pure true:=by rfl)
  (hs:∀x,foldedSetIterable iter X.env x=pure x:=by intro _;rfl):PS X (.Assign [.Name y py] (.ListComp elt [⟨tg,iter,ifs,0⟩] sc pos) spos) (oY (Kv wi own fr g tc te) (UJ i)):=by
 intro pins s σ H D I h
 rw[exec_Assign_Name_used _ _ _ _ hsw]
 refine wpAny_bind (wpAny_standAt ?_)
 show wpAny _ _ (evalThenUse (.ListComp elt [⟨tg,iter,ifs,0⟩] sc pos) X.env _ >>= _) _ _ s
 refine wpAny_bind ?_
 unfold evalThenUse
 refine wpAny_bind ?_
 refine wpAny_comprehension_free rfl hs (wY λy hy e=>I.ok.has y.1 (S.free y hy e)) S.kind S.loc (pX (hi pins s σ H _ I h) λv s1 h1=>pX h1 λitv s2 h2=>?_)
 obtain⟨it,fp,tn,J,H2,e,I2,T,st2,f2,W,⟨m0,w0⟩,turn⟩:=h2
 subst e
 refine zY (Q:=λv H1=>D.nx (σ.set i (some v)) H1) hc S I2 T st2 f2 (λC ex=>hg C s2 H2 ex) (λC ex=>hif C s2 H2 ex) (λC ex=>he C s2 H2 ex) W m0 w0 turn ?_
 intro D' C H' s' I' q ⟨m,hm⟩ fC
 obtain⟨f0,f1,f2,f3,f4,f5⟩:=fC
 show wpAny (model X.prog X.w) X.A (assign (.Name y py) X.env (.ref D')) (λ_ s''=>∃m,s''.heap.Ns C m/\∀h',W3 C s''.heap h'->_) X.xe s'
 refine wpAny_assign_Name (AW I' hN hy (.inl hl) (v:=.ref D') rfl (λs'' I'' hsb=>?_) (.inr hl))
 obtain⟨a,hsb,ha⟩:=hsb
 have hCa:C≠a:=by
  rcases ha with z|z
  ·rw[z];exact f1
  ·exact λe=>f4 y a z e.symm
 obtain⟨m',hm'⟩:∃m',s''.heap.Ns C m':=⟨m,hm.sameBut hsb hCa⟩
 refine ⟨m',hm',λh' sb=>wpAny_pure (wpAny_pure ⟨_,H',?_,q⟩)⟩
 exact I''.turned (t':=s''.toks) (λb o hb e=>(sb.2 b hb).trans e) f0 f1 f3 f4 f5
inductive Kd where|l|t
noncomputable def ItAt(k:Kd)(h:Heap)(it a:Addr)(i:Nat):Prop:=match k with | .l=>h.IsListIter it a i | .t=>h.IsTupleIter it a i
noncomputable def SqAt(k:Kd)(h:Heap)(a:Addr)(xs:Array Value):Prop:=match k with | .l=>h.IsList a xs | .t=>h.IsTuple a xs
noncomputable def jZ(k:Kd)(a:Addr):Obj:=match k with | .l=>{ cls:=.type "list_iterator",data:=.fields #[.ref a,.int 0 0] } | .t=>{ cls:=.type "tuple_iterator",data:=.fields #[.ref a,.int 0 0] }
theorem ItAt.at{k:Kd}{h h':Heap}{it a:Addr}{i:Nat}(x:ItAt k h it a i)(f:∀o,h.get? it=some o->h'.get? it=some o):ItAt k h' it a i:=by
 cases k with
 | l=>exact Heap.IsListIter.at x f
 | t=>exact Heap.IsTupleIter.at x f
theorem SqAt.at{k:Kd}{h h':Heap}{a:Addr}{xs:Array Value}(x:SqAt k h a xs)(f:∀o,h.get? a=some o->h'.get? a=some o):SqAt k h' a xs:=by
 cases k with
 | l=>exact Heap.IsList.at x f
 | t=>obtain⟨o,e,r⟩:=x;exact ⟨o,f o e,r⟩
theorem ItAt.obj{k:Kd}{h:Heap}{it a:Addr}{i:Nat}(x:ItAt k h it a i):∃o,h.get? it=some o/\∀v,o.data≠.cell v:=by
 cases k with
 | l=>obtain⟨o,e,c,d⟩:=x;exact ⟨o,e,λv z=>by rw[d]at z;cases z⟩
 | t=>obtain⟨o,e,c,d⟩:=x;exact ⟨o,e,λv z=>by rw[d]at z;cases z⟩
theorem ItAt.new(k:Kd){h:Heap}{it a:Addr}(e:h.get? it=some (jZ k a)):ItAt k h it a 0:=by
 cases k with
 | l=>exact ⟨_,e,rfl,rfl⟩
 | t=>exact ⟨_,e,rfl,rfl⟩
section
variable {prog:Program}{w:World}{A:Around}{E:Value->Shared->Prop}{s:Shared}
theorem bK{k:Kd}{a:Addr}{xs:Array Value}{Q:Value->Shared->Prop}(hl:SqAt k s.heap a xs)(h:Q (.ref s.heap.objs.size) { s with heap:=s.heap.push (jZ k a) }):wpAny (model prog w) A (pyIter (.ref a)) Q E s:=by
 cases k with
 | l=>exact wpAny_pyIter_list hl h
 | t=>exact wpAny_pyIter_tuple hl h
theorem cK{it t:Addr}{i:Nat}{items}{x:Value}{Q:Value->Shared->Prop}(hit:s.heap.IsTupleIter it t i)(ht:s.heap.IsTuple t items)(hx:items[i]?=some x)
  (hQ:∀h',h'.IsTupleIter it t (i+1)->W3 it s.heap h'->Q x { s with heap:=h' }):wpAny (model prog w) A (X1 (.ref it)) Q E s:=by
 obtain⟨o,ho,hc,hd⟩:=id hit
 obtain⟨ol,hol,_,nl,hdl⟩:=ht
 unfold X1
 refine wpAny_bind (wpAny_callSpecial?_slot (name:=Str.ofString "__next__") hit.typeIs F.slot_tuple_iterator_next
   (wpAny_call_entry F.slot_tuple_iterator_next hit.typeIs F.entry_tuple_iterator_next ?_ (F.args_tuple_iterator_next_1 _)))
 show wpAny _ _ (field (.ref it) 0 >>= _) _ _ s
 refine wpAny_bind (wpAny_field ho hd (x:=.ref t) rfl ?_)
 show wpAny _ _ (if (B5 t==A4)=true then _ else _) _ _ s
 rw[if_neg (show ¬((B5 t==A4)=true) from X0)]
 show wpAny _ _ (field (.ref it) 1 >>= _) _ _ s
 refine wpAny_bind (wpAny_field ho hd (x:=.int i 0) rfl ?_)
 show wpAny _ _ (seqItems? (.ref t) >>= _) _ _ s
 refine wpAny_bind (wpAny_seqItems hol hdl ?_)
 simp only[Int.toNat_natCast,hx]
 refine wpAny_bind (wpAny_setField ho hd (by simp) (wpAny_pure ⟨x,rfl,wpAny_pure (hQ _ ?_ (i4 ..))⟩))
 exact ⟨_,V2 _ ho (x5 (o5 hd _)),(Obj.cls_mapFields ..).trans hc,by
   rw[o5 hd];simp[rawInt]⟩
theorem BK{it l:Addr}{i:Nat}{items}{Q:Value->Shared->Prop}(hh:A.handled=none)
  (hit:s.heap.IsTupleIter it l i) (hl:s.heap.IsTuple l items) (hx:items[i]?=none)
  (hE:∀h' e,F7 it s.heap h'->(∃o,h'.get? e=some o/\o.cls=.type "StopIteration")->E (.ref e) { s with heap:=h' }) :
  wpAny (model prog w) A (X1 (.ref it)) Q E s:=by
 obtain⟨o,ho,hc,hd⟩:=id hit
 obtain⟨ol,hol,_,nl,hdl⟩:=hl
 unfold X1
 refine wpAny_bind (wpAny_callSpecial?_slot (name:=Str.ofString "__next__") hit.typeIs F.slot_tuple_iterator_next
   (wpAny_call_entry F.slot_tuple_iterator_next hit.typeIs F.entry_tuple_iterator_next ?_ (F.args_tuple_iterator_next_1 _)))
 show wpAny _ _ (field (.ref it) 0 >>= _) _ _ s
 refine wpAny_bind (wpAny_field ho hd (x:=.ref l) rfl ?_)
 show wpAny _ _ (if (B5 l==A4)=true then _ else _) _ _ s
 rw[if_neg (show ¬((B5 l==A4)=true) from X0)]
 show wpAny _ _ (field (.ref it) 1 >>= _) _ _ s
 refine wpAny_bind (wpAny_field ho hd (x:=.int i 0) rfl ?_)
 show wpAny _ _ (seqItems? (.ref l) >>= _) _ _ s
 refine wpAny_bind (wpAny_seqItems hol hdl ?_)
 simp only[Int.toNat_natCast,hx]
 refine wpAny_bind (wpAny_rule (wpAny_bind (wpAny_setField ho hd (by simp) ?_)))
 show wpAny _ _ (newExc (.type "StopIteration") [] >>= _) _ _ _
 refine wpAny_bind ?_
 simp only[newExc,newTuple]
 refine wpAny_bind (wpAny_newObj_type ?_ (by size_fits))
 refine wpAny_bind (m:=firstArgMember _ _) (wpAny_of_eq (a:=A4) (by first|rfl|(simp only[firstArgMember];rfl)) ?_)
 refine wpAny_newObj_type ?_ (by size_fits)
 simp only[raiseNew]
 refine wpAny_bind (wpAny_handled ?_)
 first|rw[show A.in1.handled=none from hh]|rw[hh]
 refine wpAny_bind (wpAny_pure (wpAny_throw ?_))
 exact hE _ _ (((i4 ..).extBut.push _).push _) ⟨_,L0 _ rfl,rfl⟩
theorem nZ{k:Kd}{it a:Addr}{i:Nat}{xs:Array Value}{x:Value}{Q:Value->Shared->Prop}(hit:ItAt k s.heap it a i)(hl:SqAt k s.heap a xs)(hx:xs[i]?=some x)
  (hQ:∀h',ItAt k h' it a (i+1)->W3 it s.heap h'->Q x { s with heap:=h' }):wpAny (model prog w) A (X1 (.ref it)) Q E s:=by
 cases k with
 | l=>exact wpAny_nextOf_list_item hit hl hx hQ
 | t=>exact cK hit hl hx hQ
theorem NZ{k:Kd}{it a:Addr}{i:Nat}{xs:Array Value}{Q:Value->Shared->Prop}(hh:A.handled=none)(hit:ItAt k s.heap it a i)(hl:SqAt k s.heap a xs)(hx:xs[i]?=none)
  (hE:∀h' e,F7 it s.heap h'->(∃o,h'.get? e=some o/\o.cls=.type "StopIteration")->E (.ref e) { s with heap:=h' }):wpAny (model prog w) A (X1 (.ref it)) Q E s:=by
 cases k with
 | l=>exact wpAny_nextOf_list_end hh hit hl hx hE
 | t=>exact BK hh hit hl hx hE
end
noncomputable abbrev VQ(h:Heap)(T:Addr)(a1 a2:Value):Prop:=h.get? T=some { cls:=.type "tuple",data:=.seq #[a1,a2] }
structure ZAp2(z TI TO i1 i2 l1 l2:Addr):Prop where
 TIz:TI≠z
 TOz:TO≠z
 i1z:i1≠z
 i2z:i2≠z
 TOTI:TO≠TI
 i1TI:i1≠TI
 i2TI:i2≠TI
 i1TO:i1≠TO
 i2TO:i2≠TO
 i2i1:i2≠i1
 l1z:l1≠z
 l1TO:l1≠TO
 l1i1:l1≠i1
 l1i2:l1≠i2
 l2z:l2≠z
 l2TO:l2≠TO
 l2i1:l2≠i1
 l2i2:l2≠i2
theorem UL(n l1 l2:Nat)(h1:l1 < n)(h2:l2 < n):ZAp2 (n+4) (n+2) (n+3) n (n+1) l1 l2:=by constructor<;>(show ¬(@Eq Nat _ _))<;>omega
section
variable {prog:Program}{w:World}{A:Around}{E:Value->Shared->Prop}{s:Shared}
theorem TH{T:Addr}{a1 a2 x:Value}{k:Nat}{Q:Unit->Shared->Prop}(hT:VQ s.heap T a1 a2)
  (h:∀h',h'.get? T=some { cls:=.type "tuple",data:=.seq ((#[a1,a2]:Array Value).setIfInBounds k x) }->W3 T s.heap h'->Q () { s with heap:=h' }) :
  wpAny (model prog w) A (updateSeq T (·.setIfInBounds k x)) Q E s:=by
 refine wpAny_updateSeq hT rfl (h _ ?_ (i4 ..))
 rw[V2 _ hT rfl]
 simp[K2]
theorem UH{z TI TO i1 i2 l1 l2:Addr}{k:Nat}{k1:Kd}{k2:Kd}{xs1 xs2:Array Value}{a1 a2:Value}{x1 x2:Value}{Q:Value->Shared->Prop}(D:ZAp2 z TI TO i1 i2 l1 l2)
  (hz:IsZip s.heap z TI TO .none) (hTI:VQ s.heap TI (.ref i1) (.ref i2)) (hTO:VQ s.heap TO a1 a2)
  (h1:ItAt k1 s.heap i1 l1 k) (h2:ItAt k2 s.heap i2 l2 k) (hl1:SqAt k1 s.heap l1 xs1) (hl2:SqAt k2 s.heap l2 xs2) (hx1:xs1[k]?=some x1) (hx2:xs2[k]?=some x2)
  (hQ:∀h',IsZip h' z TI TO (rawInt s.heap.objs.size)->VQ h' TO x1 x2->ItAt k1 h' i1 l1 (k+1)->ItAt k2 h' i2 l2 (k+1)->VQ h' s.heap.objs.size x1 x2->h'.objs.size=s.heap.objs.size+1 ->
    (∀c o,c≠z->c≠TO->c≠i1->c≠i2->s.heap.get? c=some o->h'.get? c=some o)->Q (.ref s.heap.objs.size) { s with heap:=h' }) :
  wpAny (model prog w) A (Builtin.«zip.__next__» ⟨[.ref z],[]⟩) (λfin s'=>∃v,fin=.done (.ret v)/\Q v s') E s:=by
 show wpAny _ _ (field (.ref z) 2 >>= _) _ _ _
 refine wpAny_bind (wpAny_field hz rfl (x:=.bool false) rfl ?_)
 show wpAny _ _ (field (.ref z) 3 >>= _) _ _ _
 refine wpAny_bind (wpAny_field hz rfl (x:=.ref TI) rfl ?_)
 refine wpAny_bind (wpAny_seqItems hTI rfl ?_)
 show wpAny _ _ (o4 (.ref z) >>= _) _ _ _
 refine wpAny_bind ?_
 unfold o4
 refine wpAny_bind (wpAny_field hz rfl (x:=.none) rfl (wpAny_pure ?_))
 simp only[if_true]
 refine wpAny_bind (wpAny_rule ?_)
 refine wpAny_bind (wpAny_field hz rfl (x:=.ref TO) rfl ?_)
 refine wpAny_bind (wpAny_setField_rec hz (by simp) λh₁ hz₁ hs₁=>?_)
 replace hz₁:IsZip h₁ z TI TO .ellipsis:=hz₁
 refine wpAny_bind ?_
 simp only[W7,List.zipIdx_nil,x8,E8]
 have up₁:∀c o,c≠z->s.heap.get? c=some o->h₁.get? c=some o:=λc o c1 e=>hs₁.extBut _ _ c1 e
 refine wpAny_bind (wpAny_bind (wpAny_onRaise ?_))
 show wpAny _ _ (X1 (.ref i1) >>= _) _ _ _
 refine wpAny_bind (nZ (h1.at λo e=>hs₁.extBut _ o D.i1z e) (hl1.at λo e=>hs₁.extBut _ o D.l1z e) hx1 λha1 hi1 hsa1=>wpAny_pure ?_)
 have hTOa1:VQ ha1 TO a1 a2:=hsa1.extBut _ _ D.i1TO.symm (hs₁.extBut _ _ D.TOz hTO)
 refine wpAny_bind (wpAny_seqItems hTOa1 rfl ?_)
 refine wpAny_bind (TH hTOa1 λhb1 hTOb1 hsb1=>?_)
 replace hTOb1:VQ hb1 TO x1 a2:=hTOb1
 refine wpAny_bind (wpAny_letGo (wpAny_pure ?_))
 refine wpAny_bind (wpAny_bind (wpAny_onRaise ?_))
 show wpAny _ _ (X1 (.ref i2) >>= _) _ _ _
 refine wpAny_bind (nZ (((h2.at λo e=>hs₁.extBut _ o D.i2z e).at λo e=>hsa1.extBut _ o D.i2i1 e).at λo e=>hsb1.extBut _ o D.i2TO e) (((hl2.at λo e=>hs₁.extBut _ o D.l2z e).at λo e=>hsa1.extBut _ o D.l2i1 e).at λo e=>hsb1.extBut _ o D.l2TO e) hx2 λha2 hi2 hsa2=>wpAny_pure ?_)
 have hTOa2:VQ ha2 TO x1 a2:=hsa2.extBut _ _ D.i2TO.symm hTOb1
 refine wpAny_bind (wpAny_seqItems hTOa2 rfl ?_)
 refine wpAny_bind (TH hTOa2 λhb2 hTOb2 hsb2=>?_)
 replace hTOb2:VQ hb2 TO x1 x2:=hTOb2
 refine wpAny_bind (wpAny_letGo (wpAny_pure (wpAny_pure ?_)))
 refine wpAny_bind (wpAny_seqItems hTOb2 rfl ?_)
 refine wpAny_bind (wpAny_newTuple ?_)
 have hsz:hb2.objs.size=s.heap.objs.size:=by rw[hsb2.1,hsa2.1,hsb1.1,hsa1.1,hs₁.1]
 have hzG:IsZip hb2 z TI TO .ellipsis:=(hsb2.extBut _ _ D.TOz.symm (hsa2.extBut _ _ D.i2z.symm (hsb1.extBut _ _ D.TOz.symm (hsa1.extBut _ _ D.i1z.symm hz₁))))
 have hkG:∀c o,c≠z->c≠TO->c≠i1->c≠i2->s.heap.get? c=some o->hb2.get? c=some o:=λc o c1 c2 d1 d2 e=>(hsb2.extBut _ _ c2 (hsa2.extBut _ _ d2 (hsb1.extBut _ _ c2 (hsa1.extBut _ _ d1 (hs₁.extBut _ _ c1 e)))))
 have hiG1:ItAt k1 hb2 i1 l1 (k+1):=(((hi1.at λo e=>hsb1.extBut _ o D.i1TO e).at λo e=>hsa2.extBut _ o D.i2i1.symm e).at λo e=>hsb2.extBut _ o D.i1TO e)
 have hiG2:ItAt k2 hb2 i2 l2 (k+1):=(hi2.at λo e=>hsb2.extBut _ o D.i2TO e)
 have hzlt:z < hb2.objs.size:=M0 hzG
 show wpAny _ _ (o6 (.ref z) (.ref hb2.objs.size) >>= _) _ _ _
 refine wpAny_bind ?_
 unfold o6
 have hz₆:IsZip (hb2.push { cls:=.type "tuple",data:=.seq #[x1,x2] }) z TI TO .ellipsis:=n0 _ hzG
 refine wpAny_bind (wpAny_setField_rec hz₆ (by simp) λh₇ hz₇ hs₇=>?_)
 replace hz₇:IsZip h₇ z TI TO (rawInt hb2.objs.size):=hz₇
 refine wpAny_setField_rec hz₇ (by simp) λh₈ hz₈ hs₈=>?_
 replace hz₈:IsZip h₈ z TI TO (rawInt hb2.objs.size):=hz₈
 have up:∀c o,c≠z->hb2.get? c=some o->h₈.get? c=some o:=λc o c1 e=>hs₈.extBut _ _ c1 (hs₇.extBut _ _ c1 (n0 _ e))
 have hT₈:VQ h₈ hb2.objs.size x1 x2:=hs₈.extBut _ _ (W2 hzlt) (hs₇.extBut _ _ (W2 hzlt) (L0 _ rfl))
 have hz8:h₈.objs.size=hb2.objs.size+1:=by rw[hs₈.1,hs₇.1,Y2]
 rw[hsz]at hz₈ hT₈ hz8
 refine wpAny_pure ⟨_,rfl,?_⟩
 show Q (.ref hb2.objs.size) _
 rw[hsz]
 exact hQ h₈ hz₈ (up _ _ D.TOz hTOb2) (hiG1.at λo e=>up _ o D.i1z e) (hiG2.at λo e=>up _ o D.i2z e) hT₈ hz8 λc o c1 c2 d1 d2 e=>up c o c1 (hkG c o c1 c2 d1 d2 e)
theorem tD{z TI TO i1 i2 l1 l2:Addr}{k:Nat}{k1:Kd}{k2:Kd}{xs1 xs2:Array Value}{a1 a2:Value}{Q:Fin->Shared->Prop}(hh:A.handled=none)(D:ZAp2 z TI TO i1 i2 l1 l2)
  (hz:IsZip s.heap z TI TO .none) (hTI:VQ s.heap TI (.ref i1) (.ref i2)) (hTO:VQ s.heap TO a1 a2)
  (h1:ItAt k1 s.heap i1 l1 k) (h2:ItAt k2 s.heap i2 l2 k) (hl1:SqAt k1 s.heap l1 xs1) (hl2:SqAt k2 s.heap l2 xs2) (hend:xs1[k]?=none\/xs2[k]?=none)
  (hE:∀h' e,(∀c o,c≠z->c≠TO->c≠i1->c≠i2->s.heap.get? c=some o->h'.get? c=some o)->(∃o,h'.get? e=some o/\o.cls=.type "StopIteration")->E (.ref e) { s with heap:=h' }) :
  wpAny (model prog w) A (Builtin.«zip.__next__» ⟨[.ref z],[]⟩) Q E s:=by
 show wpAny _ _ (field (.ref z) 2 >>= _) _ _ _
 refine wpAny_bind (wpAny_field hz rfl (x:=.bool false) rfl ?_)
 show wpAny _ _ (field (.ref z) 3 >>= _) _ _ _
 refine wpAny_bind (wpAny_field hz rfl (x:=.ref TI) rfl ?_)
 refine wpAny_bind (wpAny_seqItems hTI rfl ?_)
 show wpAny _ _ (o4 (.ref z) >>= _) _ _ _
 refine wpAny_bind ?_
 unfold o4
 refine wpAny_bind (wpAny_field hz rfl (x:=.none) rfl (wpAny_pure ?_))
 simp only[if_true]
 refine wpAny_bind (wpAny_rule ?_)
 refine wpAny_bind (wpAny_field hz rfl (x:=.ref TO) rfl ?_)
 refine wpAny_bind (wpAny_setField_rec hz (by simp) λh₁ hz₁ hs₁=>?_)
 replace hz₁:IsZip h₁ z TI TO .ellipsis:=hz₁
 refine wpAny_bind ?_
 simp only[W7,List.zipIdx_nil,x8,E8]
 refine wpAny_bind (wpAny_bind (wpAny_onRaise ?_))
 show wpAny _ _ (X1 (.ref i1) >>= _) _ _ _
 cases hx1:xs1[k]? with
 | none =>
  refine wpAny_bind (NZ hh (h1.at λo e=>hs₁.extBut _ o D.i1z e) (hl1.at λo e=>hs₁.extBut _ o D.l1z e) hx1 λhq e hsq he=>?_)
  obtain⟨oe,hoe,hce⟩:=he
  have hzq:IsZip hq z TI TO .ellipsis:=hsq _ _ D.i1z.symm hz₁
  have hez:e≠z:=λx=>by subst x;rw[hzq]at hoe;cases hoe;simp at hce
  refine wpAny_setField_rec hzq (by simp) λh₉ _ hs₉=>hE h₉ e (λc o c1 c2 d1 d2 x=>hs₉.extBut _ _ c1 (hsq _ _ d1 (hs₁.extBut _ _ c1 x))) ⟨oe,hs₉.extBut _ _ hez hoe,hce⟩
 | some x1 =>
  refine wpAny_bind (nZ (h1.at λo e=>hs₁.extBut _ o D.i1z e) (hl1.at λo e=>hs₁.extBut _ o D.l1z e) hx1 λha1 hi1 hsa1=>wpAny_pure ?_)
  have hTOa1:VQ ha1 TO a1 a2:=hsa1.extBut _ _ D.i1TO.symm (hs₁.extBut _ _ D.TOz hTO)
  refine wpAny_bind (wpAny_seqItems hTOa1 rfl ?_)
  refine wpAny_bind (TH hTOa1 λhb1 hTOb1 hsb1=>?_)
  replace hTOb1:VQ hb1 TO x1 a2:=hTOb1
  refine wpAny_bind (wpAny_letGo (wpAny_pure ?_))
  refine wpAny_bind (wpAny_bind (wpAny_onRaise ?_))
  show wpAny _ _ (X1 (.ref i2) >>= _) _ _ _
  have hx2:xs2[k]?=none:=by
   rcases hend with h|h
   ·rw[hx1]at h;cases h
   ·exact h
  refine wpAny_bind (NZ hh (((h2.at λo e=>hs₁.extBut _ o D.i2z e).at λo e=>hsa1.extBut _ o D.i2i1 e).at λo e=>hsb1.extBut _ o D.i2TO e) (((hl2.at λo e=>hs₁.extBut _ o D.l2z e).at λo e=>hsa1.extBut _ o D.l2i1 e).at λo e=>hsb1.extBut _ o D.l2TO e) hx2 λhq e hsq he=>?_)
  obtain⟨oe,hoe,hce⟩:=he
  have hzq:IsZip hq z TI TO .ellipsis:=hsq _ _ D.i2z.symm (hsb1.extBut _ _ D.TOz.symm (hsa1.extBut _ _ D.i1z.symm hz₁))
  have hez:e≠z:=λx=>by subst x;rw[hzq]at hoe;cases hoe;simp at hce
  refine wpAny_setField_rec hzq (by simp) λh₉ _ hs₉=>hE h₉ e (λc o c1 c2 d1 d2 x=>hs₉.extBut _ _ c1 (hsq _ _ d2 (hsb1.extBut _ _ c2 (hsa1.extBut _ _ d1 (hs₁.extBut _ _ c1 x))))) ⟨oe,hs₉.extBut _ _ hez hoe,hce⟩
theorem AY{z TI TO i1 i2 l1 l2:Addr}{k:Nat}{k1:Kd}{k2:Kd}{xs1 xs2:Array Value}{a1 a2:Value}{x1 x2:Value}{Q:Option Value->Shared->Prop}(D:ZAp2 z TI TO i1 i2 l1 l2)
  (hz:IsZip s.heap z TI TO .none) (hTI:VQ s.heap TI (.ref i1) (.ref i2)) (hTO:VQ s.heap TO a1 a2)
  (h1:ItAt k1 s.heap i1 l1 k) (h2:ItAt k2 s.heap i2 l2 k) (hl1:SqAt k1 s.heap l1 xs1) (hl2:SqAt k2 s.heap l2 xs2) (hx1:xs1[k]?=some x1) (hx2:xs2[k]?=some x2)
  (hQ:∀h',IsZip h' z TI TO (rawInt s.heap.objs.size)->VQ h' TO x1 x2->ItAt k1 h' i1 l1 (k+1)->ItAt k2 h' i2 l2 (k+1)->VQ h' s.heap.objs.size x1 x2->h'.objs.size=s.heap.objs.size+1 ->
    (∀c o,c≠z->c≠TO->c≠i1->c≠i2->s.heap.get? c=some o->h'.get? c=some o)->Q (some (.ref s.heap.objs.size)) { s with heap:=h' }) :
  wpAny (model prog w) A (pyNext (.ref z)) Q E s:=by
 have hT:s.TypeIs (.ref z) "zip":=⟨_,hz,rfl⟩
 unfold pyNext
 exact wpAny_bind (wpAny_attempt (wpAny_callSpecial?_slot (name:=Str.ofString "__next__") hT F.slot_zip_next
   (wpAny_call_entry F.slot_zip_next hT F.entry_zip_next
     (UH D hz hTI hTO h1 h2 hl1 hl2 hx1 hx2 λh' a1 a2 b1 b2 a5 a6 a7=>wpAny_pure (hQ h' a1 a2 b1 b2 a5 a6 a7)) (F.args_zip_next_1 _))))
theorem sW{z TI TO i1 i2 l1 l2:Addr}{k:Nat}{k1:Kd}{k2:Kd}{xs1 xs2:Array Value}{a1 a2:Value}{Q:Option Value->Shared->Prop}(hh:A.handled=none)(D:ZAp2 z TI TO i1 i2 l1 l2)
  (hz:IsZip s.heap z TI TO .none) (hTI:VQ s.heap TI (.ref i1) (.ref i2)) (hTO:VQ s.heap TO a1 a2)
  (h1:ItAt k1 s.heap i1 l1 k) (h2:ItAt k2 s.heap i2 l2 k) (hl1:SqAt k1 s.heap l1 xs1) (hl2:SqAt k2 s.heap l2 xs2) (hend:xs1[k]?=none\/xs2[k]?=none)
  (hQ:∀h',(∀c o,c≠z->c≠TO->c≠i1->c≠i2->s.heap.get? c=some o->h'.get? c=some o)->Q none { s with heap:=h' }):wpAny (model prog w) A (pyNext (.ref z)) Q E s:=by
 have hT:s.TypeIs (.ref z) "zip":=⟨_,hz,rfl⟩
 unfold pyNext
 refine wpAny_bind (wpAny_attempt (wpAny_callSpecial?_slot (name:=Str.ofString "__next__") hT F.slot_zip_next
   (wpAny_call_entry F.slot_zip_next hT F.entry_zip_next (tD hh D hz hTI hTO h1 h2 hl1 hl2 hend λh' e hk he=>?_) (F.args_zip_next_1 _))))
 obtain⟨o,ho,hc⟩:=he
 refine wpAny_bind (wpAny_isInstance (T:="StopIteration") (b:=true) ⟨o,ho,hc⟩ isSubtype_stop ?_)
 exact wpAny_pure (hQ _ hk)
end
noncomputable abbrev xk(h:Heap)(k1:Kd)(k2:Kd)(l1 l2:Addr):Heap:=((h.push (jZ k1 l1)).push (jZ k2 l2))
noncomputable abbrev yk(h:Heap)(k1:Kd)(k2:Kd)(l1 l2:Addr):Heap:=(xk h k1 k2 l1 l2).push { cls:=.type "tuple",data:=.seq #[.ref h.objs.size,.ref (h.push (jZ k1 l1)).objs.size] }
noncomputable abbrev zk(h:Heap)(k1:Kd)(k2:Kd)(l1 l2:Addr):Heap:=(yk h k1 k2 l1 l2).push { cls:=.type "tuple",data:=.seq #[.none,.none] }
noncomputable abbrev tU(h:Heap)(k1:Kd)(k2:Kd)(l1 l2:Addr):Heap:=(zk h k1 k2 l1 l2).push { cls:=.type "zip",data:=.fields #[.none,.bool false,.bool false,.ref (xk h k1 k2 l1 l2).objs.size,.ref (yk h k1 k2 l1 l2).objs.size] }
theorem iz(k1:Kd)(k2:Kd)(l1 l2:Addr)(xs1 xs2:Array Value) :
  Meets (Builtin.«zip.__new__» ⟨[.type "zip",.ref l1,.ref l2],[]⟩) (λ_ R s=>SqAt k1 s.heap l1 xs1/\SqAt k2 s.heap l2 xs2 /\
    R (.ok (.ret (.ref (zk s.heap k1 k2 l1 l2).objs.size))) { s with heap:=tU s.heap k1 k2 l1 l2 }) :=
 .of_wp λprog w A R s h=>by
  obtain⟨hp,g,d,tk,os⟩:=s;obtain⟨hl1,hl2,h⟩:=h
  have hsub:=sub_zip
  have hL1:SqAt k1 (Shared.heap ⟨hp,g,d,tk,os⟩) l1 xs1:=hl1
  have hL2:SqAt k2 (Shared.heap ⟨(hp.push (jZ k1 l1)),g,d,tk,os⟩) l2 xs2:=(SqAt.at hl2 λo e=>n0 _ e)
  wp_walk using bK hL1,bK hL2
  exact ⟨_,rfl,h⟩
structure ZAp3(z TI TO i1 i2 i3 l1 l2 l3:Addr):Prop where
 TIz:TI≠z
 TOz:TO≠z
 i1z:i1≠z
 i2z:i2≠z
 i3z:i3≠z
 TOTI:TO≠TI
 i1TI:i1≠TI
 i2TI:i2≠TI
 i3TI:i3≠TI
 i1TO:i1≠TO
 i2TO:i2≠TO
 i3TO:i3≠TO
 i2i1:i2≠i1
 i3i1:i3≠i1
 i3i2:i3≠i2
 l1z:l1≠z
 l1TO:l1≠TO
 l1i1:l1≠i1
 l1i2:l1≠i2
 l1i3:l1≠i3
 l2z:l2≠z
 l2TO:l2≠TO
 l2i1:l2≠i1
 l2i2:l2≠i2
 l2i3:l2≠i3
 l3z:l3≠z
 l3TO:l3≠TO
 l3i1:l3≠i1
 l3i2:l3≠i2
 l3i3:l3≠i3
section
variable {prog:Program}{w:World}{A:Around}{E:Value->Shared->Prop}{s:Shared}
end
inductive Ki where|non|bl|int|str|lst|tup|dct
 deriving DecidableEq
noncomputable def Ki.nm:Ki->String
 | .non=>"NoneType" | .bl=>"bool" | .int=>"int" | .str=>"str" | .lst=>"list" | .tup=>"tuple" | .dct=>"dict"
noncomputable def KiOf(K:q0)(H:Hp):V->Ki->Prop
 | .non,k=>k=.non
 | .bl _,k=>k=.bl
 | .int _,k=>k=.int
 | .str _,k=>k=.str
 | .ref a,k=>(k=.lst/\∃xs,SqL K H a xs)\/(k=.tup/\∃xs,SqT K H a xs)\/(k=.dct/\((∃kvs,H a=some (.dK kvs))\/∃kvs,H a=some (.dT kvs)))
 | _,_=>False
noncomputable def Ki.sub:Ki->Ki->Bool
 | .bl,.int=>true
 | a,b=>decide (a=b)
theorem KiOf.typeIs{X:Cx}{pins:List (Addr×Obj)}{σ:St}{H:Hp}{s:Shared}{x:V}{u:Value}{k:Ki}(I:Inv X pins σ H s)(h:KiOf X.K H x k)(r:RelV x u):s.TypeIs u k.nm:=by
 cases x with
 | non=>cases h;cases r;rfl
 | bl b=>cases h;cases r;rfl
 | int i=>cases h;obtain⟨t,rfl⟩:=r;rfl
 | str i=>cases h;obtain⟨t,rfl⟩:=r;rfl
 | ref a =>
  cases r
  rcases h with⟨rfl,xs,hq⟩|⟨rfl,xs,hq⟩|⟨rfl,⟨kvs,hq⟩|⟨kvs,hq⟩⟩
  ·obtain⟨its,_,⟨o,n,e,c,_⟩,_⟩:=I.list hq
   exact ⟨o,e,c⟩
  ·obtain⟨its,_,⟨o,e,c,_⟩,_⟩:=I.tuple hq
   exact ⟨o,e,c⟩
  ·obtain⟨_,_,_,_,o,es,ep,e,c,_⟩:=I.hok a _ hq
   exact ⟨o,e,c.1⟩
  ·obtain⟨_,_,_,_,o,es,ep,e,c,_⟩:=I.hok a _ hq
   exact ⟨o,e,c.1⟩
 | byt _=>cases h
 | flt _=>cases h
 | ty _=>cases h
theorem UX(T:Ki):typeOf (.type T.nm)=pure (.type "type"):=by
 cases T
 ·exact F.isi_meta_NoneType
 ·exact F.isi_meta_bool
 ·exact F.isi_meta_int
 ·exact F.isi_meta_str
 ·exact F.isi_meta_list
 ·exact F.isi_meta_tuple
 ·exact F.isi_meta_dict
theorem sV(k T:Ki):isSubtype (.type k.nm) (.type T.nm)=pure (k.sub T):=by
 cases k<;>cases T<;>(show isSubtype (.type _) (.type _)=pure _;rw[isSubtype_type];kernel_rfl)
theorem Lv(k T:Ki)(h:k.sub T=false):(M5 k.nm==M5 T.nm)=false:=by
 cases k<;>cases T<;>first|(exfalso;revert h;decide)|decide +kernel
noncomputable def VL(K:q0):List V->Hp->VK->Prop:=λxs H Q=>∃(x:V) (k:Ki) (T:Ki),xs=[x,.ty T.nm]/\KiOf K H x k/\Q (.bl (k.sub T)) H
theorem jz{X:Cx}:TQ X (.builtin "isinstance") (VL X.K):=by
 intro pins s σ H xs us Q I r h
 obtain⟨x,k,T,rfl,hk,q⟩:=h
 obtain⟨u,w',rfl,ru,rw'⟩:=aJ r
 obtain rfl:w'=.type T.nm:=rw'
 have ht:=hk.typeIs I ru
 cases hs:k.sub T with
 | true =>
  rw[hs]at q
  exact call_isinstance (isinstance_true (Tx:=k.nm) (UX T) (by rw[sV,hs])) ⟨ht,.bl true,H,I,rfl,q⟩
 | false =>
  rw[hs]at q
  have hsub:isSubtype (.type k.nm) (.type T.nm)=pure false:=by rw[sV,hs]
  have hne:=Lv k T hs
  have fin:EP X pins σ Q (.bool false) { s with toks:=s.toks+1 }:=⟨.bl false,H,I.tok _,rfl,q⟩
  cases x with
  | non=>cases hk;cases ru;exact call_isinstance (isinstance_false_none hne (UX T) hsub) fin
  | bl b=>cases hk;cases ru;exact call_isinstance (isinstance_false_bool hne (UX T) hsub) fin
  | int i=>cases hk;obtain⟨t,rfl⟩:=ru;exact call_isinstance (isinstance_false_int hne (UX T) hsub) fin
  | str i=>cases hk;obtain⟨t,rfl⟩:=ru;exact call_isinstance (isinstance_false_str hne (UX T) hsub) fin
  | ref a =>
   cases ru
   rcases hk with⟨rfl,_⟩|⟨rfl,_⟩|⟨rfl,_⟩
   ·exact call_isinstance (isinstance_false_list hne (UX T) hsub) ⟨ht,fin⟩
   ·exact call_isinstance (isinstance_false_tuple hne (UX T) hsub) ⟨ht,fin⟩
   ·exact call_isinstance (isinstance_false_dict hne (UX T) hsub) ⟨ht,fin⟩
  | byt _=>cases hk
  | flt _=>cases hk
  | ty _=>cases hk
noncomputable def Nu(K:q0):List V->Hp->VK->Prop:=λxs H Q=>∃(a:Addr) (bs:List Bool),xs=[.ref a]/\SqL K H a (bs.map V.bl)/\Q (.bl (bs.all id)) H
theorem uU{bs:List Bool}{us:List Value}(r:Vals (bs.map V.bl) us)(i:Nat)(v:Value)(h:us[i]?=some v):∃b,bs[i]?=some b/\v=.bool b:=by
 cases e:bs[i]? with
 | none =>
  have h1:(bs.map V.bl)[i]?=none:=by rw[R0,e];rfl
  rw[r.none_of h1]at h
  cases h
 | some b =>
  obtain⟨u,hu,ru⟩:=r.get (i:=i) (x:=.bl b) (by rw[R0,e];rfl)
  rw[hu]at h
  cases h
  exact ⟨b,rfl,ru⟩
theorem tV(bs:List Bool):((S1 bs.length).all λi=>(bs[i]?).getD true)=bs.all id:=by
 rw[t6,Q6,Q6]
 constructor
 ·intro h b hb
  obtain⟨i,hi,e⟩:=W6.mp hb
  have:=h i (Q3.mpr hi)
  rw[A0 hi,m5,e]at this
  exact this
 ·intro h i hi
  have hi:=Q3.mp hi
  rw[A0 hi,m5]
  exact h _ (Y3 hi)
theorem kz{X:Cx}(hc:X.calm=true):TQ X (.builtin "all") (Nu X.K):=by
 intro pins s σ H xs us Q I r h
 obtain⟨a,bs,rfl,hq,q⟩:=h
 obtain⟨u,rfl,ru⟩:=XX r
 cases ru
 obtain⟨its,rv,p,hz⟩:=I.list hq
 have hl:=p.isList
 have hlt:a < s.heap.objs.size:=by obtain⟨_,e,_⟩:=hl;exact M0 e
 refine call_all_walk (wpAny_pyIter_list hl ?_)
 refine ⟨s.heap.objs.size,[s.heap.objs.size,a],[s.heap.objs.size],its.toArray.size,_,_,λi=>(bs[i]?).getD true,rfl,Walks.list (A:=X.A.in1) (I.ok.hd hc) _ a (S0 hlt) its.toArray,
   ⟨⟨_,L0 _ rfl,rfl,rfl⟩,hl.push _⟩,λi v s' Q' E' hP hQ=>?_,λh' tk hk=>?_⟩
 ·obtain⟨b,e,rfl⟩:=uU rv i v (by simpa using hP)
  simp only[e,m5]at hQ
  exact wpAny_truthy_bool hQ
 ·have e:((S1 its.toArray.size).all λi=>(bs[i]?).getD true)=bs.all id:=by
   have hl2:=rv.length
   rw[p0]at hl2
   rw[P0,<- hl2];exact tV bs
  rw[e]
  refine ⟨.bl (bs.all id),H,I.kept (h':=h') (t':=tk) λb o eo=>hk b o (λhm=>?_) (n0 _ eo),rfl,q⟩
  rw[Y0.mp hm]at eo
  exact G3 _ (M0 eo)
noncomputable def Sq(k:Kd)(K:q0)(H:Hp)(a:Addr)(xs:List V):Prop:=match k with | .l=>SqL K H a xs | .t=>SqT K H a xs
theorem Inv.sq{X:Cx}{pins:List (Addr×Obj)}{σ:St}{H:Hp}{s:Shared}{k:Kd}{a:Addr}{xs:List V}(I:Inv X pins σ H s)(h:Sq k X.K H a xs):∃its:List Value,Vals xs its/\SqAt k s.heap a its.toArray/\xs.length<=sizeLine:=by
 cases k with
 | l=>obtain⟨its,r,p,z⟩:=I.list h;exact ⟨its,r,p.isList,z⟩
 | t=>obtain⟨its,r,p,z⟩:=I.tuple h;exact ⟨its,r,p,z⟩
theorem Inv.sq_inj{X:Cx}{pins:List (Addr×Obj)}{σ:St}{H:Hp}{s:Shared}{k:Kd}{a:Addr}{xs ys:List V}(I:Inv X pins σ H s)(h:Sq k X.K H a xs)(h':Sq k X.K H a ys):xs=ys:=by
 cases k with
 | l=>exact I.list_inj h h'
 | t=>exact I.tuple_inj h h'
noncomputable def Ou(K:q0)(k1:Kd)(k2:Kd)(l1 l2:Addr):It :=
 ⟨λi H=>∃ys1 x1 ys2 x2,Sq k1 K H l1 ys1/\Sq k2 K H l2 ys2/\ys1[i]?=some x1/\ys2[i]?=some x2,
  λi H x H'=>∃T x1 x2,H T=none/\x=.ref T/\H'=dX H T (.tup [x1,x2])/\(∀ys,Sq k1 K H l1 ys->ys[i]?=some x1)/\(∀ys,Sq k2 K H l2 ys->ys[i]?=some x2),
  λi H=>∃ys1 ys2,Sq k1 K H l1 ys1/\Sq k2 K H l2 ys2/\(ys1.length<=i\/ys2.length<=i)⟩
theorem uD{P:Program}{w:World}{K:q0}{es:List Expr}{kk:Nat}{pos:Pos}(k1:Kd)(k2:Kd)(z TI TO i1 i2 l1 l2:Addr)(D:ZAp2 z TI TO i1 i2 l1 l2):Turn P w K (.Tuple es kk pos) (Ou K k1 k2 l1 l2) [z,TI,TO,i1,i2] z
  (λi h=>IsZip h z TI TO .none/\VQ h TI (.ref i1) (.ref i2)/\(∃a1 a2,VQ h TO a1 a2)/\ItAt k1 h i1 l1 i/\ItAt k2 h i2 l2 i) where
 mem:=by simp
 obj:=λi h st b hb=>by
  obtain⟨hz,hTI,⟨a1,a2,hTO⟩,t1,t2⟩:=st
  have hb:b=z\/b=TI\/b=TO\/b=i1\/b=i2:=by simpa using hb
  rcases hb with rfl|rfl|rfl|rfl|rfl
  ·exact ⟨_,hz,λv e=>by cases e⟩
  ·exact ⟨_,hTI,λv e=>by cases e⟩
  ·exact ⟨_,hTO,λv e=>by cases e⟩
  ·exact t1.obj
  ·exact t2.obj
 keep:=λi h h' st k=>by
  obtain⟨hz,hTI,⟨a1,a2,hTO⟩,t1,t2⟩:=st
  exact ⟨k _ (by simp) _ hz,k _ (by simp) _ hTI,⟨a1,a2,k _ (by simp) _ hTO⟩,t1.at λo e=>k _ (by simp) _ e,t2.at λo e=>k _ (by simp) _ e⟩
 item:=by
  intro X hP hw hK hc i pins s σ H E I hf st hg
  subst hP hw hK
  obtain⟨hz,hTI,⟨a1,a2,hTO⟩,t1,t2⟩:=st
  obtain⟨ys1,x1,ys2,x2,q1,q2,e1,e2⟩:=hg
  obtain⟨its1,rv1,p1,z1⟩:=I.sq q1
  obtain⟨u1,hu1,ru1⟩:=rv1.get e1
  obtain⟨its2,rv2,p2,z2⟩:=I.sq q2
  obtain⟨u2,hu2,ru2⟩:=rv2.get e2
  refine AY D hz hTI hTO t1 t2 p1 p2 (show its1.toArray[i]?=some u1 by simpa using hu1) (show its2.toArray[i]?=some u2 by simpa using hu2) λh' b1 b2 c1 c2 b5 b6 b7=>?_
  have hTn:s.heap.objs.size≠z:=W2 (M0 hz)
  refine ⟨_,rfl,wpAny_letOwnedTupleGo_zip (s:={ s with heap:=h' }) b1 λh2 hz2 hs2=>?_⟩
  have kp:∀b o,b∉[z,TI,TO,i1,i2]->s.heap.get? b=some o->h2.get? b=some o:=λb o hb e=>by
   have hb:b≠z/\b≠TI/\b≠TO/\b≠i1/\b≠i2:=by simpa using hb
   obtain⟨g1,g2,g3,f1,f2⟩:=hb
   exact hs2.extBut _ _ g1 (b7 b o g1 g3 f1 f2 e)
  have hTI2:VQ h2 TI (.ref i1) (.ref i2):=hs2.extBut _ _ D.TIz (b7 TI _ D.TIz (m4 D.TOTI) (m4 D.i1TI) (m4 D.i2TI) hTI)
  have hT2:VQ h2 s.heap.objs.size u1 u2:=hs2.extBut _ _ hTn b5
  have hfr:H s.heap.objs.size=none:=I.hok.fresh (B0 _)
  have I2:Inv X pins σ (dX H s.heap.objs.size (.tup [x1,x2])) { s with heap:=h2 }:=by
   have nfp:∀b u,H b=some u->b∉[z,TI,TO,i1,i2]:=λb u e hb=>by have:=(hf b hb).1;rw[e]at this;cases this
   refine I.step (g':=s.gens) (d':=s.drawn) (ch:=[z,TI,TO,i1,i2]) (λb hb=>?_) (λb o _ _ hc' e _=>kp b o hc' e) (λb o _ _ hc' e _=>⟨o.slots,kp b o hc' e⟩) (λb o _ e n=>?_)
    (λb o hc' e=>⟨o,kp b o hc' e⟩) (λb xs e=>?_) (λb o xs e=>?_) (λb ps e=>⟨#[],?_⟩) (λm hm=>?_) (λb o e=>?_) I.bare
   ·obtain⟨f0,f1,f2,f3,f4,f5⟩:=hf b hb
    exact ⟨f3,f1,f4,f5⟩
   ·rw[oQ (S0 (M0 e))];exact n
   ·rw[oQ (pQ e hfr)];exact e
   ·rw[oQ (pQ e hfr)];exact e
   ·rw[oQ (pQ e hfr),e];simp
   ·obtain⟨o,es',ep,ho,r⟩:=hm
    exact ⟨o,es',ep,kp _ o (λhb=>(hf _ hb).2.1 rfl) ho,r⟩
   ·by_cases hb:b=s.heap.objs.size
    ·subst hb
     rw[JQ]at e
     cases e
     exact ⟨by show 2<=sizeLine;decide,[u1,u2],.cons ru1 (.cons ru2 .nil),_,hT2,rfl,_,rfl,rfl⟩
    ·rw[oQ hb]at e
     refine (I.hok b o e).stay (λc v hc' q=>kp c v ?_ q) (λc q=>by rw[oQ (pQ q hfr)];exact q) λc xs q=>by rw[oQ (pQ q hfr)];exact q
     rcases hc' with rfl|hc'
     ·exact nfp _ _ e
     ·exact nfp _ _ hc'
  refine ⟨.ref s.heap.objs.size,_,I2,rfl,⟨_,x1,x2,hfr,rfl,rfl,(λys hy=>by rw[I.sq_inj hy q1];exact e1),(λys hy=>by rw[I.sq_inj hy q2];exact e2)⟩,⟨hz2,hTI2,⟨u1,u2,hs2.extBut _ _ D.TOz b2⟩,c1.at λo e=>hs2.extBut _ _ D.i1z e,c2.at λo e=>hs2.extBut _ _ D.i2z e⟩,λb hb=>?_⟩
  rw[oQ ?_]
  ·exact (hf b hb).1
  ·intro e
   subst e
   have hb:s.heap.objs.size=z\/s.heap.objs.size=TI\/s.heap.objs.size=TO\/s.heap.objs.size=i1\/s.heap.objs.size=i2:=by simpa using hb
   rcases hb with e|e|e|e|e
   ·exact hTn e
   ·exact W2 (M0 hTI) e
   ·exact W2 (M0 hTO) e
   ·obtain⟨o,eo,_⟩:=t1.obj
    exact W2 (M0 eo) e
   ·obtain⟨o,eo,_⟩:=t2.obj
    exact W2 (M0 eo) e
 done:=by
  intro X hP hw hK hc i pins s σ H E I hf st hg
  subst hP hw hK
  obtain⟨hz,hTI,⟨a1,a2,hTO⟩,t1,t2⟩:=st
  obtain⟨ys1,ys2,q1,q2,hend⟩:=hg
  obtain⟨its1,rv1,p1,z1⟩:=I.sq q1
  have len1:=rv1.length
  obtain⟨its2,rv2,p2,z2⟩:=I.sq q2
  have len2:=rv2.length
  refine sW (I.ok.hd hc) D hz hTI hTO t1 t2 p1 p2 ?_ λh' kp=>⟨rfl,?_⟩
  ·rcases hend with h|h
   ·exact .inl (by simp;omega)
   ·exact .inr (by simp;omega)
  ·have nfp:∀b u,H b=some u->b∉[z,TI,TO,i1,i2]:=λb u e hb=>by have:=(hf b hb).1;rw[e]at this;cases this
   have kp':∀b o,b∉[z,TI,TO,i1,i2]->s.heap.get? b=some o->h'.get? b=some o:=λb o hb e=>by
    have hb:b≠z/\b≠TI/\b≠TO/\b≠i1/\b≠i2:=by simpa using hb
    obtain⟨g1,g2,g3,f1,f2⟩:=hb
    exact kp b o g1 g3 f1 f2 e
   refine I.step (g':=s.gens) (d':=s.drawn) (ch:=[z,TI,TO,i1,i2]) (λb hb=>?_) (λb o _ _ hc' e _=>kp' b o hc' e) (λb o _ _ hc' e _=>⟨o.slots,kp' b o hc' e⟩) (λb o _ e n=>n)
    (λb o hc' e=>⟨o,kp' b o hc' e⟩) (λb xs e=>e) (λb o xs e=>e) (λb ps e=>⟨#[],by rw[e];simp⟩) (λm hm=>?_) (λb o e=>?_) I.bare
   ·obtain⟨f0,f1,f2,f3,f4,f5⟩:=hf b hb
    exact ⟨f3,f1,f4,f5⟩
   ·obtain⟨o,es',ep,ho,r⟩:=hm
    exact ⟨o,es',ep,kp' _ o (λhb=>(hf _ hb).2.1 rfl) ho,r⟩
   ·refine (I.hok b o e).stay (λc v hc' q=>kp' c v ?_ q) (λ_ q=>q) λ_ _ q=>q
    rcases hc' with rfl|hc'
    ·exact nfp _ _ e
    ·exact nfp _ _ hc'
 self:=λ_ _ _ _ _ st h=>wpAny_pyIter_zip st.1 h
noncomputable def kF(K:q0)(ta:TA):TI:=λσ H R=>ta σ H λvs H1=>∃(k1:Kd) (l1:Addr) (ys1:List V) (k2:Kd) (l2:Addr) (ys2:List V),vs=[.ref l1,.ref l2]/\Sq k1 K H1 l1 ys1/\Sq k2 K H1 l2 ys2/\R (Ou K k1 k2 l1 l2) H1
theorem Ak{X:Cx}{es:List Expr}{kk:Nat}{tpos:Pos}{a b:Expr}{ta:TA}{p pos:Pos}(hg:Gl X "zip")(hm:X.mg "zip"=none)(ha:PA X [a,b] ta)(hs:starEach [a,b] X.env=(false,eval a X.env) :: starEach [b] X.env:=by rfl)(hpl:(backTo pos (starEach [b] X.env)).any (·.1)=false:=by rfl) :
  PI X (.Tuple es kk tpos) (.Call (.Name "zip" p) [a,b] [] pos) (kF X.K ta):=by
 intro pins s σ H R I h
 refine Call_ (wK I hg hm boot_zip (i5 (pX (ha pos pins s σ H _ I h) λus s1 ⟨vs,H1,I1,r1,q1⟩=>?_) hs hpl))
 obtain⟨k1,l1,ys1,k2,l2,ys2,e,q1,q2,q⟩:=q1
 subst e
 obtain rfl:us=[.ref l1,.ref l2]:=by
  cases r1 with|cons r rr=>cases r;cases rr with|cons r rr=>cases r;cases rr;rfl
 obtain⟨its1,rv1,p1,z1⟩:=I1.sq q1
 obtain⟨its2,rv2,p2,z2⟩:=I1.sq q2
 have lt:∀{k:Kd}{l:Addr}{xs:Array Value},SqAt k s1.heap l xs->l < s1.heap.objs.size:=λ{k l xs} p=>by
  cases k with
  | l=>obtain⟨o,e,_⟩:=p;exact M0 e
  | t=>obtain⟨o,e,_⟩:=p;exact M0 e
 refine callType_new F.called_zip (by decide) (F.typeCall_zip_2 _ _) (F.newCall_zip_2 _ _) (λobj=>F.args_object_init_3 obj _ _) F.entry_zip_new (iz k1 k2 l1 l2 its1.toArray its2.toArray) ⟨p1,p2,?_⟩
 have zI:(xk s1.heap k1 k2 l1 l2).objs.size=s1.heap.objs.size+2:=by simp[Y2]
 have zT:(yk s1.heap k1 k2 l1 l2).objs.size=s1.heap.objs.size+3:=by simp[Y2]
 have zO:(zk s1.heap k1 k2 l1 l2).objs.size=s1.heap.objs.size+4:=by simp[Y2]
 have gZ:(tU s1.heap k1 k2 l1 l2).get? (zk s1.heap k1 k2 l1 l2).objs.size=some _:=L0 _ rfl
 have gO:(tU s1.heap k1 k2 l1 l2).get? (yk s1.heap k1 k2 l1 l2).objs.size=some _:=n0 _ (L0 _ rfl)
 have gT:(tU s1.heap k1 k2 l1 l2).get? (xk s1.heap k1 k2 l1 l2).objs.size=some _:=n0 _ (n0 _ (L0 _ rfl))
 have g1:(tU s1.heap k1 k2 l1 l2).get? s1.heap.objs.size=some (jZ k1 l1):=n0 _ (n0 _ (n0 _ (n0 _ (L0 _ (by cases k1<;>rfl)))))
 have g2:(tU s1.heap k1 k2 l1 l2).get? (s1.heap.push (jZ k1 l1)).objs.size=some (jZ k2 l2):=n0 _ (n0 _ (n0 _ (L0 _ (by cases k2<;>rfl))))
 have zz2:(s1.heap.push (jZ k1 l1)).objs.size=s1.heap.objs.size+1:=by simp[Y2]
 rw[zO,zT,zI]at gZ
 rw[zI,zz2]at gT
 rw[zT]at gO
 rw[zz2]at g2
 show _/\_
 rw[zO]
 have kp:∀b o,s1.heap.get? b=some o->(tU s1.heap k1 k2 l1 l2).get? b=some o:=λb o e=>n0 _ (n0 _ (n0 _ (n0 _ (n0 _ (e)))))
 refine ⟨⟨_,gZ,rfl⟩,wpAny_pyIter_zip (s:={ s1 with heap:=tU s1.heap k1 k2 l1 l2 }) gZ ?_⟩
 refine ⟨_,[s1.heap.objs.size+4,s1.heap.objs.size+2,s1.heap.objs.size+3,s1.heap.objs.size,s1.heap.objs.size+1],_,_,H1,rfl,I1.kept (t':=s1.toks) kp,uD k1 k2 _ _ _ _ _ l1 l2 (UL _ l1 l2 (lt p1) (lt p2)),⟨gZ,gT,⟨_,_,gO⟩,ItAt.new k1 g1,ItAt.new k2 g2⟩,λb hb=>?_,q⟩
 have hb:s1.heap.objs.size<=b:=by
  have hb:b=s1.heap.objs.size+4\/b=s1.heap.objs.size+2\/b=s1.heap.objs.size+3\/b=s1.heap.objs.size\/b=s1.heap.objs.size+1:=by simpa using hb
  rcases hb with rfl|rfl|rfl|rfl|rfl
  all_goals first|exact X7 _ _|exact B0 _
 exact I1.fpOk hb (I1.hok.fresh hb)
noncomputable def lF:V->List V->Hp->VK->Prop:=λx vs H Q=>∃(l:Addr) (xs:List V) (i:Int) (y:V),x=.ref l/\vs=[.int i,y]/\H l=some (.lst xs)/\xs.length < sizeLine/\0<=i/\i<=xs.length/\Q .non (dX H l (.lst (xs.take i.toNat++y :: xs.drop i.toNat)))
theorem KW{X:Cx}:JC X "list.insert" lF:=by
 intro pins s σ H x vs v us Q I rx rv h
 obtain⟨l,xs,i,y,rfl,rfl,hH,hz,h0,h1,q⟩:=h
 cases rx
 obtain⟨u,w',rfl,ru,rw'⟩:=aJ rv
 obtain⟨t,rfl⟩:=ru
 obtain⟨z,its,n,r,hl,e⟩:=I.lstM hH
 have hs:xs.length<=16777216:=z
 have hf:¬(!Builtin.List.listFitsIndex i)=true:=by
  have:B7 i=true:=by
   unfold B7
   simp only[decide_eq_true_eq,Q4]
   constructor<;>omega
  rw[this];decide
 refine call_meets F.slot_list_insert ⟨_,e,rfl⟩ F.entry_list_insert (F.args_list_insert_3 _ _ _) (AutoSeq1.list_insert_list_int_val_1 l its.toArray n i t w' hf (by rw[P0];omega)) ⟨e,?_⟩
 refine ⟨.non,_,I.lset (its':=its.take i.toNat++w' :: its.drop i.toNat) hH e ?_ ((r.take _).append (.cons rw' (r.drop _))) ?_,rfl,q⟩
 ·have hi:¬i < 0:=by omega
  have hm:min i.toNat its.length=i.toNat:=by omega
  simp only[hi,if_false,P0,hm]
  apply Array.ext'
  simp[Q2]
  rw[Y1 (by simp)]
 ·rw[Q0,V1,E1,P1]
  omega
mutual
inductive Is (K:q0) (H:Hp):V->PyData->Prop
 | non:Is K H .non .none
 | bl (b):Is K H (.bl b) (.bool b)
 | int (i):Is K H (.int i) (.int i)
 | str (x):Is K H (.str x) (.str x)
 | lst {a xs ds}:SqL K H a xs->IsAll K H xs ds->Is K H (.ref a) (.list ds)
 | tup {a xs ds}:SqT K H a xs->IsAll K H xs ds->Is K H (.ref a) (.tuple ds)
inductive IsAll (K:q0) (H:Hp):List V->List PyData->Prop
 | nil:IsAll K H [] []
 | cons {x xs d ds}:Is K H x d->IsAll K H xs ds->IsAll K H (x :: xs) (d :: ds)
end
section
variable {X:Cx}{pins:List (Addr×Obj)}{σ:St}{H:Hp}{s:Shared}
mutual
theorem Is.reads(I:Inv X pins σ H s):∀{x:V}{d:PyData}{u:Value},Is X.K H x d->RelV x u->∃as,Reads s.heap u d as
 | _,_,_,.non,r=>by cases r;exact ⟨_,.none⟩
 | _,_,_,.bl b,r=>by cases r;exact ⟨_,.bool b⟩
 | _,_,_,.int i,r=>by obtain⟨t,rfl⟩:=r;exact ⟨_,.int i t⟩
 | _,_,_,.str x,r=>by obtain⟨t,rfl⟩:=r;exact ⟨_,.str x t⟩
 | _,_,_,.lst hq ha,r=>by
  cases r
  obtain⟨its,rv,⟨o,n,e,c,d,q⟩,z⟩:=I.list hq
  obtain⟨as,hr⟩:=IsAll.reads I ha rv
  exact ⟨_,.list e c q (by simpa using hr)⟩
 | _,_,_,.tup hq ha,r=>by
  cases r
  obtain⟨its,rv,⟨o,e,c,n,q⟩,z⟩:=I.tuple hq
  obtain⟨as,hr⟩:=IsAll.reads I ha rv
  exact ⟨_,.tuple e c q (by simpa using hr)⟩
theorem IsAll.reads(I:Inv X pins σ H s):∀{xs:List V}{ds:List PyData}{us:List Value},IsAll X.K H xs ds->Vals xs us->∃as,ReadsAll s.heap us ds as
 | _,_,_,.nil,.nil=>⟨_,.nil⟩
 | _,_,_,.cons h t,.cons r rr=>by
  obtain⟨as,a⟩:=Is.reads I h r
  obtain⟨bs,b⟩:=IsAll.reads I t rr
  exact ⟨_,.cons a b⟩
end
end
open PySem.SeqAt in
noncomputable def tW(K:q0)(neg:Bool):R2:=λx y H Q=>∃d e:PyData,Is K H x d/\Is K H y e/\shaped d=true/\shaped e=true/\noMix d e=true/\Q (.bl (if neg then !same d e else same d e)) H
theorem Pu{X:Cx}(hu:X.A.units+64 < cLine):OpR X (compareOp .Eq) (tW X.K false):=by
 intro pins s σ H x y v u Q I r1 r2 h
 obtain⟨d,e,i1,i2,s1,s2,nm,q⟩:=h
 obtain⟨as,a⟩:=i1.reads I r1
 obtain⟨bs,b⟩:=i2.reads I r2
 exact eq_dataH_same a b s1 s2 hu nm ⟨.bl _,H,I,rfl,q⟩
theorem Qu{X:Cx}(hu:X.A.units+64 < cLine):OpR X (compareOp .NotEq) (tW X.K true):=by
 intro pins s σ H x y v u Q I r1 r2 h
 obtain⟨d,e,i1,i2,s1,s2,nm,q⟩:=h
 obtain⟨as,a⟩:=i1.reads I r1
 obtain⟨bs,b⟩:=i2.reads I r2
 exact ne_dataH_same a b s1 s2 hu nm ⟨.bl _,H,I,rfl,q⟩
structure Cal(P:Program)(w:World)(K:q0)(mg:Str->Option Value)(base:Heap)(k:Nat)(x:Str)(ps:List Str)(sp:Sp):Prop where
 ex:∃(f:Addr) (fd:FuncData),FnOk P w K mg base WZ k f fd ps sp/\mg x=some (.ref f)/\n5 K (.ref f)=true/\Binds K fd ps []
theorem lz{X:Cx}{k:Nat}{x:Str}{ps:List Str}{sp:Sp}{p pos:Pos}{e:Expr}{es:List Expr}{t:TA}(C:Cal X.prog X.w X.K X.mg X.base k x ps sp)(hr:Room k X.A)(ha:PA X (e :: es) t)(hg:Gl X x:=by rfl)
  (hdb:(x==("__debug__":Str))=false:=by decide) (he:starEach (e :: es) X.env=(false,eval e X.env) :: starEach es X.env:=by rfl) (hpl:(backTo pos (starEach es X.env)).any (·.1)=false:=by rfl) :
  PE X (.Call (.Name x p) (e :: es) [] pos) (qY sp [] E0 t):=by
 obtain⟨f,fd,F,hm,hk,hb⟩:=C.ex
 exact ak F hr hg hm hk hb .nil NC ha hdb he hpl
noncomputable def uV(ds:Scope)(N:List Str)(fr:List Nat)(sc:Scope):Bool :=
 decide (sc.kind=.function)&&(sc.names.all λy=>!decide (y.2=.cell)||decide (sc.names.lookup y.1=some .cell))&&(sc.names.all λy=>!decide (y.2=.local)||decide (sc.names.lookup y.1=some .local)) &&
 (sc.names.all λy=>!decide (y.2=.free)||(decide (ds.names.lookup y.1=some .cell)||decide (ds.names.lookup y.1=some .free))) &&
 (fr.all λi=>match N[i]? with|some x=>decide (sc.names.lookup x=some .free)|none=>false)
theorem LW{X:Cx}{own:List Str}{fr:List Nat}{sc:Scope}(h:uV X.env.scope X.N fr sc=true):CompSc X own fr sc:=by
 unfold uV at h
 simp only[Q4,decide_eq_true_eq,Q6,Bool.or_eq_true,Bool.not_eq_true',decide_eq_false_iff_not]at h
 obtain⟨⟨⟨⟨h1,h2⟩,h3⟩,h4⟩,h5⟩:=h
 refine ⟨h1,λy hy e=>?_,λy hy e=>?_,λy hy e=>?_,λi hi=>?_⟩
 ·rcases h2 y hy with z|z
  ·exact absurd e z
  ·exact z
 ·rcases h3 y hy with z|z
  ·exact absurd e z
  ·exact z
 ·rcases h4 y hy with z|z
  ·exact absurd e z
  ·exact z
 ·have:=h5 i hi
  cases q:X.N[i]? with
  | none=>rw[q]at this;cases this
  | some x=>rw[q]at this;exact ⟨x,rfl,of_decide_eq_true this⟩
noncomputable def QC(J:It)(own:List Str)(fr:List Nat)(g:TG)(tc:TT)(te:TE)(σ:St)(H:Hp)(Q:VK):Prop :=
 ∃W:Nat->Nat->List V->St->Hp->Prop,(∃m,W 0 m [] (Ku own σ fr) H)/\∀i m ys τ H,W i m ys τ H ->
   (J.stop i H/\∀D,H D=none->Q (.ref D) (dX H D (.lst ys))) \/
   (J.go i H/\ys.length < sizeLine/\∃N:List V->St->Hp->Prop,(∀ys' τ' H',N ys' τ' H'->∃m',m' < m/\W (i+1) m' ys' τ' H')/\∀x H',J.yld i H x H'->g x τ H' λτ2 H2 =>
     tc τ2 H2 λb H3=>if b=true then te τ2 H3 λy H4=>N (ys++[y]) τ2 H4 else N ys τ2 H3)
noncomputable def BY(wi:TI)(own:List Str)(fr:List Nat)(g:TG)(tc:TT)(te:TE):TE:=λσ H Q=>wi σ H λJ H1=>QC J own fr g tc te σ H1 Q
theorem mz{X:Cx}{tg iter elt:Expr}{ifs:List Expr}{sc:Scope}{pos:Pos}{own:List Str}{fr:List Nat}{wi:TI}{g:TG}{tc:TT}{te:TE}(hc:X.calm=true)(S:CompSc X own fr sc)(hi:PI X tg iter wi)
  (hg:∀C s H ex,PG (EQ X own fr sc C s H ex) tg g) (hif:∀C s H ex,gz (EQ X own fr sc C s H ex) ifs tc) (he:∀C s H ex,PE (EQ X own fr sc C s H ex) elt te)
  (hs:∀x,foldedSetIterable iter X.env x=pure x:=by intro _;rfl):PE X (.ListComp elt [⟨tg,iter,ifs,0⟩] sc pos) (BY wi own fr g tc te):=uk hc S hi hg hif he hs
theorem vU{X:Cx}{tg iter elt:Expr}{ifs:List Expr}{sc:Scope}{pos spos py:Pos}{i:Nat}{y:Str}{own:List Str}{fr:List Nat}{wi:TI}{g:TG}{tc:TT}{te:TE}(hN:X.N.Nodup)(hy:X.N[i]?=some y)(hl:X.env.scope.names.lookup y=some .local)(hc:X.calm=true)(S:CompSc X own fr sc)(hi:PI X tg iter wi)
  (hg:∀C s H ex,PG (EQ X own fr sc C s H ex) tg g) (hif:∀C s H ex,gz (EQ X own fr sc C s H ex) ifs tc) (he:∀C s H ex,PE (EQ X own fr sc C s H ex) elt te)
  (hsw:swapsWith (.ListComp elt [⟨tg,iter,ifs,0⟩] sc pos) (some (.Name y py)) spos.line X.env=pure true:=by rfl)
  (hs:∀x,foldedSetIterable iter X.env x=pure x:=by intro _;rfl):PS X (.Assign [.Name y py] (.ListComp elt [⟨tg,iter,ifs,0⟩] sc pos) spos) (oY (BY wi own fr g tc te) (UJ i)):=SH hN hy hl hc S hi hg hif he hsw hs
section
variable {X:Cx}{K:q0}
theorem nz(h:X.K=K):IxR X (kU K):=by subst h;exact gk
theorem Bk(h:X.K=K):IxR X (lU K):=by subst h;exact yu
noncomputable def RC(K:q0):List V->Hp->VK->Prop:=λxs H Q=>∃(p:Addr) (ys:List V),xs=[.ref p]/\(SqL K H p ys\/SqT K H p ys)/\Q (.int ys.length) H
theorem kQ(h:X.K=K):TQ X (.builtin "len") (RC K):=by subst h;exact qV
noncomputable def mF(K:q0):List V->Hp->VK->Prop:=λxs H Q=>∃(p:Addr) (ys:List V),xs=[.ref p]/\(SqL K H p ys\/SqT K H p ys)/\∀l,H l=none->Q (.ref l) (dX H l (.lst ys))
theorem aX(h:X.K=K):TQ X (.type "list") (mF K):=by subst h;exact rV
noncomputable def wU(K:q0):List V->Hp->VK->Prop:=λxs H Q=>∃(p:Addr) (ys:List V),xs=[.ref p]/\((SqL K H p ys/\∀l,H l=none->Q (.ref l) (dX H l (.tup ys)))\/(SqT K H p ys/\Q (.ref p) H))
theorem oZ(h:X.K=K):TQ X (.type "tuple") (wU K):=by subst h;exact rW
theorem MW(h:X.K=K)(hc:X.calm=true):TQ X (.builtin "all") (Nu K):=by subst h;exact kz hc
theorem Ck(h:X.K=K)(hu:X.A.units+64 < cLine):OpR X (compareOp .Eq) (tW K false):=by subst h;exact Pu hu
theorem Dk(h:X.K=K)(hu:X.A.units+64 < cLine):OpR X (compareOp .NotEq) (tW K true):=by subst h;exact Qu hu
theorem oz{es:List Expr}{kk:Nat}{tpos:Pos}{a b:Expr}{ta:TA}{p pos:Pos}(h:X.K=K)(hg:Gl X "zip")(hm:X.mg "zip"=none)(ha:PA X [a,b] ta)(hs:starEach [a,b] X.env=(false,eval a X.env) :: starEach [b] X.env:=by rfl)(hpl:(backTo pos (starEach [b] X.env)).any (·.1)=false:=by rfl) :
  PI X (.Tuple es kk tpos) (.Call (.Name "zip" p) [a,b] [] pos) (kF K ta):=by subst h;exact Ak hg hm ha hs hpl
theorem Ek{es:List Expr}{k:Nat}{t:gq}{n:Nat}{pos:Pos}(h:X.K=K)(hc:X.calm=true)(hh:Rx X es t)(hn:(assignEach es X.env).length=n:=by rfl)(hst:(assignEach es X.env).findIdx? (·.1)=none:=by rfl):PG X (.Tuple es k pos) (Wx K n t):=by subst h;exact au hc hh hn hst
end
theorem qz{prog:Program}{w:World}{A:Around}{E:Value->Shared->Prop}{s:Shared}{t b:Addr}{ws:List Value}{Q:Value->Shared->Prop}(ht:IsTup s.heap t ([]:List Value).toArray)(hb:IsTup s.heap b ws.toArray)(h:Q (.ref b) s):wpAny (model prog w) A (binaryOp .Add (.ref t) (.ref b)) Q E s:=by
 obtain⟨⟨cls,dd,data,sl⟩,ho,hc,n,hd⟩:=id ht
 obtain⟨⟨cls2,dd2,data2,sl2⟩,ho2,hc2,n2,hd2⟩:=id hb
 simp only at hc hd hc2 hd2
 subst hc hd hc2 hd2
 exact concat_meets ⟨_,ho,rfl⟩ ⟨_,ho2,rfl⟩ noFill_tuple_add seq_tuple_add PySem.F.slot_tuple_add PySem.F.entry_tuple_add (PySem.F.args_tuple_add_2 _ _) (tuple_addW0 t b _ ws.toArray n n2 dd dd2 sl sl2 rfl) ⟨ho,ho2,h⟩
open PySem PySem.Spec
noncomputable abbrev WL(a C:Addr):HO:=.ext λh=>∃o vs,h.get? a=some o/\o.cls=.ref C/\o.data=.fields vs
end L2
namespace L3
open PySem PySem.Spec L2
noncomputable abbrev D:=PyData
noncomputable abbrev Fg:=q0
noncomputable def Sub(F H:Hp):Prop:=∀a o,F a=some o->H a=some o
theorem Sub.refl(H:Hp):Sub H H:=λ_ _ h=>h
theorem Sub.trans{A B C:Hp}(h:Sub A B)(k:Sub B C):Sub A C:=λa o e=>k a o (h a o e)
theorem Sub.new{F:Hp}{a:Addr}{o:HO}(h:F a=none):Sub F (dX F a o):=λb u e=>by rw[oQ (pQ e h)];exact e
theorem Sub.rd{F H:Hp}{a:Addr}{u:HO}(s:Sub F H):Rd F a u->Rd H a u
 | .inl h=>.inl (s _ _ h)
 | .inr ⟨o,h⟩=>.inr ⟨o,s _ _ h⟩
theorem Sub.sql{K:Fg}{F H:Hp}{a:Addr}{xs:List V}(s:Sub F H):SqL K F a xs->SqL K H a xs
 | .inl h=>.inl (s.rd h)
 | .inr h=>.inr h
noncomputable def OX:HQ->D
 | .inl i=>.int i
 | .inr x=>.str x
noncomputable abbrev uZ(ns:List Int):D:=.dict [(.none,.list (ns.map j0))]
noncomputable abbrev SC(C:Addr):D:=.dict [(.bool true,.int (C:Nat))]
mutual
inductive Da (K:Fg) (F:Hp):V->D->Prop
 | non:Da K F .non .none
 | bl (b):Da K F (.bl b) (.bool b)
 | int (i):Da K F (.int i) (.int i)
 | str (x):Da K F (.str x) (.str x)
 | lst {a xs ds}:F a=some (.lst xs)->DaAll K F xs ds->Da K F (.ref a) (.list ds)
 | tup {a xs ds}:F a=some (.tup xs)->DaAll K F xs ds->Da K F (.ref a) (.tuple ds)
 | dk {a kvs es}:Rd F a (.dK kvs)->DaKV K F kvs es->Da K F (.ref a) (.dict es)
 | dt {a kvs es}:Rd F a (.dT kvs)->DaKT K F kvs es->Da K F (.ref a) (.dict es)
 | scr {a ns}:SqL K F a (ns.map V.int)->Da K F (.ref a) (uZ ns)
 | exc {a C}:F a=some (WL a C)->Da K F (.ref a) (SC C)
inductive DaAll (K:Fg) (F:Hp):List V->List D->Prop
 | nil:DaAll K F [] []
 | cons {x xs d ds}:Da K F x d->DaAll K F xs ds->DaAll K F (x :: xs) (d :: ds)
inductive DaKV (K:Fg) (F:Hp):List (HQ×V)->List (D×D)->Prop
 | nil:DaKV K F [] []
 | cons {k v d kvs es}:Da K F v d->DaKV K F kvs es->DaKV K F ((k,v) :: kvs) ((OX k,d) :: es)
inductive DaKT (K:Fg) (F:Hp):List (List HQ×V)->List (D×D)->Prop
 | nil:DaKT K F [] []
 | cons {ks v d kvs es}:Da K F v d->DaKT K F kvs es->DaKT K F ((ks,v) :: kvs) ((.tuple (ks.map OX),d) :: es)
end
section
variable {K:Fg}{F F':Hp}
mutual
theorem Da.mono(s:Sub F F'):∀{v:V}{d:D},Da K F v d->Da K F' v d
 | _,_,.non=>.non
 | _,_,.bl b=>.bl b
 | _,_,.int i=>.int i
 | _,_,.str x=>.str x
 | _,_,.lst h t=>.lst (s _ _ h) (DaAll.mono s t)
 | _,_,.tup h t=>.tup (s _ _ h) (DaAll.mono s t)
 | _,_,.dk h t=>.dk (s.rd h) (DaKV.mono s t)
 | _,_,.dt h t=>.dt (s.rd h) (DaKT.mono s t)
 | _,_,.scr h=>.scr (s.sql h)
 | _,_,.exc h=>.exc (s _ _ h)
theorem DaAll.mono(s:Sub F F'):∀{xs:List V}{ds:List D},DaAll K F xs ds->DaAll K F' xs ds
 | _,_,.nil=>.nil
 | _,_,.cons h t=>.cons (Da.mono s h) (DaAll.mono s t)
theorem DaKV.mono(s:Sub F F'):∀{xs:List (HQ×V)}{ds:List (D×D)},DaKV K F xs ds->DaKV K F' xs ds
 | _,_,.nil=>.nil
 | _,_,.cons h t=>.cons (Da.mono s h) (DaKV.mono s t)
theorem DaKT.mono(s:Sub F F'):∀{xs:List (List HQ×V)}{ds:List (D×D)},DaKT K F xs ds->DaKT K F' xs ds
 | _,_,.nil=>.nil
 | _,_,.cons h t=>.cons (Da.mono s h) (DaKT.mono s t)
end
theorem DaAll.length:∀{xs:List V}{ds:List D},DaAll K F xs ds->xs.length=ds.length
 | _,_,.nil=>rfl
 | _,_,.cons _ t=>by simp[DaAll.length t]
theorem DaAll.get:∀{xs:List V}{ds:List D}{i:Nat}{d:D},DaAll K F xs ds->ds[i]?=some d->∃v,xs[i]?=some v/\Da K F v d
 | _,_,_,_,.nil,e=>by simp at e
 | _,_,0,_,.cons h _,e=>by simp at e;subst e;exact ⟨_,rfl,h⟩
 | _,_,i+1,_,.cons _ t,e=>by
  obtain⟨v,a,b⟩:=DaAll.get (i:=i) t (by simpa using e)
  exact ⟨v,by simpa using a,b⟩
theorem DaAll.append:∀{xs ys:List V}{ds es:List D},DaAll K F xs ds->DaAll K F ys es->DaAll K F (xs++ys) (ds++es)
 | _,_,_,_,.nil,s=>s
 | _,_,_,_,.cons h t,s=>.cons h (DaAll.append t s)
theorem DaAll.set{v:V}{d:D}(h:Da K F v d):∀{xs:List V}{ds:List D} (i:Nat),DaAll K F xs ds->DaAll K F (xs.set i v) (ds.set i d)
 | _,_,_,.nil=>.nil
 | _,_,0,.cons _ t=>.cons h t
 | _,_,i+1,.cons q t=>.cons q (DaAll.set h i t)
theorem DaAll.take:∀{xs:List V}{ds:List D} (n:Nat),DaAll K F xs ds->DaAll K F (xs.take n) (ds.take n)
 | _,_,0,_=>.nil
 | _,_,_+1,.nil=>.nil
 | _,_,n+1,.cons h t=>.cons h (DaAll.take n t)
theorem DaAll.drop:∀{xs:List V}{ds:List D} (n:Nat),DaAll K F xs ds->DaAll K F (xs.drop n) (ds.drop n)
 | _,_,0,r=>r
 | _,_,_+1,.nil=>.nil
 | _,_,n+1,.cons _ t=>DaAll.drop n t
theorem DaAll.dropLast:∀{xs:List V}{ds:List D},DaAll K F xs ds->DaAll K F xs.dropLast ds.dropLast
 | _,_,.nil=>.nil
 | _,_,.cons _ .nil=>.nil
 | _,_,.cons h (.cons h' t)=>.cons h (DaAll.dropLast (.cons h' t))
theorem DaAll.rep{xs:List V}{ds:List D}(h:DaAll K F xs ds):∀k:Nat,DaAll K F (O0 k xs).flatten (O0 k ds).flatten
 | 0=>.nil
 | k+1=>by rw[J3,J3,U4,U4];exact h.append (DaAll.rep h k)
theorem DaAll.ints:∀ns:List Int,DaAll K F (ns.map V.int) (ns.map j0)
 | []=>.nil
 | n :: ns=>.cons (.int n) (DaAll.ints ns)
end
inductive Sl where
 | fz (d:D)|ow (d:D)|io (d:D)
noncomputable def Sl.d:Sl->D
 | .fz d=>d
 | .ow d=>d
 | .io d=>d
noncomputable def fX:Sl->Bool
 | .fz _=>false
 | .ow _=>true
 | .io _=>true
noncomputable abbrev Ev:=List (Option Sl)
noncomputable def Own1(K:Fg)(F:Hp):HO->D->Prop
 | .lst xs,.list ds=>DaAll K F xs ds
 | .dK kvs,.dict es=>DaKV K F kvs es
 | .dT kvs,.dict es=>DaKT K F kvs es
 | _,_=>False
section
variable {K:Fg}{F F':Hp}{o:HO}{d:D}{a:Addr}
theorem Own1.mono(s:Sub F F')(h:Own1 K F o d):Own1 K F' o d:=by
 cases o<;>cases d<;>first|exact DaAll.mono s h|exact DaKV.mono s h|exact DaKT.mono s h|exact h.elim
theorem Own1.da(h:Own1 K F o d)(e:F a=some o):Da K F (.ref a) d:=by
 cases o<;>cases d<;>first|exact .lst e h|exact .dk (.inl e) h|exact .dt (.inl e) h|exact h.elim
end
structure Gh where
 H0:Hp
 F0:Hp
 io:Nat->Option Addr
structure Rel(K:Fg)(G:Gh)(F:Hp)(σ:St)(H:Hp)(ρ:Ev):Prop where
 len:σ.length=ρ.length
 sub:Sub F H
 sub0:Sub G.F0 F
 fn:∀a o,F a=some o->G.F0 a=some o\/G.H0 a=none
 keep:∀a o,G.H0 a=some o->(∀i,G.io i≠some a)->H a=some o
 fz:∀(i:Nat) (d:D),ρ[i]?=some (some (Sl.fz d))->∃v,σ[i]?=some (some v)/\Da K F v d
 ow:∀(i:Nat) (s:Sl),ρ[i]?=some (some s)->fX s=true->∃a o,σ[i]?=some (some (V.ref a))/\F a=none/\H a=some o/\Own1 K F o s.d
 new:∀(i:Nat) (d:D) (a:Addr),ρ[i]?=some (some (Sl.ow d))->σ[i]?=some (some (V.ref a))->G.H0 a=none
 io:∀(i:Nat) (a:Addr),G.io i=some a->∃d,ρ[i]?=some (some (Sl.io d))/\σ[i]?=some (some (V.ref a))
 ioi:∀(i:Nat) (d:D),ρ[i]?=some (some (Sl.io d))->∃a,G.io i=some a
 ap:∀(i j:Nat) (s t:Sl) (a:Addr),ρ[i]?=some (some s)->fX s=true->ρ[j]?=some (some t)->fX t=true->σ[i]?=some (some (V.ref a))->σ[j]?=some (some (V.ref a))->i=j
noncomputable def Res(K:Fg)(G:Gh)(F H:Hp)(σ:St)(ρ:Ev)(v:V):Sl->Prop
 | .fz d=>Da K F v d
 | .ow d=>∃a o,v=.ref a/\F a=none/\H a=some o/\Own1 K F o d/\G.H0 a=none/\∀(i:Nat) (s:Sl),ρ[i]?=some (some s)->fX s=true->σ[i]?≠some (some (V.ref a))
 | .io _=>False
section
variable {K:Fg}{G:Gh}{F F' H:Hp}{σ:St}{ρ:Ev}{a:Addr}{o:HO}{d:D}{v:V}{s:Sl}
theorem Rel.bound(R:Rel K G F σ H ρ){i:Nat}(h:ρ[i]?=some (some s)):∃v,σ[i]?=some (some v):=by
 cases s with
 | fz d=>obtain⟨v,e,_⟩:=R.fz i d h;exact ⟨v,e⟩
 | ow d=>obtain⟨a,o,e,_⟩:=R.ow i _ h rfl;exact ⟨_,e⟩
 | io d=>obtain⟨a,o,e,_⟩:=R.ow i _ h rfl;exact ⟨_,e⟩
theorem Rel.h0(R:Rel K G F σ H ρ)(h:H a=none):G.H0 a=none:=by
 cases e:G.H0 a with
 | none=>rfl
 | some o =>
  by_cases q:∃i,G.io i=some a
  ·obtain⟨i,q⟩:=q
   obtain⟨d,h1,h2⟩:=R.io i a q
   obtain⟨a',o',h3,_,h4,_⟩:=R.ow i _ h1 rfl
   rw[h2]at h3
   cases h3
   rw[h]at h4;cases h4
  ·have:=R.keep a o e λi z=>q ⟨i,z⟩
   rw[h]at this;cases this
theorem Rel.f0(R:Rel K G F σ H ρ)(h:H a=none):F a=none:=by
 cases e:F a with
 | none=>rfl
 | some o=>rw[R.sub a o e]at h;cases h
theorem Rel.laid(R:Rel K G F σ H ρ)(h:H a=none):Rel K G F σ (dX H a o) ρ where
 len:=R.len
 sub:=λb u e=>by rw[oQ (pQ (R.sub b u e) h)];exact R.sub b u e
 sub0:=R.sub0
 fn:=R.fn
 keep:=λb u e n=>by rw[oQ (pQ (R.keep b u e n) h)];exact R.keep b u e n
 fz:=R.fz
 ow:=λi s e w=>by
  obtain⟨a',o',h1,h2,h3,h4⟩:=R.ow i s e w
  exact ⟨a',o',h1,h2,by rw[oQ (pQ h3 h)];exact h3,h4⟩
 new:=R.new
 io:=R.io
 ioi:=R.ioi
 ap:=R.ap
theorem Rel.grow(R:Rel K G F σ H ρ)(h0:G.H0 a=none)(h:H a=some o)(hn:∀(i:Nat) (s:Sl),ρ[i]?=some (some s)->fX s=true->σ[i]?≠some (some (V.ref a))):Sub F (dX F a o)/\Rel K G (dX F a o) σ H ρ:=by
 have sb:Sub F (dX F a o):=λb u e=>by
  by_cases z:b=a
  ·subst z;rw[JQ,<- h];exact R.sub _ _ e
  ·rw[oQ z];exact e
 refine ⟨sb,R.len,λb u e=>?_,R.sub0.trans sb,λb u e=>?_,R.keep,λi d e=>?_,λi s e w=>?_,R.new,R.io,R.ioi,R.ap⟩
 ·by_cases z:b=a
  ·subst z;rw[JQ]at e;rw[h];exact e
  ·rw[oQ z]at e;exact R.sub _ _ e
 ·by_cases z:b=a
  ·subst z;exact .inr h0
  ·rw[oQ z]at e;exact R.fn _ _ e
 ·obtain⟨v,h1,h2⟩:=R.fz i d e
  exact ⟨v,h1,h2.mono sb⟩
 ·obtain⟨a',o',h1,h2,h3,h4⟩:=R.ow i s e w
  have z:a'≠a:=λz=>hn i s e w (by rw[h1,z])
  exact ⟨a',o',h1,by rw[oQ z];exact h2,h3,h4.mono sb⟩
theorem Res.frz(R:Rel K G F σ H ρ)(r:Res K G F H σ ρ v s):∃F',Sub F F'/\Rel K G F' σ H ρ/\Da K F' v s.d:=by
 cases s with
 | fz d=>exact ⟨F,Sub.refl _,R,r⟩
 | ow d =>
  obtain⟨a,o,rfl,h1,h2,h3,h4,h5⟩:=r
  obtain⟨sb,R'⟩:=R.grow h4 h2 h5
  exact ⟨_,sb,R',(h3.mono sb).da JQ⟩
 | io d=>exact r.elim
theorem Rel.newOw(R:Rel K G F σ H ρ)(h:H a=none)(w:Own1 K F o d):Rel K G F σ (dX H a o) ρ/\Res K G F (dX H a o) σ ρ (.ref a) (.ow d):=by
 refine ⟨R.laid h,a,o,rfl,R.f0 h,JQ,w,R.h0 h,λi s e w z=>?_⟩
 obtain⟨a',o',h1,h2,h3,h4⟩:=R.ow i s e w
 rw[z]at h1
 cases h1
 rw[h]at h3;cases h3
theorem Rel.newTup(R:Rel K G F σ H ρ){xs:List V}{ds:List D}(h:H a=none)(w:DaAll K F xs ds) :
  Sub F (dX F a (.tup xs))/\Rel K G (dX F a (.tup xs)) σ (dX H a (.tup xs)) ρ/\Da K (dX F a (.tup xs)) (.ref a) (.tuple ds):=by
 have R1:Rel K G F σ (dX H a (.tup xs)) ρ:=R.laid h
 obtain⟨sb,R2⟩:=R1.grow (a:=a) (o:=.tup xs) (R.h0 h) JQ λi s e w z=>by
  obtain⟨a',o',h1,h2,h3,h4⟩:=R.ow i s e w
  rw[z]at h1
  cases h1
  rw[h]at h3;cases h3
 exact ⟨sb,R2,.tup JQ (w.mono sb)⟩
noncomputable def Sl.put:Sl->D->Sl
 | .fz _,d=>.fz d
 | .ow _,d=>.ow d
 | .io _,d=>.io d
theorem sQ{α:Type}{l:List α}{i j:Nat}{x y:α}(h:(l.set i x)[j]?=some y):(j=i/\y=x)\/(j≠i/\l[j]?=some y):=by
 by_cases z:i=j
 ·subst z
  rw[List.getElem?_set]at h
  simp at h
  exact .inl ⟨rfl,h.2.symm⟩
 ·rw[L1 z]at h
  exact .inr ⟨λq=>z q.symm,h⟩
theorem OZ{α:Type}{l:List α}{i:Nat}{x:α}(h:i < l.length):(l.set i x)[i]?=some x:=by simp[h]
theorem wX{α:Type}{l:List α}{i:Nat}{x:α}(h:l[i]?=some x):i < l.length:=(O1.mp h).1
theorem Rel.change(R:Rel K G F σ H ρ){i:Nat}{o':HO}{d':D}(h:ρ[i]?=some (some s))(w:fX s=true)(ha:σ[i]?=some (some (V.ref a)))(q:Own1 K F o' d') :
  Rel K G F σ (dX H a o') (ρ.set i (some (s.put d'))):=by
 obtain⟨a0,o0,h1,h2,h3,h4⟩:=R.ow i s h w
 rw[ha]at h1;cases h1
 have sw:fX (s.put d')=true:=by cases s<;>first|rfl|cases w
 have hl:=wX h
 refine ⟨by rw[v4];exact R.len,λb u e=>?_,R.sub0,R.fn,λb u e n=>?_,λj d e=>?_,λj t e wt=>?_,λj d b e eb=>?_,λj b e=>?_,λj d e=>?_,λj k t u b e1 w1 e2 w2 e3 e4=>?_⟩
 ·have z:b≠a:=λz=>by subst z;rw[h2]at e;cases e
  rw[oQ z];exact R.sub _ _ e
 ·by_cases z:b=a
  ·subst z
   cases s with
   | fz d=>cases w
   | ow d=>rw[R.new i d b h ha]at e;cases e
   | io d =>
    obtain⟨a',e'⟩:=R.ioi i d h
    obtain⟨d',_,e2⟩:=R.io i a' e'
    rw[ha]at e2;cases e2
    exact absurd e' (n i)
  ·rw[oQ z];exact R.keep _ _ e n
 ·rcases sQ e with⟨rfl,z⟩|⟨n,z⟩
  ·cases s<;>simp[Sl.put,fX]at z w
  ·exact R.fz j d z
 ·rcases sQ e with⟨rfl,z⟩|⟨n,z⟩
  ·cases z
   exact ⟨a,o',ha,h2,JQ,by cases s<;>first|exact q|cases w⟩
  ·obtain⟨b,u,g1,g2,g3,g4⟩:=R.ow j t z wt
   have nb:b≠a:=λx=>n (R.ap j i t s a z wt h w (by rw[g1,x]) ha)
   exact ⟨b,u,g1,g2,by rw[oQ nb];exact g3,g4⟩
 ·rcases sQ e with⟨rfl,z⟩|⟨n,z⟩
  ·cases s with
   | fz d=>cases w
   | ow d0=>exact R.new j d0 b h eb
   | io d=>cases z
  ·exact R.new j d b z eb
 ·obtain⟨d,e1,e2⟩:=R.io j b e
  by_cases z:j=i
  ·subst z
   rw[h]at e1
   cases e1
   exact ⟨d',by rw[OZ hl];rfl,e2⟩
  ·exact ⟨d,by rw[L1 (m4 z)];exact e1,e2⟩
 ·rcases sQ e with⟨rfl,z⟩|⟨n,z⟩
  ·cases s with
   | fz d=>cases w
   | ow d0=>cases z
   | io d0=>exact R.ioi j d0 h
  ·exact R.ioi j d z
 ·have f:∀(j:Nat) (t:Sl),(ρ.set i (some (s.put d')))[j]?=some (some t)->fX t=true->∃t',ρ[j]?=some (some t')/\fX t'=true:=λj t e wt=>by
   rcases sQ e with⟨rfl,z⟩|⟨n,z⟩
   ·exact ⟨s,h,w⟩
   ·exact ⟨t,z,wt⟩
  obtain⟨t',e1',w1'⟩:=f j t e1 w1
  obtain⟨u',e2',w2'⟩:=f k u e2 w2
  exact R.ap j k t' u' b e1' w1' e2' w2' e3 e4
theorem Rel.forget(R:Rel K G F σ H ρ){i:Nat}(h:ρ[i]?=some (some (Sl.ow d))):Rel K G F σ H (ρ.set i none):=by
 refine ⟨by rw[v4];exact R.len,R.sub,R.sub0,R.fn,R.keep,λj d e=>?_,λj t e wt=>?_,λj d b e eb=>?_,λj b e=>?_,λj d e=>?_,λj k t u b e1 w1 e2 w2 e3 e4=>?_⟩
 ·rcases sQ e with⟨rfl,z⟩|⟨n,z⟩
  ·cases z
  ·exact R.fz j d z
 ·rcases sQ e with⟨rfl,z⟩|⟨n,z⟩
  ·cases z
  ·exact R.ow j t z wt
 ·rcases sQ e with⟨rfl,z⟩|⟨n,z⟩
  ·cases z
  ·exact R.new j d b z eb
 ·obtain⟨d',e1,e2⟩:=R.io j b e
  have n:i≠j:=λz=>by subst z;rw[h]at e1;cases e1
  exact ⟨d',by rw[L1 n];exact e1,e2⟩
 ·rcases sQ e with⟨rfl,z⟩|⟨n,z⟩
  ·cases z
  ·exact R.ioi j d z
 ·rcases sQ e1 with⟨rfl,z⟩|⟨n,z⟩
  ·cases z
  ·rcases sQ e2 with⟨rfl,z'⟩|⟨n',z'⟩
   ·cases z'
   ·exact R.ap j k t u b z w1 z' w2 e3 e4
theorem Rel.freeze(R:Rel K G F σ H ρ){i:Nat}(h:ρ[i]?=some (some (Sl.ow d))):∃F' v,Sub F F'/\Rel K G F' σ H (ρ.set i (some (Sl.fz d)))/\σ[i]?=some (some v)/\Da K F' v d:=by
 obtain⟨a,o,h1,h2,h3,h4⟩:=R.ow i _ h rfl
 have hl:=wX h
 have R1:=R.forget h
 have hn:∀(j:Nat) (s:Sl),(ρ.set i none)[j]?=some (some s)->fX s=true->σ[j]?≠some (some (V.ref a)):=λj s e w z=>by
  rcases sQ e with⟨rfl,q⟩|⟨n,q⟩
  ·cases q
  ·exact n (R.ap j i s _ a q w h rfl z h1)
 obtain⟨sb,R2⟩:=R1.grow (R.new i d a h h1) h3 hn
 have dd:Da K (dX F a o) (.ref a) d:=(h4.mono sb).da JQ
 refine ⟨_,_,sb,?_,h1,dd⟩
 refine ⟨by rw[v4];exact R.len,R2.sub,R2.sub0,R2.fn,R2.keep,λj d' e=>?_,λj t e wt=>?_,λj d b e eb=>?_,λj b e=>?_,λj d e=>?_,λj k t u b e1 w1 e2 w2 e3 e4=>?_⟩
 ·rcases sQ e with⟨rfl,z⟩|⟨n,z⟩
  ·cases z;exact ⟨_,h1,dd⟩
  ·exact R2.fz j d' (by rw[L1 (m4 n)];exact z)
 ·rcases sQ e with⟨rfl,z⟩|⟨n,z⟩
  ·cases z;cases wt
  ·exact R2.ow j t (by rw[L1 (m4 n)];exact z) wt
 ·rcases sQ e with⟨rfl,z⟩|⟨n,z⟩
  ·cases z
  ·exact R.new j d b z eb
 ·obtain⟨d',e1,e2⟩:=R.io j b e
  have n:i≠j:=λz=>by subst z;rw[h]at e1;cases e1
  exact ⟨d',by rw[L1 n];exact e1,e2⟩
 ·rcases sQ e with⟨rfl,z⟩|⟨n,z⟩
  ·cases z
  ·exact R.ioi j d z
 ·rcases sQ e1 with⟨rfl,z⟩|⟨n,z⟩
  ·cases z;cases w1
  ·rcases sQ e2 with⟨rfl,z'⟩|⟨n',z'⟩
   ·cases z';cases w2
   ·exact R.ap j k t u b z w1 z' w2 e3 e4
theorem Rel.forgetRes(R:Rel K G F σ H ρ){i:Nat}(h:ρ[i]?=some (some (Sl.ow d))):∃v,σ[i]?=some (some v)/\Res K G F H σ (ρ.set i none) v (.ow d):=by
 obtain⟨a,o,h1,h2,h3,h4⟩:=R.ow i _ h rfl
 refine ⟨_,h1,a,o,rfl,h2,h3,h4,R.new i d a h h1,λj s e w z=>?_⟩
 rcases sQ e with⟨rfl,q⟩|⟨n,q⟩
 ·cases q
 ·exact n (R.ap j i s _ a q w h rfl z h1)
noncomputable def tz(ρ:Ev)(i:Nat):Prop:=match ρ[i]? with
 | some (some (Sl.io _))=>False
 | some _=>True
 | none=>False
theorem Rel.asg(R:Rel K G F σ H ρ){i:Nat}(hi:tz ρ i)(r:Res K G F H σ ρ v s):Rel K G F (σ.set i (some v)) H (ρ.set i (some s)):=by
 have hl:i < ρ.length:=by
  cases e:ρ[i]? with
  | none=>unfold tz at hi;rw[e]at hi;exact hi.elim
  | some x=>exact wX e
 have hl':i < σ.length:=by rw[R.len];exact hl
 have ni:∀d,ρ[i]?≠some (some (Sl.io d)):=λd e=>by unfold tz at hi;rw[e]at hi;exact hi
 refine ⟨by rw[v4,v4];exact R.len,R.sub,R.sub0,R.fn,R.keep,λj d e=>?_,λj t e wt=>?_,λj d b e eb=>?_,λj b e=>?_,λj d e=>?_,λj k t u b e1 w1 e2 w2 e3 e4=>?_⟩
 ·rcases sQ e with⟨rfl,z⟩|⟨n,z⟩
  ·cases z;exact ⟨v,OZ hl',r⟩
  ·rw[L1 (m4 n)];exact R.fz j d z
 ·rcases sQ e with⟨rfl,z⟩|⟨n,z⟩
  ·cases z
   cases s with
   | fz d=>cases wt
   | ow d =>
    obtain⟨a,o,rfl,h1,h2,h3,_⟩:=r
    exact ⟨a,o,OZ hl',h1,h2,h3⟩
   | io d=>exact r.elim
  ·rw[L1 (m4 n)];exact R.ow j t z wt
 ·rcases sQ e with⟨rfl,z⟩|⟨n,z⟩
  ·cases z
   obtain⟨a,o,rfl,h1,h2,h3,h4,_⟩:=r
   rw[OZ hl']at eb;cases eb
   exact h4
  ·rw[L1 (m4 n)]at eb;exact R.new j d b z eb
 ·obtain⟨d,e1,e2⟩:=R.io j b e
  have n:i≠j:=λz=>by subst z;exact ni d e1
  exact ⟨d,by rw[L1 n];exact e1,by rw[L1 n];exact e2⟩
 ·rcases sQ e with⟨rfl,z⟩|⟨n,z⟩
  ·cases z;exact r.elim
  ·exact R.ioi j d z
 ·have own:∀(j:Nat) (t:Sl),j≠i->ρ[j]?=some (some t)->fX t=true->(σ.set i (some v))[j]?=some (some (V.ref b))->s.d=s.d->fX s=true->v=.ref b->False:=λj t n e w eb _ ws ev=>by
   subst ev
   cases s with
   | fz d=>cases ws
   | io d=>exact r
   | ow d =>
    obtain⟨a,o,z,h1,h2,h3,h4,h5⟩:=r
    cases z
    rw[L1 (m4 n)]at eb
    exact h5 j t e w eb
  rcases sQ e1 with⟨rfl,z⟩|⟨n,z⟩
  ·rcases sQ e2 with⟨rfl,z'⟩|⟨n',z'⟩
   ·rfl
   ·rw[OZ hl']at e3;cases e3
    cases z
    exact (own k u n' z' w2 e4 rfl w1 rfl).elim
  ·rcases sQ e2 with⟨rfl,z'⟩|⟨n',z'⟩
   ·rw[OZ hl']at e4;cases e4
    cases z'
    exact (own j t n z w1 e3 rfl w2 rfl).elim
   ·rw[L1 (m4 n)]at e3
    rw[L1 (m4 n')]at e4
    exact R.ap j k t u b z w1 z' w2 e3 e4
end
noncomputable abbrev TD:=Ev->(Sl->Ev->Prop)->Prop
noncomputable abbrev CK:=Ev->(Bool->Ev->Prop)->Prop
noncomputable abbrev ZV:=Sum Nat D
noncomputable abbrev AD:=Sum Nat TD
noncomputable def lift(K:Fg)(td:TD):TE:=λσ H Q=>∃(G:Gh) (F:Hp) (ρ:Ev) (Qd:Sl->Ev->Prop),Rel K G F σ H ρ/\td ρ Qd /\
 ∀v H' F' r ρ',Sub F F'->Rel K G F' σ H' ρ'->Res K G F' H' σ ρ' v r->Qd r ρ'->Q v H'
noncomputable def yQ(K:Fg)(tc:CK):TT:=λσ H Q=>∃(G:Gh) (F:Hp) (ρ:Ev) (Qd:Bool->Ev->Prop),Rel K G F σ H ρ/\tc ρ Qd /\
 ∀b H' F' ρ',Sub F F'->Rel K G F' σ H' ρ'->Qd b ρ'->Q b H'
noncomputable def qQ(K:Fg):AD->TE
 | .inl i=>DX i
 | .inr td=>lift K td
noncomputable def DQ:List TE->TA
 | []=>nu
 | t :: ts=>Jq t (DQ ts)
theorem DK{K:Fg}{a:AD}{σ:St}{H:Hp}{Q Q':VK}(m:∀v H,Q v H->Q' v H)(h:qQ K a σ H Q):qQ K a σ H Q':=by
 cases a with
 | inl i=>obtain⟨v,e,q⟩:=h;exact ⟨v,e,m _ _ q⟩
 | inr td =>
  obtain⟨G,F,ρ,Qd,R,w,k⟩:=h
  exact ⟨G,F,ρ,Qd,R,w,λv H' F' r ρ' s R' r' q=>m _ _ (k v H' F' r ρ' s R' r' q)⟩
theorem Fk{K:Fg}{a:AD}{σ:St}{H:Hp}{P:VK}(h:DQ ([a].map (qQ K)) σ H λvs H2=>∃x,vs=[x]/\P x H2):qQ K a σ H P :=
 DK (λv H q=>by obtain⟨x,e,q⟩:=q;cases e;exact q) h
theorem VH{K:Fg}{a b:AD}{σ:St}{H:Hp}{P:V->V->Hp->Prop}(h:DQ ([a,b].map (qQ K)) σ H λvs H2=>∃x y,vs=[x,y]/\P x y H2):qQ K a σ H λx H1=>qQ K b σ H1 λy H2=>P x y H2 :=
 DK (λv H q=>DK (λu H q=>by obtain⟨x,y,e,q⟩:=q;cases e;exact q) q) h
noncomputable def Gk(i:Nat):TD:=λρ Q=>match ρ[i]? with
 | some (some (.fz d))=>Q (.fz d) ρ
 | some (some (.ow d))=>Q (.fz d) (ρ.set i (some (.fz d)))
 | _=>False
noncomputable def dC(d:D):TD:=λρ Q=>Q (.fz d) ρ
section
variable {K:Fg}{σ:St}{H:Hp}{Q:VK}
theorem TC{i:Nat}(h:lift K (Gk i) σ H Q):DX i σ H Q:=by
 obtain⟨G,F,ρ,Qd,R,w,k⟩:=h
 unfold Gk at w
 split at w
 ·rename_i d e
  obtain⟨v,e1,h1⟩:=R.fz i d e
  exact ⟨v,e1,k v H F (.fz d) ρ (Sub.refl _) R h1 w⟩
 ·rename_i d e
  obtain⟨F',v,sb,R',e1,h1⟩:=R.freeze e
  exact ⟨v,e1,k v H F' (.fz d) _ sb R' h1 w⟩
 ·exact w.elim
theorem cN{v:V}{d:D}(hv:∀F,Da K F v d)(h:lift K (dC d) σ H Q):tC v σ H Q:=by
 obtain⟨G,F,ρ,Qd,R,w,k⟩:=h
 exact k v H F (.fz d) ρ (Sub.refl _) R (hv F) w
end
noncomputable def UC(K:Fg)(F:Hp)(σ:St)(v:V):ZV->Prop
 | .inl i=>σ[i]?=some (some v)
 | .inr d=>Da K F v d
inductive OpdsAt (K:Fg) (F:Hp) (σ:St):List V->List ZV->Prop
 | nil:OpdsAt K F σ [] []
 | cons {v x vs xs}:UC K F σ v x->OpdsAt K F σ vs xs->OpdsAt K F σ (v :: vs) (x :: xs)
noncomputable def AX:List AD->Ev->(List ZV->Ev->Prop)->Prop
 | [],ρ,Q=>Q [] ρ
 | .inl i :: as,ρ,Q=>match ρ[i]? with
  | some (some _)=>AX as ρ λxs ρ'=>Q (.inl i :: xs) ρ'
  | _=>False
 | .inr td :: as,ρ,Q=>td ρ λr ρ1=>AX as ρ1 λxs ρ2=>Q (.inr r.d :: xs) ρ2
theorem fJ{K:Fg}{G:Gh}{σ:St}:∀{as:List AD}{F H:Hp}{ρ:Ev}{Qd:List ZV->Ev->Prop}{Qv:List V->Hp->Prop},Rel K G F σ H ρ->AX as ρ Qd ->
  (∀vs H' F' xs ρ',Sub F F'->Rel K G F' σ H' ρ'->OpdsAt K F' σ vs xs->vs.length=as.length->Qd xs ρ'->Qv vs H')->DQ (as.map (qQ K)) σ H Qv
 | [],F,H,ρ,Qd,Qv,R,w,k=>k [] H F [] ρ (Sub.refl _) R .nil rfl w
 | .inl i :: as,F,H,ρ,Qd,Qv,R,w,k=>by
  unfold AX at w
  split at w
  ·rename_i s e
   obtain⟨v,ev⟩:=R.bound e
   refine ⟨v,ev,fJ (as:=as) R w λvs H' F' xs ρ' sb R' o hl q=>?_⟩
   exact k (v :: vs) H' F' (.inl i :: xs) ρ' sb R' (.cons ev o) (by simp[hl]) q
  ·exact w.elim
 | .inr td :: as,F,H,ρ,Qd,Qv,R,w,k=>by
  refine ⟨G,F,ρ,_,R,w,λv H1 F1 r ρ1 s1 R1 r1 w1=>?_⟩
  obtain⟨F2,s2,R2,d2⟩:=r1.frz R1
  refine fJ (as:=as) R2 w1 λvs H' F' xs ρ' sb R' o hl q=>?_
  exact k (v :: vs) H' F' (.inr r.d :: xs) ρ' (s1.trans (s2.trans sb)) R' (.cons (d2.mono sb) o) (by simp[hl]) q
theorem EX{K:Fg}{G:Gh}{σ:St}{as:List AD}{F H:Hp}{ρ:Ev}{Qd:List ZV->Ev->Prop}{Qv:List V->Hp->Prop}(R:Rel K G F σ H ρ)(w:AX as ρ Qd)
  (k:∀vs H' F' xs ρ',Sub F F'->Rel K G F' σ H' ρ'->OpdsAt K F' σ vs xs->Qd xs ρ'->Qv vs H'):DQ (as.map (qQ K)) σ H Qv:=fJ R w λvs H' F' xs ρ' s R' o _ q=>k vs H' F' xs ρ' s R' o q
noncomputable def At(K:Fg)(F H:Hp)(v:V)(d:D):Prop:=Da K F v d\/∃a o,v=.ref a/\F a=none/\H a=some o/\Own1 K F o d
inductive AtAll (K:Fg) (F H:Hp):List V->List D->Prop
 | nil:AtAll K F H [] []
 | cons {v d vs ds}:At K F H v d->AtAll K F H vs ds->AtAll K F H (v :: vs) (d :: ds)
noncomputable def gX(ρ:Ev):List ZV->(List D->Prop)->Prop
 | [],k=>k []
 | .inr d :: xs,k=>gX ρ xs λds=>k (d :: ds)
 | .inl i :: xs,k=>match ρ[i]? with
  | some (some s)=>gX ρ xs λds=>k (s.d :: ds)
  | _=>False
section
variable {K:Fg}{G:Gh}{F H:Hp}{σ:St}{ρ:Ev}
theorem Rel.at(R:Rel K G F σ H ρ){i:Nat}{s:Sl}{v:V}(e:ρ[i]?=some (some s))(ev:σ[i]?=some (some v)):At K F H v s.d:=by
 cases s with
 | fz d =>
  obtain⟨v',e1,h1⟩:=R.fz i d e
  rw[ev]at e1;cases e1
  exact .inl h1
 | ow d =>
  obtain⟨a,o,h1,h2,h3,h4⟩:=R.ow i _ e rfl
  rw[ev]at h1;cases h1
  exact .inr ⟨a,o,rfl,h2,h3,h4⟩
 | io d =>
  obtain⟨a,o,h1,h2,h3,h4⟩:=R.ow i _ e rfl
  rw[ev]at h1;cases h1
  exact .inr ⟨a,o,rfl,h2,h3,h4⟩
theorem gJ(R:Rel K G F σ H ρ){xs:List ZV}{vs:List V}{k:List D->Prop}(o:OpdsAt K F σ vs xs)(h:gX ρ xs k):∃ds,AtAll K F H vs ds/\k ds:=by
 induction o generalizing k with
 | nil=>exact ⟨[],.nil,h⟩
 | @cons v x vs xs o t ih =>
  cases x with
  | inr d =>
   obtain⟨ds,a,q⟩:=ih (k:=λds=>k (d :: ds)) h
   exact ⟨d :: ds,.cons (.inl o) a,q⟩
  | inl i =>
   unfold gX at h
   split at h
   ·rename_i s e
    obtain⟨ds,a,q⟩:=ih (k:=λds=>k (s.d :: ds)) h
    exact ⟨s.d :: ds,.cons (R.at e o) a,q⟩
   ·exact h.elim
end
noncomputable def fY(as:List AD)(f:List D->(Sl->Prop)->Prop):TD:=λρ Q=>AX as ρ λxs ρ1=>gX ρ1 xs λds=>f ds λr=>Q r ρ1
noncomputable def WQ(K:Fg)(r:List V->Hp->VK->Prop)(f:List D->(Sl->Prop)->Prop):Prop :=
 ∀(G:Gh) (F:Hp) (σ:St) (H:Hp) (ρ:Ev) (vs:List V) (ds:List D) (Q:VK) (Qd:Sl->Prop),Rel K G F σ H ρ->AtAll K F H vs ds->f ds Qd ->
  (∀v H' F' s,Sub F F'->Rel K G F' σ H' ρ->Res K G F' H' σ ρ v s->Qd s->Q v H')->r vs H Q
theorem CY{K:Fg}{as:List AD}{r:List V->Hp->VK->Prop}{f:List D->(Sl->Prop)->Prop}(ok:WQ K r f){σ:St}{H:Hp}{Q:VK}(h:lift K (fY as f) σ H Q):DQ (as.map (qQ K)) σ H λvs H1=>r vs H1 Q:=by
 obtain⟨G,F,ρ,Qd,R,w,k⟩:=h
 refine EX R w λvs H' F' xs ρ' sb R' o q=>?_
 obtain⟨ds,ha,q⟩:=gJ R' o q
 exact ok G F' σ H' ρ' vs ds Q _ R' ha q λv H2 F2 s s2 R2 r2 q2=>k v H2 F2 s ρ' (sb.trans s2) R2 r2 q2
noncomputable def o1(f:D->(Sl->Prop)->Prop):List D->(Sl->Prop)->Prop
 | [x],Q=>f x Q
 | _,_=>False
noncomputable def o2(f:D->D->(Sl->Prop)->Prop):List D->(Sl->Prop)->Prop
 | [x,y],Q=>f x y Q
 | _,_=>False
noncomputable def o3(f:D->D->D->(Sl->Prop)->Prop):List D->(Sl->Prop)->Prop
 | [x,y,z],Q=>f x y z Q
 | _,_=>False
noncomputable def WH(td:TD):CK:=λρ Q=>td ρ λr ρ'=>match r with
 | .fz (.bool b)=>Q b ρ'
 | _=>False
noncomputable def Ru(c:CK):CK:=λρ Q=>c ρ λb ρ'=>Q (!b) ρ'
noncomputable def Su(c e:CK):CK:=λρ Q=>c ρ λb ρ'=>if b=true then e ρ' Q else Q false ρ'
noncomputable def XL(c e:CK):CK:=λρ Q=>c ρ λb ρ'=>if b=true then Q true ρ' else e ρ' Q
noncomputable def vD:CK:=λρ Q=>Q true ρ
section
variable {K:Fg}{σ:St}{H:Hp}
theorem uz{td:TD}{t:TE}(ht:∀{σ H Q},lift K td σ H Q->t σ H Q){Q:Bool->Hp->Prop}(h:yQ K (WH td) σ H Q):iU t σ H Q:=by
 obtain⟨G,F,ρ,Qd,R,w,k⟩:=h
 refine ht ⟨G,F,ρ,_,R,w,λv H' F' r ρ' sb R' r' q=>?_⟩
 split at q
 ·rename_i b
  cases r'
  exact ⟨b,rfl,k b H' F' ρ' sb R' q⟩
 ·exact q.elim
theorem VC{c:CK}{Q:Bool->Hp->Prop}(h:yQ K (Ru c) σ H Q):Py (yQ K c) σ H Q:=by
 obtain⟨G,F,ρ,Qd,R,w,k⟩:=h
 exact ⟨G,F,ρ,_,R,w,λb H' F' ρ' sb R' q=>k (!b) H' F' ρ' sb R' q⟩
theorem WC{c e:CK}{Q:Bool->Hp->Prop}(h:yQ K (Su c e) σ H Q):Oy (yQ K c) (yQ K e) σ H Q:=by
 obtain⟨G,F,ρ,Qd,R,w,k⟩:=h
 refine ⟨G,F,ρ,_,R,w,λb H' F' ρ' sb R' q=>?_⟩
 cases b with
 | true=>exact ⟨G,F',ρ',Qd,R',q,λb H2 F2 ρ2 s2 R2 q2=>k b H2 F2 ρ2 (sb.trans s2) R2 q2⟩
 | false=>exact k false H' F' ρ' sb R' q
theorem YL{c e:CK}{Q:Bool->Hp->Prop}(h:yQ K (XL c e) σ H Q):LL (yQ K c) (yQ K e) σ H Q:=by
 obtain⟨G,F,ρ,Qd,R,w,k⟩:=h
 refine ⟨G,F,ρ,_,R,w,λb H' F' ρ' sb R' q=>?_⟩
 cases b with
 | true=>exact k true H' F' ρ' sb R' q
 | false=>exact ⟨G,F',ρ',Qd,R',q,λb H2 F2 ρ2 s2 R2 q2=>k b H2 F2 ρ2 (sb.trans s2) R2 q2⟩
theorem XC{Q:Bool->Hp->Prop}(h:yQ K vD σ H Q):PC σ H Q:=by
 obtain⟨G,F,ρ,Qd,R,w,k⟩:=h
 exact k true H F ρ (Sub.refl _) R w
end
noncomputable def vz(a b:TD):TD:=λρ Q=>a ρ λr ρ'=>match r with
 | .fz (.bool c)=>if c=true then b ρ' Q else Q (.fz (.bool false)) ρ'
 | _=>False
noncomputable def wz(a:TD):TD:=λρ Q=>a ρ λr ρ'=>match r with
 | .fz (.bool c)=>Q (.fz (.bool (!c))) ρ'
 | _=>False
noncomputable def ZL(c:CK)(a b:TD):TD:=λρ Q=>c ρ λk ρ'=>if k=true then a ρ' Q else b ρ' Q
section
variable {K:Fg}{σ:St}{H:Hp}{Q:VK}{a b:TD}{c:CK}
theorem Tu(h:lift K (vz a b) σ H Q):nq (lift K a) (lift K b) σ H Q:=by
 obtain⟨G,F,ρ,Qd,R,w,k⟩:=h
 refine ⟨G,F,ρ,_,R,w,λv H' F' r ρ' sb R' r' q=>?_⟩
 split at q
 ·rename_i c
  cases r'
  refine ⟨c,rfl,?_⟩
  cases c with
  | true=>exact ⟨G,F',ρ',Qd,R',q,λv H2 F2 r ρ2 s2 R2 r2 q2=>k v H2 F2 r ρ2 (sb.trans s2) R2 r2 q2⟩
  | false=>exact k _ H' F' (.fz (.bool false)) ρ' sb R' (Da.bl false) q
 ·exact q.elim
theorem Uu(h:lift K (wz a) σ H Q):oq (lift K a) σ H Q:=by
 obtain⟨G,F,ρ,Qd,R,w,k⟩:=h
 refine ⟨G,F,ρ,_,R,w,λv H' F' r ρ' sb R' r' q=>?_⟩
 split at q
 ·rename_i c
  cases r'
  exact ⟨c,rfl,k _ H' F' (.fz (.bool (!c))) ρ' sb R' (Da.bl (!c)) q⟩
 ·exact q.elim
theorem aM(h:lift K (ZL c a b) σ H Q):ML (yQ K c) (lift K a) (lift K b) σ H Q:=by
 obtain⟨G,F,ρ,Qd,R,w,k⟩:=h
 refine ⟨G,F,ρ,_,R,w,λx H' F' ρ' sb R' q=>?_⟩
 cases x with
 | true=>exact ⟨G,F',ρ',Qd,R',q,λv H2 F2 r ρ2 s2 R2 r2 q2=>k v H2 F2 r ρ2 (sb.trans s2) R2 r2 q2⟩
 | false=>exact ⟨G,F',ρ',Qd,R',q,λv H2 F2 r ρ2 s2 R2 r2 q2=>k v H2 F2 r ρ2 (sb.trans s2) R2 r2 q2⟩
end
theorem nF{ρ:Ev}{i:Nat}{P:Prop}(h:match ρ[i]? with|some (some (.io _))=>False|some _=>P|none=>False):tz ρ i/\P:=by
 unfold tz
 cases e:ρ[i]? with
 | none=>rw[e]at h;exact h.elim
 | some x =>
  rw[e]at h
  cases x with
  | none=>exact ⟨trivial,h⟩
  | some s=>cases s with
   | fz d=>exact ⟨trivial,h⟩
   | ow d=>exact ⟨trivial,h⟩
   | io d=>exact h.elim
structure DE where
 nx:Ev->Prop
 rt:Sl->Ev->Prop
 bk:Ev->Prop
 ct:Ev->Prop
noncomputable abbrev HJ:=DE->Ev->Prop
noncomputable def vQ(K:Fg)(ts:HJ):TS:=λD σ H=>∃(G:Gh) (F:Hp) (ρ:Ev) (E:DE),Rel K G F σ H ρ/\ts E ρ /\
 (∀σ' H' F' ρ',Sub F F'->Rel K G F' σ' H' ρ'->E.nx ρ'->D.nx σ' H') /\
 (∀v σ' H' F' r ρ',Sub F F'->Rel K G F' σ' H' ρ'->Res K G F' H' σ' ρ' v r->E.rt r ρ'->D.rt v H') /\
 (∀σ' H' F' ρ',Sub F F'->Rel K G F' σ' H' ρ'->E.bk ρ'->D.bk σ' H') /\
 (∀σ' H' F' ρ',Sub F F'->Rel K G F' σ' H' ρ'->E.ct ρ'->D.ct σ' H')
noncomputable def xz:HJ:=λE ρ=>E.nx ρ
noncomputable def yz(t u:HJ):HJ:=λE ρ=>t { nx:=λρ'=>u E ρ',rt:=E.rt,bk:=E.bk,ct:=E.ct } ρ
noncomputable def Vu(a:TD):HJ:=λE ρ=>a ρ E.rt
noncomputable def zz(a:TD):HJ:=λE ρ=>a ρ λ_ ρ'=>E.nx ρ'
noncomputable def Wu(c:CK)(t u:HJ):HJ:=λE ρ=>c ρ λb ρ'=>if b=true then t E ρ' else u E ρ'
noncomputable def wD(i:Nat)(a:TD):HJ:=λE ρ=>a ρ λr ρ'=>match ρ'[i]? with
 | some (some (.io _))=>False
 | some _=>E.nx (ρ'.set i (some r))
 | none=>False
section
variable {K:Fg}{σ:St}{H:Hp}{E:Ends}{t u:HJ}{a:TD}{c:CK}
theorem Xu(h:vQ K xz E σ H):tq E σ H:=by
 obtain⟨G,F,ρ,D,R,w,n,r,b,c⟩:=h
 exact n σ H F ρ (Sub.refl _) R w
theorem later{G:Gh}{F F1 H1:Hp}{ρ1:Ev}{σ1:St}{D:DE}{ts:HJ}(s:Sub F F1)(R:Rel K G F1 σ1 H1 ρ1)(w:ts D ρ1)
  (n:∀σ' H' F' ρ',Sub F F'->Rel K G F' σ' H' ρ'->D.nx ρ'->E.nx σ' H')
  (r:∀v σ' H' F' r ρ',Sub F F'->Rel K G F' σ' H' ρ'->Res K G F' H' σ' ρ' v r->D.rt r ρ'->E.rt v H')
  (b:∀σ' H' F' ρ',Sub F F'->Rel K G F' σ' H' ρ'->D.bk ρ'->E.bk σ' H')
  (c:∀σ' H' F' ρ',Sub F F'->Rel K G F' σ' H' ρ'->D.ct ρ'->E.ct σ' H'):vQ K ts E σ1 H1 :=
 ⟨G,F1,ρ1,D,R,w,λ_ _ _ _ s' R' q=>n _ _ _ _ (s.trans s') R' q,λ_ _ _ _ _ _ s' R' r' q=>r _ _ _ _ _ _ (s.trans s') R' r' q,
   λ_ _ _ _ s' R' q=>b _ _ _ _ (s.trans s') R' q,λ_ _ _ _ s' R' q=>c _ _ _ _ (s.trans s') R' q⟩
theorem YC(h:vQ K (yz t u) E σ H):Xy (vQ K t) (vQ K u) E σ H:=by
 obtain⟨G,F,ρ,D,R,w,n,r,b,c⟩:=h
 exact ⟨G,F,ρ,_,R,w,λσ' H' F' ρ' s R' q=>later s R' q n r b c,r,b,c⟩
theorem ZC(h:vQ K (Vu a) E σ H):wq (lift K a) E σ H:=by
 obtain⟨G,F,ρ,D,R,w,n,r,b,c⟩:=h
 exact ⟨G,F,ρ,_,R,w,λv H' F' x ρ' s R' r' q=>r v σ H' F' x ρ' s R' r' q⟩
theorem Yu(h:vQ K (zz a) E σ H):vq (lift K a) E σ H:=by
 obtain⟨G,F,ρ,D,R,w,n,r,b,c⟩:=h
 exact ⟨G,F,ρ,_,R,w,λv H' F' x ρ' s R' r' q=>n σ H' F' ρ' s R' q⟩
theorem aE(h:vQ K (Wu c t u) E σ H):Yy (yQ K c) (vQ K t) (vQ K u) E σ H:=by
 obtain⟨G,F,ρ,D,R,w,n,r,b,c⟩:=h
 refine ⟨G,F,ρ,_,R,w,λx H' F' ρ' s R' q=>?_⟩
 cases x with
 | true=>exact later s R' q n r b c
 | false=>exact later s R' q n r b c
theorem Mv{i:Nat}(h:vQ K (wD i a) E σ H):oY (lift K a) (UJ i) E σ H:=by
 obtain⟨G,F,ρ,D,R,w,n,r,b,c⟩:=h
 refine ⟨G,F,ρ,_,R,w,λv H' F' x ρ' s R' r' q=>?_⟩
 have hn:=nF q
 exact n _ H' F' _ s (R'.asg hn.1 r') hn.2
end
noncomputable def oF(i:Nat):HJ:=λE ρ=>match ρ[i]? with
 | some (some (.fz d))=>E.rt (.fz d) ρ
 | some (some (.ow d))=>E.rt (.ow d) (ρ.set i none)
 | _=>False
section
variable {K:Fg}{σ:St}{H:Hp}{E:Ends}
theorem Zu{i:Nat}(h:vQ K (oF i) E σ H):wq (DX i) E σ H:=by
 obtain⟨G,F,ρ,D,R,w,n,r,b,c⟩:=h
 unfold oF at w
 split at w
 ·rename_i d e
  obtain⟨v,e1,h1⟩:=R.fz i d e
  exact ⟨v,e1,r v σ H F (.fz d) ρ (Sub.refl _) R h1 w⟩
 ·rename_i d e
  obtain⟨v,e1,h1⟩:=R.forgetRes e
  exact ⟨v,e1,r v σ H F (.ow d) _ (Sub.refl _) (R.forget e) h1 w⟩
 ·exact w.elim
end
noncomputable abbrev HZ:=D->Ev->(Ev->Prop)->Prop
noncomputable def ZQ(K:Fg)(g:HZ):TG:=λv σ H Q=>∃(G:Gh) (F:Hp) (ρ:Ev) (d:D) (Qd:Ev->Prop),Rel K G F σ H ρ/\Da K F v d/\g d ρ Qd/\∀σ' ρ',Rel K G F σ' H ρ'->Qd ρ'->Q σ' H
noncomputable def t9(i:Nat):HZ:=λd ρ Q=>match ρ[i]? with
 | some (some (.io _))=>False
 | some _=>Q (ρ.set i (some (.fz d)))
 | none=>False
noncomputable def jL:List HZ->List D->Ev->(Ev->Prop)->Prop
 | [],[],ρ,Q=>Q ρ
 | g :: gs,d :: ds,ρ,Q=>g d ρ λρ'=>jL gs ds ρ' Q
 | _,_,_,_=>False
noncomputable def kL(gs:List HZ):HZ:=λd ρ Q=>match d with
 | .tuple ds=>ds.length=gs.length/\jL gs ds ρ Q
 | _=>False
noncomputable def WK:List TG->gq
 | []=>yC
 | g :: gs=>Gv g (WK gs)
section
variable {K:Fg}{σ:St}{H:Hp}{v:V}{Q:St->Hp->Prop}
theorem bM{i:Nat}(h:ZQ K (t9 i) v σ H Q):UJ i v σ H Q:=by
 obtain⟨G,F,ρ,d,Qd,R,hd,w,k⟩:=h
 obtain⟨hn,w⟩:=nF w
 exact k _ _ (R.asg (s:=.fz d) hn hd) w
theorem u9{G:Gh}{F:Hp}:∀{gs:List HZ}{ds:List D}{vs:List V}{σ:St}{ρ:Ev}{Qd:Ev->Prop},Rel K G F σ H ρ->DaAll K F vs ds->jL gs ds ρ Qd->(∀σ' ρ',Rel K G F σ' H ρ'->Qd ρ'->Q σ' H)->WK (gs.map (ZQ K)) vs σ H Q
 | [],[],_,σ,ρ,Qd,R,.nil,w,k=>⟨rfl,k σ ρ R w⟩
 | g :: gs,d :: ds,_,σ,ρ,Qd,R,.cons h t,w,k=>⟨_,_,rfl,G,F,ρ,d,_,R,h,w,λσ' ρ' R' w'=>u9 (gs:=gs) R' t w' k⟩
 | [],_ :: _,_,σ,ρ,Qd,R,_,w,k=>by exact w.elim
 | _ :: _,[],_,σ,ρ,Qd,R,_,w,k=>by exact w.elim
theorem cM{gs:List HZ}{n:Nat}(hn:gs.length=n)(h:ZQ K (kL gs) v σ H Q):Wx K n (WK (gs.map (ZQ K))) v σ H Q:=by
 obtain⟨G,F,ρ,d,Qd,R,hd,w,k⟩:=h
 unfold kL at w
 split at w
 ·cases hd with
  | tup e t=>exact ⟨_,_,rfl,SqT.of (R.sub _ _ e),by rw[t.length,w.1,hn],u9 R t w.2 k⟩
 ·exact w.elim
end
noncomputable def Walks(K:Fg)(J:It)(F:Hp)(ds:List D):Prop:=∀(i:Nat) (H F1:Hp),Sub F F1->Sub F1 H ->
 (∀d,ds[i]?=some d->J.go i H/\∀x H',J.yld i H x H'->∃F2,Sub F1 F2/\(∀b o,F2 b=some o->F1 b=some o\/H b=none)/\Sub F2 H'/\Sub H H'/\Da K F2 x d)/\(ds.length=i->J.stop i H)
noncomputable abbrev pF:=Ev->(List D->Ev->Prop)->Prop
noncomputable def FX(K:Fg)(ti:pF):TI:=λσ H R=>∃(G:Gh) (F:Hp) (ρ:Ev) (Qd:List D->Ev->Prop),Rel K G F σ H ρ/\ti ρ Qd /\
 ∀J H' F' ds ρ',Sub F F'->Rel K G F' σ H' ρ'->Walks K J F' ds->Qd ds ρ'->R J H'
theorem Rel.turn{K:Fg}{G:Gh}{F F2 H H':Hp}{σ:St}{ρ:Ev}(R:Rel K G F σ H ρ)(s:Sub F F2)(n:∀b o,F2 b=some o->F b=some o\/H b=none)(s2:Sub F2 H')(s3:Sub H H'):Rel K G F2 σ H' ρ where
 len:=R.len
 sub:=s2
 sub0:=R.sub0.trans s
 fn:=λb o e=>by
  rcases n b o e with q|q
  ·exact R.fn b o q
  ·exact .inr (R.h0 q)
 keep:=λa o e m=>s3 _ _ (R.keep a o e m)
 fz:=λi d e=>by
  obtain⟨v,h1,h2⟩:=R.fz i d e
  exact ⟨v,h1,h2.mono s⟩
 ow:=λi t e w=>by
  obtain⟨a,o,h1,h2,h3,h4⟩:=R.ow i t e w
  refine ⟨a,o,h1,?_,s3 _ _ h3,h4.mono s⟩
  cases q:F2 a with
  | none=>rfl
  | some u =>
   rcases n a u q with z|z
   ·rw[h2]at z;cases z
   ·rw[h3]at z;cases z
 new:=R.new
 io:=R.io
 ioi:=R.ioi
 ap:=R.ap
theorem xU{α:Type}{l:List α}{i:Nat}{x:α}(h:l[i]?=some x):l.drop i=x :: l.drop (i+1):=by
 obtain⟨hl,rfl⟩:=O1.mp h
 exact Z3 hl
noncomputable def XH(c:CK)(tb:HJ):HJ:=λE ρ=>∃W:Nat->Ev->Prop,(∃m,W m ρ)/\∀m ρ,W m ρ->c ρ λb ρ1=>if b=true then
 ∃N:Ev->Prop,(∀ρ',N ρ'->∃m',m' < m/\W m' ρ')/\tb { nx:=N,rt:=E.rt,bk:=E.nx,ct:=N } ρ1 else E.nx ρ1
theorem Hk{K:Fg}{c:CK}{tb:HJ}{E:Ends}{σ:St}{H:Hp}(h:vQ K (XH c tb) E σ H):BH (yQ K c) (vQ K tb) E σ H:=by
 obtain⟨G,F,ρ,D,R,⟨W,⟨m0,w0⟩,st⟩,n,r,b,c⟩:=h
 refine ⟨λm σ H=>∃F' ρ',Sub F F'/\Rel K G F' σ H ρ'/\W m ρ',⟨m0,F,ρ,Sub.refl _,R,w0⟩,?_⟩
 rintro m σ H ⟨F',ρ',s',R',w'⟩
 refine ⟨G,F',ρ',_,R',st m ρ' w',λx H1 F1 ρ1 s1 R1 q=>?_⟩
 cases x with
 | false=>exact n σ H1 F1 ρ1 (s'.trans s1) R1 q
 | true =>
  obtain⟨N,hN,q⟩:=q
  refine ⟨λσ2 H2=>∃F2 ρ2,Sub F F2/\Rel K G F2 σ2 H2 ρ2/\N ρ2,λσ2 H2 ⟨F2,ρ2,z1,z2,z3⟩=>?_,?_⟩
  ·obtain⟨m',hm,hw⟩:=hN ρ2 z3
   exact ⟨m',hm,F2,ρ2,z1,z2,hw⟩
  ·refine ⟨G,F1,ρ1,_,R1,q,λσ4 H4 F4 ρ4 s4 R4 q=>?_,λv σ4 H4 F4 x4 ρ4 s4 R4 r4 q=>?_,λσ4 H4 F4 ρ4 s4 R4 q=>?_,λσ4 H4 F4 ρ4 s4 R4 q=>?_⟩
   ·exact ⟨F4,ρ4,s'.trans (s1.trans s4),R4,q⟩
   ·exact r v σ4 H4 F4 x4 ρ4 (s'.trans (s1.trans s4)) R4 r4 q
   ·exact n σ4 H4 F4 ρ4 (s'.trans (s1.trans s4)) R4 q
   ·exact ⟨F4,ρ4,s'.trans (s1.trans s4),R4,q⟩
noncomputable def Ik:Option Sl->Option Sl
 | some (.ow d)=>some (.io d)
 | x=>x
noncomputable def DY(own:List Str)(fr:List Nat)(ρ:Ev):Ev:=own.map (λ_=>none)++fr.map λi=>Ik ((ρ[i]?).getD none)
noncomputable def Jk:Option Sl->Option (Option Sl)->Option Sl
 | some (.ow d),some (some (.io d'))=>some (.ow d')
 | some (.io d),some (some (.io d'))=>some (.io d')
 | x,_=>x
noncomputable def EK(fr:List Nat)(τ:Ev):Nat->Ev->Ev
 | _,[]=>[]
 | j,x :: ρ=>Jk x ((fr.zip τ).lookup j) :: EK fr τ (j+1) ρ
theorem EY(fr:List Nat)(τ:Ev):∀(ρ:Ev) (j i:Nat),(EK fr τ j ρ)[i]?=(ρ[i]?).map λx=>Jk x ((fr.zip τ).lookup (j+i))
 | [],j,i=>by simp[EK]
 | x :: ρ,j,0=>by simp[EK]
 | x :: ρ,j,i+1=>by
  have:=EY fr τ ρ (j+1) i
  simp only[EK,V4]
  rw[this,show j+1+i=j+(i+1) by omega]
theorem yU(fr:List Nat)(τ:Ev):∀(ρ:Ev) (j:Nat),(EK fr τ j ρ).length=ρ.length
 | [],_=>rfl
 | x :: ρ,j=>by simp[EK,yU fr τ ρ (j+1)]
theorem FY:∀{fr:List Nat}{τ:Ev}{k i:Nat}{x:Option Sl},fr.Nodup->fr[k]?=some i->τ[k]?=some x->(fr.zip τ).lookup i=some x
 | [],_,_,_,_,_,e,_=>by simp at e
 | j :: fr,[],_,_,_,_,_,e=>by simp at e
 | j :: fr,y :: τ,0,i,x,_,e,e'=>by simp at e e';subst e e';simp[E7]
 | j :: fr,y :: τ,k+1,i,x,nd,e,e'=>by
  have nd':=X4.mp nd
  simp at e e'
  have hm:i∈fr:=A1 e
  have ne:(i==j)=false:=by simp;intro z;subst z;exact nd'.1 hm
  simp[E7,ne]
  exact FY nd'.2 e e'
theorem iJ:∀{fr:List Nat}{τ:Ev}{i:Nat}{x:Option Sl},(fr.zip τ).lookup i=some x->∃k:Nat,fr[k]?=some i/\τ[k]?=some x
 | [],_,_,_,e=>by simp at e
 | j :: fr,[],_,_,e=>by simp at e
 | j :: fr,y :: τ,i,x,e=>by
  by_cases z:i=j
  ·subst z;simp[E7]at e;subst e;exact ⟨0,by simp,by simp⟩
  ·have ne:(i==j)=false:=by simp[z]
   simp[E7,ne]at e
   obtain⟨k,h1,h2⟩:=iJ e
   exact ⟨k+1,by simpa using h1,by simpa using h2⟩
noncomputable def Az(σ:St)(ρ:Ev)(i:Nat):Option Addr:=match ρ[i]?,σ[i]? with
 | some (some s),some (some (.ref a))=>if fX s=true then some a else none
 | _,_=>none
theorem xD{σ:St}{ρ:Ev}{i:Nat}{a:Addr}(h:Az σ ρ i=some a):∃s,ρ[i]?=some (some s)/\fX s=true/\σ[i]?=some (some (V.ref a)):=by
 unfold Az at h
 split at h
 ·rename_i s b e1 e2
  split at h
  ·rename_i w;cases h;exact ⟨s,e1,w,e2⟩
  ·cases h
 ·cases h
theorem Kk{σ:St}{ρ:Ev}{i:Nat}{a:Addr}{s:Sl}(h1:ρ[i]?=some (some s))(h2:fX s=true)(h3:σ[i]?=some (some (V.ref a))):Az σ ρ i=some a:=by
 unfold Az;rw[h1,h3];simp[h2]
noncomputable def Bx(own:List Str)(fr:List Nat)(F H:Hp)(σ:St)(ρ:Ev):Gh:=⟨H,F,λj=>if own.length<=j then (match fr[j - own.length]? with|some i=>Az σ ρ i|none=>none) else none⟩
theorem YH{own:List Str}{fr:List Nat}{F H:Hp}{σ:St}{ρ:Ev}{j:Nat}{a:Addr}(h:(Bx own fr F H σ ρ).io j=some a):∃k i s,j=own.length+k/\fr[k]?=some i/\ρ[i]?=some (some s)/\fX s=true/\σ[i]?=some (some (V.ref a)):=by
 unfold Bx at h
 simp only at h
 split at h
 ·rename_i hl
  split at h
  ·rename_i i e
   obtain⟨s,h1,h2,h3⟩:=xD h
   exact ⟨j - own.length,i,s,by omega,e,h1,h2,h3⟩
  ·cases h
 ·cases h
theorem ZH{own:List Str}{fr:List Nat}{F H:Hp}{σ:St}{ρ:Ev}{k i:Nat}{a:Addr}{s:Sl}(h0:fr[k]?=some i)(h1:ρ[i]?=some (some s))(h2:fX s=true)(h3:σ[i]?=some (some (V.ref a))):(Bx own fr F H σ ρ).io (own.length+k)=some a:=by
 unfold Bx
 simp only
 rw[if_pos (X7 _ _),S5,h0]
 exact Kk h1 h2 h3
theorem yD{α:Type}{own:List Str}{fr:List Nat}{f:Nat->Option α}{j:Nat}{x:α}(h:(own.map (λ_=>(none:Option α))++fr.map f)[j]?=some (some x)):∃k i,j=own.length+k/\fr[k]?=some i/\f i=some x:=by
 by_cases hl:j < own.length
 ·rw[P2 (by simpa using hl)]at h
  simp at h
 ·rw[T1 (by simpa using V7 hl)]at h
  simp at h
  obtain⟨i,h1,h2⟩:=h
  exact ⟨j - own.length,i,by omega,h1,h2⟩
theorem zU{α:Type}{own:List Str}{fr:List Nat}{f:Nat->Option α}{k i:Nat}(h:fr[k]?=some i):(own.map (λ_=>(none:Option α))++fr.map f)[own.length+k]?=some (f i):=by
 rw[T1 (by simp)]
 simp[h]
theorem Bz{x:Option Sl}{s:Sl}(h:Ik x=some s):∃s0,x=some s0/\((∃d,s0=.fz d/\s=.fz d)\/(fX s0=true/\s=.io s0.d)):=by
 cases x with
 | none=>cases h
 | some s0 =>
  cases s0 with
  | fz d=>cases h;exact ⟨_,rfl,.inl ⟨d,rfl,rfl⟩⟩
  | ow d=>cases h;exact ⟨_,rfl,.inr ⟨rfl,rfl⟩⟩
  | io d=>cases h;exact ⟨_,rfl,.inr ⟨rfl,rfl⟩⟩
theorem getD_some{α:Type}{o:Option (Option α)}{x:α}(h:o.getD none=some x):o=some (some x):=by
 cases o with
 | none=>cases h
 | some y=>simp at h;rw[h]
section
variable {K:Fg}{G:Gh}{F F' H H':Hp}{σ τ:St}{ρ μ:Ev}{own:List Str}{fr:List Nat}
theorem QX{j:Nat}{s:Sl}(h:(DY own fr ρ)[j]?=some (some s)):∃k i s0,j=own.length+k/\fr[k]?=some i/\ρ[i]?=some (some s0)/\((∃d,s0=.fz d/\s=.fz d)\/(fX s0=true/\s=.io s0.d)):=by
 obtain⟨k,i,h1,h2,h3⟩:=yD h
 obtain⟨s0,h4,h5⟩:=Bz h3
 exact ⟨k,i,s0,h1,h2,getD_some h4,h5⟩
theorem GY{k i:Nat}(h:fr[k]?=some i):(Ku own σ fr)[own.length+k]?=some ((σ[i]?).getD none):=zU (f:=λi=>(σ[i]?).getD none) h
theorem zD{k i:Nat}(h:fr[k]?=some i):(DY own fr ρ)[own.length+k]?=some (Ik ((ρ[i]?).getD none)):=zU (f:=λi=>Ik ((ρ[i]?).getD none)) h
theorem Cz{fr:List Nat}(nd:fr.Nodup){k l i:Nat}(a:fr[k]?=some i)(b:fr[l]?=some i):k=l:=by
 obtain⟨h1,e1⟩:=O1.mp a
 obtain⟨h2,e2⟩:=O1.mp b
 exact (List.getElem_inj nd).mp (e1.trans e2.symm)
theorem Rel.inner(R:Rel K G F σ H ρ)(nd:fr.Nodup):Rel K (Bx own fr F H σ ρ) F (Ku own σ fr) H (DY own fr ρ) where
 len:=by simp[Ku,oC,DY]
 sub:=R.sub
 sub0:=Sub.refl _
 fn:=λ_ _ e=>.inl e
 keep:=λ_ _ e _=>e
 fz:=λj d e=>by
  obtain⟨k,i,s0,rfl,h2,h3,h4⟩:=QX e
  rcases h4 with⟨d0,rfl,z⟩|⟨_,z⟩
  ·cases z
   obtain⟨v,e1,e2⟩:=R.fz i d h3
   exact ⟨v,by rw[GY h2,e1];rfl,e2⟩
  ·cases z
 ow:=λj s e w=>by
  obtain⟨k,i,s0,rfl,h2,h3,h4⟩:=QX e
  rcases h4 with⟨d0,rfl,z⟩|⟨w0,z⟩
  ·cases z;cases w
  ·cases z
   obtain⟨a,o,e1,e2,e3,e4⟩:=R.ow i s0 h3 w0
   exact ⟨a,o,by rw[GY h2,e1];rfl,e2,e3,e4⟩
 new:=λj d a e _=>by
  obtain⟨k,i,s0,rfl,h2,h3,h4⟩:=QX e
  rcases h4 with⟨d0,rfl,z⟩|⟨w0,z⟩<;>cases z
 io:=λj a e=>by
  obtain⟨k,i,s,rfl,h1,h2,h3,h4⟩:=YH e
  refine ⟨s.d,?_,by rw[GY h1,h4];rfl⟩
  rw[zD h1,h2]
  cases s<;>first|rfl|cases h3
 ioi:=λj d e=>by
  obtain⟨k,i,s0,rfl,h2,h3,h4⟩:=QX e
  rcases h4 with⟨d0,rfl,z⟩|⟨w0,z⟩
  ·cases z
  ·obtain⟨a,o,e1,_⟩:=R.ow i s0 h3 w0
   exact ⟨a,ZH h2 h3 w0 e1⟩
 ap:=λj l s t a e1 w1 e2 w2 e3 e4=>by
  obtain⟨k,i,s0,rfl,h2,h3,h4⟩:=QX e1
  obtain⟨k',i',s0',rfl,h2',h3',h4'⟩:=QX e2
  have p1:fX s0=true:=by
   rcases h4 with⟨d0,rfl,z⟩|⟨w0,z⟩
   ·subst z;cases w1
   ·exact w0
  have p2:fX s0'=true:=by
   rcases h4' with⟨d0,rfl,z⟩|⟨w0,z⟩
   ·subst z;cases w2
   ·exact w0
  rw[GY h2]at e3
  rw[GY h2']at e4
  have q:=R.ap i i' s0 s0' a h3 p1 h3' p2 (getD_some (Q1 e3)) (getD_some (Q1 e4))
  subst q
  rw[Cz nd h2 h2']
theorem jJ(R:Rel K G F σ H ρ)(R':Rel K (Bx own fr F H σ ρ) F' τ H' μ)(nd:fr.Nodup){i:Nat}{s:Sl}(h:(EK fr (μ.drop own.length) 0 ρ)[i]?=some (some s)) :
  ∃s0,ρ[i]?=some (some s0)/\((s=s0/\(fX s0=true->i∉fr))\/(fX s0=true/\∃k d',fr[k]?=some i/\μ[own.length+k]?=some (some (Sl.io d'))/\s=s0.put d')):=by
 rw[EY]at h
 cases e:ρ[i]? with
 | none=>rw[e]at h;cases h
 | some x =>
  rw[e]at h
  simp only[E5,j6]at h
  have h:=Q1 h
  cases x with
  | none=>simp[Jk]at h
  | some s0 =>
   refine ⟨s0,rfl,?_⟩
   by_cases w0:fX s0=true
   ·by_cases hm:i∈fr
    ·obtain⟨k,hk⟩:=List.mem_iff_getElem?.mp hm
     obtain⟨a,o,e1,_⟩:=R.ow i s0 e w0
     obtain⟨d',g1,g2⟩:=R'.io _ _ (ZH (own:=own) (F:=F) (H:=H) hk e w0 e1)
     have z:=FY (τ:=μ.drop own.length) nd hk (by rw[U8];exact g1)
     rw[z]at h
     refine .inr ⟨w0,k,d',hk,g1,?_⟩
     cases s0 with
     | fz d=>cases w0
     | ow d=>simp[Jk]at h;exact h.symm
     | io d=>simp[Jk]at h;exact h.symm
    ·refine .inl ⟨?_,λ_=>hm⟩
     have z:(fr.zip (μ.drop own.length)).lookup i=none:=by
      cases q:(fr.zip (μ.drop own.length)).lookup i with
      | none=>rfl
      | some y =>
       obtain⟨k,h1,_⟩:=iJ q
       exact (hm (A1 h1)).elim
     rw[z]at h
     cases s0 with
     | fz d=>cases w0
     | ow d=>simp[Jk]at h;exact h.symm
     | io d=>simp[Jk]at h;exact h.symm
   ·refine .inl ⟨?_,λz=>(w0 z).elim⟩
    cases s0 with
    | fz d=>simp[Jk]at h;exact h.symm
    | ow d=>exact (w0 rfl).elim
    | io d=>exact (w0 rfl).elim
theorem v9{d:D}(x:Option (Option Sl)):∃d',Jk (some (.io d)) x=some (.io d'):=by
 rcases x with _|_|(d'|d'|d')
 ·exact ⟨d,rfl⟩
 ·exact ⟨d,rfl⟩
 ·exact ⟨d,rfl⟩
 ·exact ⟨d,rfl⟩
 ·exact ⟨d',rfl⟩
theorem Rel.outer(R:Rel K G F σ H ρ)(R':Rel K (Bx own fr F H σ ρ) F' τ H' μ)(nd:fr.Nodup):Rel K G F' σ H' (EK fr (μ.drop own.length) 0 ρ):=by
 have sb:Sub F F':=R'.sub0
 have owns:∀{i:Nat}{s:Sl},(EK fr (μ.drop own.length) 0 ρ)[i]?=some (some s)->fX s=true->∃s0,ρ[i]?=some (some s0)/\fX s0=true:=λ{i s} e w=>by
  obtain⟨s0,h1,h2⟩:=jJ R R' nd e
  rcases h2 with⟨rfl,_⟩|⟨w0,_⟩
  ·exact ⟨s,h1,w⟩
  ·exact ⟨s0,h1,w0⟩
 refine ⟨by rw[yU];exact R.len,R'.sub,R.sub0.trans sb,λa o e=>?_,λa o e n=>?_,λi d e=>?_,λi s e w=>?_,λi d a e ea=>?_,λi a e=>?_,λi d e=>?_,λi j s t a e1 w1 e2 w2 e3 e4=>?_⟩
 ·rcases R'.fn a o e with q|q
  ·exact R.fn a o q
  ·exact .inr (R.h0 q)
 ·refine R'.keep a o (R.keep a o e n) λj z=>?_
  obtain⟨k,i,s,rfl,h1,h2,h3,h4⟩:=YH z
  cases s with
  | fz d=>cases h3
  | ow d=>rw[R.new i d a h2 h4]at e;cases e
  | io d =>
   obtain⟨a',g⟩:=R.ioi i d h2
   obtain⟨_,_,g2⟩:=R.io i a' g
   rw[h4]at g2;cases g2
   exact n i g
 ·obtain⟨s0,h1,h2⟩:=jJ R R' nd e
  rcases h2 with⟨rfl,_⟩|⟨w0,k,d',_,_,z⟩
  ·obtain⟨v,g1,g2⟩:=R.fz i d h1
   exact ⟨v,g1,g2.mono sb⟩
  ·cases s0<;>simp[Sl.put,fX]at z w0
 ·obtain⟨s0,h1,h2⟩:=jJ R R' nd e
  rcases h2 with⟨rfl,hm⟩|⟨w0,k,d',hk,hd,rfl⟩
  ·obtain⟨a,o,g1,g2,g3,g4⟩:=R.ow i s h1 w
   have nio:∀j,(Bx own fr F H σ ρ).io j≠some a:=λj z=>by
    obtain⟨k,i',s',rfl,q1,q2,q3,q4⟩:=YH z
    have:=R.ap i i' s s' a h1 w q2 q3 g1 q4
    subst this
    exact hm w (A1 q1)
   refine ⟨a,o,g1,?_,R'.keep a o g3 nio,g4.mono sb⟩
   cases q:F' a with
   | none=>rfl
   | some u =>
    rcases R'.fn a u q with z|z
    ·have z:F a=some u:=z
     rw[g2]at z;cases z
    ·have z:H a=none:=z
     rw[g3]at z;cases z
  ·obtain⟨a,o,g1,g2,g3,g4⟩:=R.ow i s0 h1 w0
   obtain⟨d2,q1,q2⟩:=R'.io _ _ (ZH (own:=own) (F:=F) (H:=H) hk h1 w0 g1)
   obtain⟨a',o',p1,p2,p3,p4⟩:=R'.ow _ _ hd rfl
   rw[q2]at p1;cases p1
   exact ⟨a,o',g1,p2,p3,by cases s0<;>first|exact p4|cases w0⟩
 ·obtain⟨s0,h1,h2⟩:=jJ R R' nd e
  rcases h2 with⟨rfl,_⟩|⟨w0,k,d',_,_,z⟩
  ·exact R.new i d a h1 ea
  ·cases s0 with
   | fz d=>cases w0
   | ow d0=>exact R.new i d0 a h1 ea
   | io d0=>cases z
 ·obtain⟨d,h1,h2⟩:=R.io i a e
  obtain⟨d',hd⟩:=v9 (d:=d) ((fr.zip (μ.drop own.length)).lookup i)
  exact ⟨d',by rw[EY,h1];simp only[E5,j6];rw[hd],h2⟩
 ·obtain⟨s0,h1,h2⟩:=jJ R R' nd e
  rcases h2 with⟨rfl,_⟩|⟨w0,k,d',_,_,z⟩
  ·exact R.ioi i d h1
  ·cases s0 with
   | fz d=>cases w0
   | ow d0=>cases z
   | io d0=>exact R.ioi i d0 h1
 ·obtain⟨s0,g1,g2⟩:=owns e1 w1
  obtain⟨t0,g3,g4⟩:=owns e2 w2
  exact R.ap i j s0 t0 a g1 g2 g3 g4 e3 e4
end
noncomputable abbrev Con:=List Sl->(Sl->Ev->Prop)->Prop
noncomputable def lQ(K:Fg)(con:Con):Sp:=λvs H Q _=>∃(G:Gh) (F:Hp) (args:List Sl) (Qd:Sl->Ev->Prop),Rel K G F (vs.map some) H (args.map some)/\con args Qd /\
 ∀v H' F' r ρ',Sub F F'->Rel K G F' (vs.map some) H' ρ'->Res K G F' H' (vs.map some) ρ' v r->Qd r ρ'->Q v H'
mutual
noncomputable def noMut:D->Bool
 | .none=>true
 | .bool _=>true
 | .int _=>true
 | .str _=>true
 | .tuple xs=>noMutAll xs
 | .list _=>false
 | .dict _=>false
noncomputable def noMutAll:List D->Bool
 | []=>true
 | x :: xs=>noMut x&&noMutAll xs
end
section
variable {K:Fg}{F F':Hp}
mutual
theorem Da.noMut(h:∀b xs,F b=some (.tup xs)->F' b=some (.tup xs)):∀{v:V}{d:D},Da K F v d->noMut d=true->Da K F' v d
 | _,_,.non,_=>.non
 | _,_,.bl b,_=>.bl b
 | _,_,.int i,_=>.int i
 | _,_,.str x,_=>.str x
 | _,_,.lst _ _,z=>by simp[L3.noMut]at z
 | _,_,.tup e t,z=>.tup (h _ _ e) (DaAll.noMut h t (by simpa [L3.noMut]using z))
 | _,_,.dk _ _,z=>by simp[L3.noMut]at z
 | _,_,.dt _ _,z=>by simp[L3.noMut]at z
 | _,_,.scr _,z=>by simp[L3.noMut,uZ]at z
theorem DaAll.noMut(h:∀b xs,F b=some (.tup xs)->F' b=some (.tup xs)):∀{xs:List V}{ds:List D},DaAll K F xs ds->noMutAll ds=true->DaAll K F' xs ds
 | _,_,.nil,_=>.nil
 | _,_,.cons a t,z=>by
  simp[noMutAll]at z
  exact .cons (Da.noMut h a z.1) (DaAll.noMut h t z.2)
end
end
noncomputable def mX(ρ:Ev):List ZV->Bool
 | []=>false
 | .inr _ :: xs=>mX ρ xs
 | .inl i :: xs=>(match ρ[i]? with|some (some s)=>fX s|_=>false)||mX ρ xs
noncomputable def Dz(con:Con)(as:List AD):TD:=λρ Q=>AX as ρ λxs ρ1=>gX ρ1 xs λds=>con (ds.map Sl.fz) λr _=>match mX ρ1 xs with
 | false=>Q r ρ1
 | true=>noMut r.d=true/\Q r ρ1
noncomputable def Ez(con:Con)(i:Nat)(xs:List ZV)(ρ1:Ev)(Q:Sl->Ev->Prop):Prop:=match ρ1[i]? with
 | some (some s)=>match fX s,mX ρ1 xs with
  | true,false=>gX ρ1 xs λds=>con (.io s.d :: ds.map Sl.fz) λr outs=>match outs with
   | some (.io d') :: _=>Q r (ρ1.set i (some (s.put d')))
   | _=>False
  | _,_=>False
 | _=>False
noncomputable def vV(con:Con)(i:Nat)(as:List AD):TD:=λρ Q=>AX (.inl i :: as) ρ λxs ρ1=>Ez con i xs.tail ρ1 Q
noncomputable def LentA(σ:St)(ρ:Ev)(xs:List ZV)(a:Addr):Prop:=∃(i:Nat) (s:Sl),Sum.inl i∈xs/\ρ[i]?=some (some s)/\fX s=true/\σ[i]?=some (some (V.ref a))
theorem IJ{σ:St}{ρ:Ev}:∀{xs:List ZV}{a:Addr},LentA σ ρ xs a->mX ρ xs=true
 | [],a,⟨i,s,h,_⟩=>by cases h
 | .inr d :: xs,a,⟨i,s,h,h1,h2,h3⟩=>by
  rcases K0.mp h with h|h
  ·cases h
  ·exact IJ (xs:=xs) ⟨i,s,h,h1,h2,h3⟩
 | .inl j :: xs,a,⟨i,s,h,h1,h2,h3⟩=>by
  unfold mX
  rcases K0.mp h with h|h
  ·cases h;rw[h1];simp[h2]
  ·rw[IJ (xs:=xs) ⟨i,s,h,h1,h2,h3⟩];simp
open Classical in
noncomputable def kJ(σ:St)(ρ:Ev)(xs:List ZV)(F H:Hp):Hp:=λb=>if LentA σ ρ xs b then H b else F b
open Classical in
noncomputable def GX(σ:St)(ρ:Ev)(xs:List ZV)(F:Hp):Hp:=λb=>if LentA σ ρ xs b then none else F b
section
variable {K:Fg}{G:Gh}{F F' H H':Hp}{σ:St}{ρ:Ev}{xs:List ZV}
theorem eK{b:Addr}(h:¬LentA σ ρ xs b):kJ σ ρ xs F H b=F b:=by unfold kJ;rw[if_neg h]
theorem gY{b:Addr}(h:LentA σ ρ xs b):kJ σ ρ xs F H b=H b:=by unfold kJ;rw[if_pos h]
theorem RX{b:Addr}(h:¬LentA σ ρ xs b):GX σ ρ xs F b=F b:=by unfold GX;rw[if_neg h]
theorem BD{b:Addr}(h:LentA σ ρ xs b):GX σ ρ xs F b=none:=by unfold GX;rw[if_pos h]
theorem LentA.own(R:Rel K G F σ H ρ){b:Addr}(h:LentA σ ρ xs b):∃(i:Nat) (s:Sl) (o:HO),ρ[i]?=some (some s)/\fX s=true/\σ[i]?=some (some (V.ref b))/\F b=none/\H b=some o/\Own1 K F o s.d:=by
 obtain⟨i,s,_,h1,h2,h3⟩:=h
 obtain⟨a,o,g1,g2,g3,g4⟩:=R.ow i s h1 h2
 rw[h3]at g1;cases g1
 exact ⟨i,s,o,h1,h2,h3,g2,g3,g4⟩
theorem fK(R:Rel K G F σ H ρ):Sub F (kJ σ ρ xs F H):=λb o e=>by
 have n:¬LentA σ ρ xs b:=λz=>by
  obtain⟨_,_,_,_,_,_,h,_⟩:=z.own R
  rw[h]at e;cases e
 rw[eK n];exact e
theorem qF(R:Rel K G F σ H ρ):Sub (kJ σ ρ xs F H) H:=λb o e=>by
 by_cases z:LentA σ ρ xs b
 ·rw[gY z]at e;exact e
 ·rw[eK z]at e;exact R.sub _ _ e
theorem HY(R:Rel K G F σ H ρ){ys:List ZV}{vs:List V}{k:List D->Prop}(m:∀y∈ys,y∈xs)(o:OpdsAt K F σ vs ys)(h:gX ρ ys k):∃ds,DaAll K (kJ σ ρ xs F H) vs ds/\k ds:=by
 induction o generalizing k with
 | nil=>exact ⟨[],.nil,h⟩
 | @cons v x vs ys o t ih =>
  cases x with
  | inr d =>
   obtain⟨ds,a,q⟩:=ih (k:=λds=>k (d :: ds)) (λy hy=>m y (J0 _ hy)) h
   exact ⟨d :: ds,.cons (Da.mono (fK R) o) a,q⟩
  | inl i =>
   unfold gX at h
   split at h
   ·rename_i s e
    obtain⟨ds,a,q⟩:=ih (k:=λds=>k (s.d :: ds)) (λy hy=>m y (J0 _ hy)) h
    refine ⟨s.d :: ds,.cons ?_ a,q⟩
    have o:σ[i]?=some (some v):=o
    have own:fX s=true->Da K (kJ σ ρ xs F H) v s.d:=λw=>by
     obtain⟨b,u,h1,h2,h3,h4⟩:=R.ow i s e w
     rw[o]at h1;cases h1
     have l:LentA σ ρ xs b:=⟨i,s,m _ G0,e,w,o⟩
     exact (h4.mono (fK R)).da (by rw[gY l];exact h3)
    cases s with
    | fz d =>
     obtain⟨v,e1,e2⟩:=R.fz i d e
     rw[o]at e1;cases e1
     exact e2.mono (fK R)
    | ow d=>exact own rfl
    | io d=>exact own rfl
   ·exact h.elim
theorem CD{o:HO}{d:D}(h:Own1 K F o d):noMut d=false:=by
 cases o<;>cases d<;>first|rfl|exact h.elim
theorem vZ{ds:List D}{i:Nat}{s:Sl}(h:((ds.map Sl.fz).map some)[i]?=some (some s)):∃d,ds[i]?=some d/\s=.fz d:=by
 rw[B1,R0]at h
 cases e:ds[i]? with
 | none=>rw[e]at h;cases h
 | some d=>rw[e]at h;cases h;exact ⟨d,rfl,rfl⟩
theorem x9{vs:List V}{i:Nat}{v:V}(h:vs[i]?=some v):(vs.map some)[i]?=some (some v):=by rw[R0,h];rfl
theorem AU{vs:List V}{ds:List D}(s:Sub F H)(da:DaAll K F vs ds):Rel K ⟨H,F,λ_=>none⟩ F (vs.map some) H ((ds.map Sl.fz).map some) where
 len:=by simp[da.length]
 sub:=s
 sub0:=Sub.refl _
 fn:=λ_ _ e=>.inl e
 keep:=λ_ _ e _=>e
 fz:=λi d e=>by
  obtain⟨d',e1,e2⟩:=vZ e
  cases e2
  obtain⟨v,h1,h2⟩:=da.get e1
  exact ⟨v,x9 h1,h2⟩
 ow:=λi s e w=>by obtain⟨d',e1,rfl⟩:=vZ e;cases w
 new:=λi d a e _=>by obtain⟨d',e1,e2⟩:=vZ e;cases e2
 io:=λi a e=>by cases e
 ioi:=λi d e=>by obtain⟨d',e1,e2⟩:=vZ e;cases e2
 ap:=λi j s t a e w _ _ _ _=>by obtain⟨d',e1,rfl⟩:=vZ e;cases w
theorem Rel.called(R:Rel K G F σ H ρ){σ1:St}{ρ1:Ev}(R':Rel K ⟨H,kJ σ ρ xs F H,λ_=>none⟩ F' σ1 H' ρ1):Sub F (GX σ ρ xs F')/\Rel K G (GX σ ρ xs F') σ H' ρ:=by
 have nl:∀{b:Addr}{o:HO},F b=some o->¬LentA σ ρ xs b:=λ{b o} e z=>by
  obtain⟨_,_,_,_,_,_,h,_⟩:=z.own R
  rw[h]at e;cases e
 have sb:Sub F (GX σ ρ xs F'):=λb o e=>by
  rw[RX (nl e)]
  exact R'.sub0 _ _ (fK R _ _ e)
 have ul:∀{b:Addr}{o:HO},GX σ ρ xs F' b=some o->¬LentA σ ρ xs b/\F' b=some o:=λ{b o} e=>by
  by_cases z:LentA σ ρ xs b
  ·rw[BD z]at e;cases e
  ·rw[RX z]at e;exact ⟨z,e⟩
 have kp:∀{b:Addr}{o:HO},H b=some o->H' b=some o:=λ{b o} e=>R'.keep b o e λi z=>by cases z
 refine ⟨sb,R.len,λb o e=>R'.sub _ _ (ul e).2,R.sub0.trans sb,λb o e=>?_,λa o e n=>kp (R.keep a o e n),λi d e=>?_,λi s e w=>?_,R.new,R.io,R.ioi,R.ap⟩
 ·obtain⟨n,e⟩:=ul e
  rcases R'.fn b o e with q|q
  ·have q:kJ σ ρ xs F H b=some o:=q
   rw[eK n]at q
   exact R.fn b o q
  ·exact .inr (R.h0 q)
 ·obtain⟨v,h1,h2⟩:=R.fz i d e
  exact ⟨v,h1,h2.mono sb⟩
 ·obtain⟨a,o,h1,h2,h3,h4⟩:=R.ow i s e w
  refine ⟨a,o,h1,?_,kp h3,h4.mono sb⟩
  cases q:GX σ ρ xs F' a with
  | none=>rfl
  | some u =>
   obtain⟨n,q⟩:=ul q
   rcases R'.fn a u q with z|z
   ·have z:kJ σ ρ xs F H a=some u:=z
    rw[eK n,h2]at z;cases z
   ·have z:H a=none:=z
    rw[h3]at z;cases z
theorem Res.called(R:Rel K G F σ H ρ){σ1:St}{ρ1:Ev}{v:V}{r:Sl}(R':Rel K ⟨H,kJ σ ρ xs F H,λ_=>none⟩ F' σ1 H' ρ1)(q:Res K ⟨H,kJ σ ρ xs F H,λ_=>none⟩ F' H' σ1 ρ1 v r)
  (hl:mX ρ xs=true->noMut r.d=true):Res K G (GX σ ρ xs F') H' σ ρ v r:=by
 have tp:∀b ys,F' b=some (.tup ys)->GX σ ρ xs F' b=some (.tup ys):=λb ys e=>by
  have n:¬LentA σ ρ xs b:=λz=>by
   obtain⟨_,_,o,_,_,_,_,h,w⟩:=z.own R
   have e2:=R'.sub0 b o (by show kJ σ ρ xs F H b=some o;rw[gY z];exact h)
   rw[e]at e2;cases e2
   exact w
  rw[RX n];exact e
 by_cases l:mX ρ xs=true
 ·cases r with
  | fz d=>exact Da.noMut tp q (hl l)
  | ow d =>
   obtain⟨a,o,_,_,_,w,_⟩:=q
   have:=hl l
   rw[show (Sl.ow d).d=d from rfl,CD w]at this;cases this
  | io d=>exact q.elim
 ·have e:GX σ ρ xs F'=F':=funext λb=>RX λz=>l (IJ z)
  rw[e]
  cases r with
  | fz d=>exact q
  | io d=>exact q.elim
  | ow d =>
   obtain⟨a,o,h1,h2,h3,h4,h5,_⟩:=q
   refine ⟨a,o,h1,h2,h3,h4,R.h0 h5,λi s es w z=>?_⟩
   obtain⟨a',o',g1,_,g3,_⟩:=R.ow i s es w
   rw[z]at g1;cases g1
   have h5:H a=none:=h5
   rw[h5]at g3;cases g3
theorem y9{con:Con}{as:List AD}{E:XK}{Q:VK}(h:lift K (Dz con as) σ H Q):qY (lQ K con) [] E (DQ (as.map (qQ K))) σ H Q:=by
 obtain⟨G,F,ρ,Qd,R,w,k⟩:=h
 refine EX R w λvs H1 F1 xs ρ1 s1 R1 o w1=>?_
 obtain⟨ds,da,w1⟩:=HY (xs:=xs) R1 (λy hy=>hy) o w1
 rw[u4]
 refine ⟨_,_,ds.map Sl.fz,_,AU (qF R1) da,w1,λv H' F' r ρ' s' R' r' q=>?_⟩
 obtain⟨sb,R2⟩:=R1.called R'
 have hq:(mX ρ1 xs=true->noMut r.d=true)/\Qd r ρ1:=by
  split at q
  ·rename_i e;exact ⟨λz=>(by rw[e]at z;cases z),q⟩
  ·exact ⟨λ_=>q.1,q.2⟩
 exact k v H' _ r ρ1 (s1.trans sb) R2 (Res.called R1 R' r' hq.1) hq.2
end
section
variable {K:Fg}{G:Gh}{F F' H H':Hp}{σ:St}{ρ:Ev}{xs:List ZV}
noncomputable def lL(a:Addr):Nat->Option Addr:=λj=>if j=0 then some a else none
theorem BU{a b:Addr}{j:Nat}(h:lL a j=some b):j=0/\b=a:=by
 unfold lL at h
 split at h
 ·rename_i z;cases h;exact ⟨z,rfl⟩
 ·cases h
theorem DD{vs:List V}{ds:List D}{a:Addr}{o:HO}{d:D}(s:Sub F H)(h1:F a=none)(h2:H a=some o)(h3:Own1 K F o d)(da:DaAll K F vs ds) :
  Rel K ⟨H,F,lL a⟩ F ((V.ref a :: vs).map some) H ((Sl.io d :: ds.map Sl.fz).map some) where
 len:=by simp[da.length]
 sub:=s
 sub0:=Sub.refl _
 fn:=λ_ _ e=>.inl e
 keep:=λ_ _ e _=>e
 fz:=λi d' e=>by
  cases i with
  | zero=>simp at e
  | succ i =>
   have e:((ds.map Sl.fz).map some)[i]?=some (some (Sl.fz d')):=by simpa using e
   obtain⟨d2,e1,e2⟩:=vZ e
   cases e2
   obtain⟨v,g1,g2⟩:=da.get e1
   exact ⟨v,by simpa using g1,g2⟩
 ow:=λi s e w=>by
  cases i with
  | zero=>simp at e;subst e;exact ⟨a,o,by simp,h1,h2,h3⟩
  | succ i =>
   have e:((ds.map Sl.fz).map some)[i]?=some (some s):=by simpa using e
   obtain⟨d2,e1,rfl⟩:=vZ e
   cases w
 new:=λi d' b e _=>by
  cases i with
  | zero=>simp at e
  | succ i =>
   have e:((ds.map Sl.fz).map some)[i]?=some (some (Sl.ow d')):=by simpa using e
   obtain⟨d2,e1,e2⟩:=vZ e
   cases e2
 io:=λi b e=>by
  obtain⟨rfl,rfl⟩:=BU e
  exact ⟨d,by simp,by simp⟩
 ioi:=λi d' e=>by
  cases i with
  | zero=>exact ⟨a,rfl⟩
  | succ i =>
   have e:((ds.map Sl.fz).map some)[i]?=some (some (Sl.io d')):=by simpa using e
   obtain⟨d2,e1,e2⟩:=vZ e
   cases e2
 ap:=λi j s t b e1 w1 e2 w2 _ _=>by
  have f:∀{i:Nat}{s:Sl},((Sl.io d :: ds.map Sl.fz).map some)[i]?=some (some s)->fX s=true->i=0:=λ{i s} e w=>by
   cases i with
   | zero=>rfl
   | succ i =>
    have e:((ds.map Sl.fz).map some)[i]?=some (some s):=by simpa using e
    obtain⟨d2,e1,rfl⟩:=vZ e
    cases w
  rw[f e1 w1,f e2 w2]
theorem Rel.calledI(R:Rel K G F σ H ρ){i:Nat}{s:Sl}{a:Addr}{d':D}{σ1:St}{ρ1:Ev}(e:ρ[i]?=some (some s))(w:fX s=true)(ea:σ[i]?=some (some (V.ref a)))
  (R':Rel K ⟨H,F,lL a⟩ F' (some (V.ref a) :: σ1) H' (some (Sl.io d') :: ρ1)):Rel K G F' σ H' (ρ.set i (some (s.put d'))):=by
 obtain⟨a0,o0,g1,g2,g3,g4⟩:=R.ow i s e w
 rw[ea]at g1;cases g1
 have sb:Sub F F':=R'.sub0
 have hl:=wX e
 have kp:∀{b:Addr}{o:HO},b≠a->H b=some o->H' b=some o:=λ{b o} n q=>R'.keep b o q λj z=>n (BU z).2
 have ow':∀{j:Nat}{t:Sl},j≠i->ρ[j]?=some (some t)->fX t=true->∃b o,σ[j]?=some (some (V.ref b))/\F' b=none/\H' b=some o/\Own1 K F' o t.d:=λ{j t} n q wt=>by
  obtain⟨b,o,q1,q2,q3,q4⟩:=R.ow j t q wt
  have nb:b≠a:=λz=>n (R.ap j i t s a q wt e w (by rw[q1,z]) ea)
  refine ⟨b,o,q1,?_,kp nb q3,q4.mono sb⟩
  cases z:F' b with
  | none=>rfl
  | some u =>
   rcases R'.fn b u z with y|y
   ·have y:F b=some u:=y
    rw[q2]at y;cases y
   ·have y:H b=none:=y
    rw[q3]at y;cases y
 refine ⟨by rw[v4];exact R.len,R'.sub,R.sub0.trans sb,λb o q=>?_,λb o q n=>?_,λj d q=>?_,λj t q wt=>?_,λj d b q eb=>?_,λj b q=>?_,λj d q=>?_,λj k t u b e1 w1 e2 w2 e3 e4=>?_⟩
 ·rcases R'.fn b o q with y|y
  ·exact R.fn b o y
  ·exact .inr (R.h0 y)
 ·refine kp (λz=>?_) (R.keep b o q n)
  subst z
  cases s with
  | fz d=>cases w
  | ow d=>rw[R.new i d b e ea]at q;cases q
  | io d =>
   obtain⟨a',y⟩:=R.ioi i d e
   obtain⟨_,_,y2⟩:=R.io i a' y
   rw[ea]at y2;cases y2
   exact n i y
 ·rcases sQ q with⟨rfl,z⟩|⟨n,z⟩
  ·cases s<;>simp[Sl.put,fX]at z w
  ·obtain⟨v,y1,y2⟩:=R.fz j d z
   exact ⟨v,y1,y2.mono sb⟩
 ·rcases sQ q with⟨rfl,z⟩|⟨n,z⟩
  ·cases z
   obtain⟨b,o,y1,y2,y3,y4⟩:=R'.ow 0 (.io d') (by simp) rfl
   simp at y1;subst y1
   exact ⟨a,o,ea,y2,y3,by cases s<;>first|exact y4|cases w⟩
  ·exact ow' n z wt
 ·rcases sQ q with⟨rfl,z⟩|⟨n,z⟩
  ·cases s with
   | fz d=>cases w
   | ow d0=>exact R.new j d0 b e eb
   | io d0=>cases z
  ·exact R.new j d b z eb
 ·obtain⟨d,y1,y2⟩:=R.io j b q
  by_cases z:j=i
  ·subst z
   rw[e]at y1;cases y1
   exact ⟨d',by rw[OZ hl];rfl,y2⟩
  ·exact ⟨d,by rw[L1 (m4 z)];exact y1,y2⟩
 ·rcases sQ q with⟨rfl,z⟩|⟨n,z⟩
  ·cases s with
   | fz d=>cases w
   | ow d0=>cases z
   | io d0=>exact R.ioi j d0 e
  ·exact R.ioi j d z
 ·have f:∀(j:Nat) (t:Sl),(ρ.set i (some (s.put d')))[j]?=some (some t)->fX t=true->∃t',ρ[j]?=some (some t')/\fX t'=true:=λj t q wt=>by
   rcases sQ q with⟨rfl,z⟩|⟨n,z⟩
   ·exact ⟨s,e,w⟩
   ·exact ⟨t,z,wt⟩
  obtain⟨t',e1',w1'⟩:=f j t e1 w1
  obtain⟨u',e2',w2'⟩:=f k u e2 w2
  exact R.ap j k t' u' b e1' w1' e2' w2' e3 e4
theorem xX(R:Rel K G F σ H ρ){ys:List ZV}{vs:List V}{k:List D->Prop}(m:mX ρ ys=false)(o:OpdsAt K F σ vs ys)(h:gX ρ ys k):∃ds,DaAll K F vs ds/\k ds:=by
 induction o generalizing k with
 | nil=>exact ⟨[],.nil,h⟩
 | @cons v x vs ys o t ih =>
  cases x with
  | inr d =>
   obtain⟨ds,a,q⟩:=ih (k:=λds=>k (d :: ds)) m h
   exact ⟨d :: ds,.cons o a,q⟩
  | inl i =>
   unfold gX at h
   unfold mX at m
   simp only[Bool.or_eq_false_iff]at m
   split at h
   ·rename_i s e
    obtain⟨ds,a,q⟩:=ih (k:=λds=>k (s.d :: ds)) m.2 h
    refine ⟨s.d :: ds,.cons ?_ a,q⟩
    have m1:=m.1
    rw[e]at m1
    cases s with
    | fz d =>
     obtain⟨v',e1,e2⟩:=R.fz i d e
     have o:σ[i]?=some (some v):=o
     rw[o]at e1;cases e1
     exact e2
    | ow d=>cases m1
    | io d=>cases m1
   ·exact h.elim
theorem Lk{con:Con}{i:Nat}{as:List AD}{E:XK}{Q:VK}(h:lift K (vV con i as) σ H Q):qY (lQ K con) [] E (DQ ((.inl i :: as).map (qQ K))) σ H Q:=by
 obtain⟨G,F,ρ,Qd,R,w,k⟩:=h
 unfold vV AX at w
 split at w
 ·rename_i s0 e0
  obtain⟨v,ev⟩:=R.bound e0
  refine ⟨v,ev,EX R w λvs H1 F1 xs ρ1 s1 R1 o w1=>?_⟩
  show lQ K con (v :: vs++[]) H1 Q E
  rw[u4]
  have w1:Ez con i xs ρ1 Qd:=w1
  unfold Ez at w1
  split at w1
  ·rename_i s e
   split at w1
   ·rename_i p1 p2
    obtain⟨a,o',g1,g2,g3,g4⟩:=R1.ow i s e p1
    rw[ev]at g1;cases g1
    obtain⟨ds,da,w1⟩:=xX R1 p2 o w1
    refine ⟨_,F1,.io s.d :: ds.map Sl.fz,_,DD R1.sub g2 g3 g4 da,w1,λv H' F' r ρ' s' R' r' q=>?_⟩
    split at q
    ·rename_i d' ρ2
     have R2:=R1.calledI e p1 ev R'
     refine k v H' F' r _ (s1.trans s') R2 ?_ q
     cases r with
     | fz d=>exact r'
     | io d=>exact r'.elim
     | ow d =>
      obtain⟨b,u,h1,h2,h3,h4,h5,_⟩:=r'
      have h5:H1 b=none:=h5
      refine ⟨b,u,h1,h2,h3,h4,R1.h0 h5,λj t es w z=>?_⟩
      have own:∃t',ρ1[j]?=some (some t')/\fX t'=true:=by
       rcases sQ es with⟨rfl,y⟩|⟨n,y⟩
       ·exact ⟨s,e,p1⟩
       ·exact ⟨t,y,w⟩
      obtain⟨t',y1,y2⟩:=own
      obtain⟨a',o',q1,_,q3,_⟩:=R1.ow j t' y1 y2
      rw[z]at q1;cases q1
      rw[h5]at q3;cases q3
    ·exact q.elim
   ·exact w1.elim
  ·exact w1.elim
 ·exact w.elim
noncomputable def IY(n:Nat)(args:List Sl):Ev:=args.map some++O0 (n - args.length) none
noncomputable def outs:List Sl->Ev->Ev
 | [],_=>[]
 | .io _ :: as,ρ=>(ρ.headD none) :: outs as ρ.tail
 | .fz d :: as,ρ=>some (.fz d) :: outs as ρ.tail
 | .ow d :: as,ρ=>some (.ow d) :: outs as ρ.tail
theorem HX{α:Type}{l:List (Option α)}{n i:Nat}{x:α}(h:(l++O0 n none)[i]?=some (some x)):l[i]?=some (some x):=by
 by_cases z:i < l.length
 ·rw[P2 z]at h;exact h
 ·rw[T1 (V7 z),b8]at h
  split at h<;>cases h
theorem gK{α:Type}{l m:List α}{i:Nat}{x:α}(h:l[i]?=some x):(l++m)[i]?=some x:=by rw[P2 (wX h)];exact h
theorem Rel.start{vs:List V}{args:List Sl}{N:List Str}(R:Rel K G F (vs.map some) H (args.map some)):Rel K G F (L2.start N vs) H (IY N.length args) where
 len:=by have:=R.len;simp[L2.start,IY]at this ⊢;omega
 sub:=R.sub
 sub0:=R.sub0
 fn:=R.fn
 keep:=R.keep
 fz:=λi d e=>by
  obtain⟨v,h1,h2⟩:=R.fz i d (HX e)
  exact ⟨v,gK h1,h2⟩
 ow:=λi s e w=>by
  obtain⟨a,o,h1,h2⟩:=R.ow i s (HX e) w
  exact ⟨a,o,gK h1,h2⟩
 new:=λi d a e ea=>R.new i d a (HX e) (HX ea)
 io:=λi a e=>by
  obtain⟨d,h1,h2⟩:=R.io i a e
  exact ⟨d,gK h1,gK h2⟩
 ioi:=λi d e=>R.ioi i d (HX e)
 ap:=λi j s t a e1 w1 e2 w2 e3 e4=>R.ap i j s t a (HX e1) w1 (HX e2) w2 (HX e3) (HX e4)
theorem CZ:∀{args:List Sl}{ρ:Ev}{i:Nat}{s:Sl},(outs args ρ)[i]?=some (some s)->(∃d,args[i]?=some (.io d)/\ρ[i]?=some (some s))\/(args[i]?=some s/\∀d,s≠.io d)
 | [],ρ,i,s,h=>by simp[outs]at h
 | .io d :: as,ρ,0,s,h=>by
  simp[outs]at h
  cases ρ with
  | nil=>simp at h
  | cons x ρ=>simp at h;exact .inl ⟨d,by simp,by simp[h]⟩
 | .fz d :: as,ρ,0,s,h=>by simp[outs]at h;subst h;exact .inr ⟨by simp,λd z=>by cases z⟩
 | .ow d :: as,ρ,0,s,h=>by simp[outs]at h;subst h;exact .inr ⟨by simp,λd z=>by cases z⟩
 | .io d :: as,ρ,i+1,s,h=>by
  simp only[outs,V4]at h
  rcases CZ h with⟨d,h1,h2⟩|⟨h1,h2⟩
  ·exact .inl ⟨d,by simpa using h1,by cases ρ with|nil=>simp at h2|cons x ρ=>simpa using h2⟩
  ·exact .inr ⟨by simpa using h1,h2⟩
 | .fz d :: as,ρ,i+1,s,h=>by
  simp only[outs,V4]at h
  rcases CZ h with⟨d,h1,h2⟩|⟨h1,h2⟩
  ·exact .inl ⟨d,by simpa using h1,by cases ρ with|nil=>simp at h2|cons x ρ=>simpa using h2⟩
  ·exact .inr ⟨by simpa using h1,h2⟩
 | .ow d :: as,ρ,i+1,s,h=>by
  simp only[outs,V4]at h
  rcases CZ h with⟨d,h1,h2⟩|⟨h1,h2⟩
  ·exact .inl ⟨d,by simpa using h1,by cases ρ with|nil=>simp at h2|cons x ρ=>simpa using h2⟩
  ·exact .inr ⟨by simpa using h1,h2⟩
theorem rF:∀{args:List Sl}{ρ:Ev}{i:Nat}{d:D}{x:Option Sl},args[i]?=some (.io d)->ρ[i]?=some x->(outs args ρ)[i]?=some x
 | [],_,_,_,_,h,_=>by simp at h
 | _ :: _,[],_,_,_,_,h=>by simp at h
 | s :: as,y :: ρ,0,d,x,h,h'=>by simp at h h';subst h h';simp[outs]
 | s :: as,y :: ρ,i+1,d,x,h,h'=>by
  have:=rF (args:=as) (ρ:=ρ) (i:=i) (by simpa using h) (by simpa using h')
  cases s<;>simpa [outs]using this
theorem CU:∀(args:List Sl) (ρ:Ev),(outs args ρ).length=args.length
 | [],_=>rfl
 | s :: as,ρ=>by cases s<;>simp[outs,CU as]
theorem Fz{args:List Sl}{i:Nat}{s:Sl}(h:(args.map some)[i]?=some (some s)):args[i]?=some s:=by
 rw[R0]at h
 cases e:args[i]? with
 | none=>rw[e]at h;cases h
 | some x=>rw[e]at h;cases h;rfl
theorem iK{args:List Sl}{i:Nat}{s:Sl}(h:args[i]?=some s):(args.map some)[i]?=some (some s):=by rw[R0,h];rfl
theorem Rel.ret{vs:List V}{args:List Sl}{σ':St}{ρ':Ev}(hn:∀s∈args,∀d,s≠.ow d)(R:Rel K G F (vs.map some) H (args.map some))(sb:Sub F F')(R':Rel K G F' σ' H' ρ'):Rel K G F' (vs.map some) H' (outs args ρ'):=by
 have own:∀{i:Nat}{s:Sl},(outs args ρ')[i]?=some (some s)->fX s=true->∃d a,args[i]?=some (.io d)/\ρ'[i]?=some (some s)/\G.io i=some a/\(vs.map some)[i]?=some (some (V.ref a))/\σ'[i]?=some (some (V.ref a)):=λ{i s} e w=>by
  rcases CZ e with⟨d,h1,h2⟩|⟨h1,h2⟩
  ·obtain⟨a,h3⟩:=R.ioi i d (iK h1)
   obtain⟨_,_,h4⟩:=R.io i a h3
   obtain⟨_,_,h5⟩:=R'.io i a h3
   exact ⟨d,a,h1,h2,h3,h4,h5⟩
  ·cases s with
   | fz d=>cases w
   | ow d=>exact (hn _ (A1 h1) d rfl).elim
   | io d=>exact (h2 d rfl).elim
 refine ⟨by rw[CU];simpa using R.len,R'.sub,R'.sub0,R'.fn,R'.keep,λi d e=>?_,λi s e w=>?_,λi d a e ea=>?_,λi a e=>?_,λi d e=>?_,λi j s t a e1 w1 e2 w2 e3 e4=>?_⟩
 ·rcases CZ e with⟨d',h1,h2⟩|⟨h1,h2⟩
  ·obtain⟨a,h3⟩:=R.ioi i d' (iK h1)
   obtain⟨d2,h4,_⟩:=R'.io i a h3
   rw[h2]at h4;cases h4
  ·obtain⟨v,h3,h4⟩:=R.fz i d (iK h1)
   exact ⟨v,h3,h4.mono sb⟩
 ·obtain⟨d,a,h1,h2,h3,h4,h5⟩:=own e w
  obtain⟨b,o,g1,g2⟩:=R'.ow i s h2 w
  rw[h5]at g1;cases g1
  exact ⟨a,o,h4,g2⟩
 ·obtain⟨d',b,h1,h2,h3,h4,h5⟩:=own e rfl
  rw[h4]at ea;cases ea
  exact R'.new i d _ h2 h5
 ·obtain⟨d,h1,h2⟩:=R.io i a e
  obtain⟨d',h3,h4⟩:=R'.io i a e
  exact ⟨d',rF (Fz h1) h3,h2⟩
 ·obtain⟨d',a,h1,h2,h3,h4,h5⟩:=own e rfl
  exact ⟨a,h3⟩
 ·obtain⟨_,a1,_,h2,_,h4,h5⟩:=own e1 w1
  obtain⟨_,a2,_,g2,_,g4,g5⟩:=own e2 w2
  rw[h4]at e3;cases e3
  rw[g4]at e4;cases e4
  exact R'.ap i j s t a h2 w1 g2 w2 h5 g5
theorem Res.ret{vs:List V}{args:List Sl}{σ':St}{ρ':Ev}{v:V}{r:Sl}(hn:∀s∈args,∀d,s≠.ow d)(R:Rel K G F (vs.map some) H (args.map some))(R':Rel K G F' σ' H' ρ')(q:Res K G F' H' σ' ρ' v r):Res K G F' H' (vs.map some) (outs args ρ') v r:=by
 cases r with
 | fz d=>exact q
 | io d=>exact q.elim
 | ow d =>
  obtain⟨a,o,h1,h2,h3,h4,h5,h6⟩:=q
  refine ⟨a,o,h1,h2,h3,h4,h5,λi s e w z=>?_⟩
  rcases CZ e with⟨d',g1,g2⟩|⟨g1,g2⟩
  ·obtain⟨b,g3⟩:=R.ioi i d' (iK g1)
   obtain⟨_,_,g4⟩:=R.io i b g3
   obtain⟨_,_,g5⟩:=R'.io i b g3
   rw[g4]at z;cases z
   exact h6 i s g2 w g5
  ·cases s with
   | fz d=>cases w
   | ow d=>exact (hn _ (A1 g1) d rfl).elim
   | io d=>exact (g2 d rfl).elim
noncomputable def aG(args:List Sl)(Qd:Sl->Ev->Prop):DE:={ nx:=λρ=>Qd (.fz .none) (outs args ρ),rt:=λr ρ=>Qd r (outs args ρ),bk:=λ_=>False,ct:=λ_=>False }
theorem bE{N:List Str}{con:Con}{ts:HJ}{vs:List V}{Q:VK}{E:XK}(hc:∀args Qd,con args Qd->(∀s∈args,∀d,s≠.ow d)/\ts (aG args Qd) (IY N.length args))(h:lQ K con vs H Q E):vQ K ts { nx:=λ_ H'=>Q .non H',rt:=Q } (L2.start N vs) H:=by
 obtain⟨G,F,args,Qd,R,w,k⟩:=h
 obtain⟨hn,w⟩:=hc args Qd w
 refine ⟨G,F,_,_,R.start,w,λσ' H' F' ρ' s R' q=>?_,λv σ' H' F' r ρ' s R' r' q=>?_,λ_ _ _ _ _ _ q=>q.elim,λ_ _ _ _ _ _ q=>q.elim⟩
 ·exact k .non H' F' (.fz .none) _ s (R.ret hn s R') Da.non q
 ·exact k v H' F' r _ s (R.ret hn s R') (r'.ret hn R R') q
end
section
variable {K:Fg}{F H:Hp}{v:V}
theorem At.int{i:Int}(h:At K F H v (.int i)):v=.int i:=by
 rcases h with h|⟨a,o,rfl,_,_,h⟩
 ·cases h;rfl
 ·cases o<;>exact h.elim
theorem At.bool{b:Bool}(h:At K F H v (.bool b)):v=.bl b:=by
 rcases h with h|⟨a,o,rfl,_,_,h⟩
 ·cases h;rfl
 ·cases o<;>exact h.elim
theorem At.str{x:Str}(h:At K F H v (.str x)):v=.str x:=by
 rcases h with h|⟨a,o,rfl,_,_,h⟩
 ·cases h;rfl
 ·cases o<;>exact h.elim
theorem At.none(h:At K F H v .none):v=.non:=by
 rcases h with h|⟨a,o,rfl,_,_,h⟩
 ·cases h;rfl
 ·cases o<;>exact h.elim
theorem At.list{ds:List D}(s:Sub F H)(h:At K F H v (.list ds)):∃a xs,v=.ref a/\H a=some (.lst xs)/\DaAll K F xs ds:=by
 rcases h with h|⟨a,o,rfl,_,e,h⟩
 ·cases h with
  | lst e t=>exact ⟨_,_,rfl,s _ _ e,t⟩
 ·cases o<;>first|exact h.elim|exact ⟨_,_,rfl,e,h⟩
theorem At.tuple{ds:List D}(s:Sub F H)(h:At K F H v (.tuple ds)):∃a xs,v=.ref a/\F a=some (.tup xs)/\H a=some (.tup xs)/\DaAll K F xs ds:=by
 rcases h with h|⟨a,o,rfl,_,e,h⟩
 ·cases h with
  | tup e t=>exact ⟨_,_,rfl,e,s _ _ e,t⟩
 ·cases o<;>exact h.elim
theorem sF(k:HQ):OX k≠.none:=by cases k<;>(intro z;cases z)
theorem Da.scr_inv{ns:List Int}:∀{d:D},Da K F v d->d=uZ ns->∃a,v=.ref a/\SqL K F a (ns.map V.int)
 | _,.non,e=>by cases e
 | _,.bl _,e=>by cases e
 | _,.int _,e=>by cases e
 | _,.str _,e=>by cases e
 | _,.lst _ _,e=>by cases e
 | _,.tup _ _,e=>by cases e
 | _,.dk _ t,e=>by
  cases t with
  | nil=>injection e with e;cases e
  | cons _ _ =>
   injection e with e
   injection e with e _
   injection e with e _
   exact (sF _ e).elim
 | _,.dt _ t,e=>by
  cases t with
  | nil=>injection e with e;cases e
  | cons _ _ =>
   injection e with e
   injection e with e _
   injection e with e _
   cases e
 | _,.scr (ns:=ns') q,e=>by
  injection e with e
  injection e with e _
  injection e with _ e
  injection e with e2
  have:∀(l m:List Int),l.map j0=m.map j0->l=m:=by
   intro l
   induction l with
   | nil=>intro m e;cases m with|nil=>rfl|cons=>simp at e
   | cons a l ih=>intro m e;cases m with|nil=>simp at e|cons b m=>simp at e;rw[e.1,ih m e.2]
  rw[<- this _ _ e2]
  exact ⟨_,rfl,q⟩
theorem At.scr{ns:List Int}(s:Sub F H)(h:At K F H v (uZ ns)):∃a,v=.ref a/\SqL K H a (ns.map V.int):=by
 rcases h with h|⟨a,o,rfl,_,e,h⟩
 ·obtain⟨a,h1,h2⟩:=h.scr_inv rfl
  exact ⟨a,h1,s.sql h2⟩
 ·exfalso
  cases o<;>first|exact h.elim|skip
  ·rename_i kvs
   have h:DaKV K F kvs [(.none,.list (ns.map j0))]:=h
   generalize q:[(PyData.none,P3 (ns.map j0))]=es at h
   cases h with
   | nil=>cases q
   | cons _ _ =>
    injection q with q _
    injection q with q _
    exact sF _ q.symm
  ·rename_i kvs
   have h:DaKT K F kvs [(.none,.list (ns.map j0))]:=h
   cases h
theorem AtAll.one{vs:List V}{d:D}(h:AtAll K F H vs [d]):∃v,vs=[v]/\At K F H v d:=by
 cases h with|cons a t=>cases t;exact ⟨_,rfl,a⟩
theorem AtAll.two{vs:List V}{d e:D}(h:AtAll K F H vs [d,e]):∃v u,vs=[v,u]/\At K F H v d/\At K F H u e:=by
 cases h with|cons a t=>cases t with|cons b t=>cases t;exact ⟨_,_,rfl,a,b⟩
end
noncomputable def uK(r:R2):List V->Hp->VK->Prop:=λvs H Q=>∃x y,vs=[x,y]/\r x y H Q
noncomputable def KM(r:V->Hp->VK->Prop):List V->Hp->VK->Prop:=λvs H Q=>∃x,vs=[x]/\r x H Q
theorem bG{K:Fg}{r:R2}{f:D->D->(Sl->Prop)->Prop}(h:∀(G:Gh) (F:Hp) (σ:St) (H:Hp) (ρ:Ev) (x y:V) (d e:D) (Q:VK) (Qd:Sl->Prop),Rel K G F σ H ρ->At K F H x d->At K F H y e->f d e Qd ->
    (∀v H' F' s,Sub F F'->Rel K G F' σ H' ρ->Res K G F' H' σ ρ v s->Qd s->Q v H')->r x y H Q):WQ K (uK r) (o2 f):=by
 intro G F σ H ρ vs ds Q Qd R a w k
 match ds,a,w with
 | [d,e],a,w =>
  obtain⟨v,u,rfl,h1,h2⟩:=a.two
  exact ⟨v,u,rfl,h G F σ H ρ v u d e Q Qd R h1 h2 w k⟩
theorem xH{K:Fg}{r:List V->Hp->VK->Prop}{f:D->(Sl->Prop)->Prop}(h:∀(G:Gh) (F:Hp) (σ:St) (H:Hp) (ρ:Ev) (x:V) (d:D) (Q:VK) (Qd:Sl->Prop),Rel K G F σ H ρ->At K F H x d->f d Qd ->
    (∀v H' F' s,Sub F F'->Rel K G F' σ H' ρ->Res K G F' H' σ ρ v s->Qd s->Q v H')->r [x] H Q):WQ K r (o1 f):=by
 intro G F σ H ρ vs ds Q Qd R a w k
 match ds,a,w with
 | [d],a,w =>
  obtain⟨v,rfl,h1⟩:=a.one
  exact h G F σ H ρ v d Q Qd R h1 w k
noncomputable def fI(C:Int->Int->Prop)(g:Int->Int->D):D->D->(Sl->Prop)->Prop
 | .int i,.int j,Q=>C i j/\Q (.fz (g i j))
 | _,_,_=>False
noncomputable def Nv(g:Int->Int->D):D->D->(Sl->Prop)->Prop
 | .int i,.int j,Q=>Q (.fz (g i j))
 | _,_,_=>False
theorem A9{K:Fg}{C:Int->Int->Prop}{g:Int->Int->V}{g':Int->Int->D}(hg:∀F i j,Da K F (g i j) (g' i j)):WQ K (uK (rI C g)) (o2 (fI C g')):=bG λG F σ H ρ x y d e Q Qd R h1 h2 w k=>by
 cases d<;>first|exact w.elim|skip
 cases e<;>first|exact w.elim|skip
 case int.int i j =>
  cases h1.int
  cases h2.int
  exact ⟨i,j,rfl,rfl,w.1,k _ H F (.fz _) (Sub.refl _) R (hg F i j) w.2⟩
theorem tF{K:Fg}{g:Int->Int->V}{g':Int->Int->D}(hg:∀F i j,Da K F (g i j) (g' i j)):WQ K (uK (aY g)) (o2 (Nv g')):=bG λG F σ H ρ x y d e Q Qd R h1 h2 w k=>by
 cases d<;>first|exact w.elim|skip
 cases e<;>first|exact w.elim|skip
 case int.int i j =>
  cases h1.int
  cases h2.int
  exact ⟨i,j,rfl,rfl,k _ H F (.fz _) (Sub.refl _) R (hg F i j) w⟩
noncomputable def ZZ(r r':R2):R2:=λx y H Q=>r x y H Q\/r' x y H Q
noncomputable def Gz:R2:=λx y H Q=>∃(a b:Addr) (xs ys:List V),x=.ref a/\y=.ref b/\H a=some (.tup xs)/\H b=some (.tup ys)/\xs.length+ys.length<=sizeLine /\
 (xs=[]->Q (.ref b) H)/\(xs≠[]->ys=[]->Q (.ref a) H)/\(xs≠[]->ys≠[]->∀p,H p=none->Q (.ref p) (dX H p (.tup (xs++ys))))
noncomputable def cE:D->D->(Sl->Prop)->Prop
 | .int i,.int j,Q=>Q (.fz (.int (i+j)))
 | .tuple xs,.tuple ys,Q=>xs.length+ys.length<=sizeLine/\Q (.fz (.tuple (xs++ys)))
 | .list xs,.list ys,Q=>xs.length+ys.length<=sizeLine/\Q (.ow (.list (xs++ys)))
 | _,_,_=>False
theorem DaAll.nil_of{K:Fg}{F:Hp}{ds:List D}(h:DaAll K F [] ds):ds=[]:=by cases h;rfl
theorem gQ{K:Fg}:WQ K (uK (ZZ (aY λi j=>.int (i+j)) (ZZ Gz Bu))) (o2 cE):=bG λG F σ H ρ x y d e Q Qd R h1 h2 w k=>by
 cases d<;>first|exact w.elim|(cases e<;>first|exact w.elim|skip)
 case int.int i j =>
  cases h1.int
  cases h2.int
  exact .inl ⟨i,j,rfl,rfl,k _ H F (.fz _) (Sub.refl _) R (Da.int _) w⟩
 case tuple.tuple xs ys =>
  obtain⟨a,us,rfl,f1,e1,d1⟩:=h1.tuple R.sub
  obtain⟨b,ws,rfl,f2,e2,d2⟩:=h2.tuple R.sub
  refine .inr (.inl ⟨a,b,us,ws,rfl,rfl,e1,e2,by rw[d1.length,d2.length];exact w.1,λz=>?_,λ_ z=>?_,λ_ _ p hp=>?_⟩)
  ·subst z
   have:=d1.nil_of
   subst this
   exact k _ H F (.fz _) (Sub.refl _) R (Da.tup f2 d2) w.2
  ·subst z
   have:=d2.nil_of
   subst this
   refine k _ H F (.fz _) (Sub.refl _) R (Da.tup f1 d1) ?_
   have:=w.2
   rw[u4]at this
   exact this
  ·obtain⟨sb,R',dd⟩:=R.newTup hp (d1.append d2)
   exact k _ _ _ (.fz _) sb R' dd w.2
 case list.list xs ys =>
  obtain⟨a,us,rfl,e1,d1⟩:=h1.list R.sub
  obtain⟨b,ws,rfl,e2,d2⟩:=h2.list R.sub
  refine .inr (.inr ⟨a,b,us,ws,rfl,rfl,e1,e2,by rw[d1.length,d2.length];exact w.1,λp hp=>?_⟩)
  obtain⟨R',r'⟩:=R.newOw (o:=.lst (us++ws)) (d:=.list (xs++ys)) hp (d1.append d2)
  exact k _ _ F _ (Sub.refl _) R' r' w.2
noncomputable def dM:D->D->(Sl->Prop)->Prop
 | .int i,.int j,Q=>CMul i j/\Q (.fz (.int (i * j)))
 | .list xs,.int k,Q=>-(2 ^ 63)<=k/\k < 2 ^ 63/\xs.length * k.toNat<=sizeLine/\Q (.ow (.list (O0 k.toNat xs).flatten))
 | _,_,_=>False
theorem JJ{K:Fg}:WQ K (uK (ZZ (rI CMul λi j=>.int (i * j)) Du)) (o2 dM):=bG λG F σ H ρ x y d e Q Qd R h1 h2 w k=>by
 cases d<;>first|exact w.elim|(cases e<;>first|exact w.elim|skip)
 case int.int i j =>
  cases h1.int
  cases h2.int
  exact .inl ⟨i,j,rfl,rfl,w.1,k _ H F (.fz _) (Sub.refl _) R (Da.int _) w.2⟩
 case list.int xs j =>
  cases h2.int
  obtain⟨a,us,rfl,e1,d1⟩:=h1.list R.sub
  refine .inr ⟨a,j,us,rfl,rfl,e1,w.1,w.2.1,by rw[d1.length];exact w.2.2.1,λp hp=>?_⟩
  obtain⟨R',r'⟩:=R.newOw (o:=.lst (O0 j.toNat us).flatten) (d:=.list (O0 j.toNat xs).flatten) hp (d1.rep _)
  exact k _ _ F _ (Sub.refl _) R' r' w.2.2.2
noncomputable def eM:D->(Sl->Prop)->Prop
 | .list ds,Q=>Q (.fz (.int ds.length))
 | .tuple ds,Q=>Q (.fz (.int ds.length))
 | .dict [(.none,.list ds)],Q=>∃ns:List Int,ds=ns.map j0/\Q (.fz (.int ns.length))
 | _,_=>False
theorem CQ{K:Fg}:WQ K (RC K) (o1 eM):=xH λG F σ H ρ x d Q Qd R h1 w k=>by
 cases d<;>first|exact w.elim|skip
 case list ds =>
  obtain⟨a,us,rfl,e1,d1⟩:=h1.list R.sub
  exact ⟨a,us,rfl,.inl (SqL.of e1),k _ H F (.fz _) (Sub.refl _) R (Da.int _) (by rw[d1.length];exact w)⟩
 case tuple ds =>
  obtain⟨a,us,rfl,_,e1,d1⟩:=h1.tuple R.sub
  exact ⟨a,us,rfl,.inr (SqT.of e1),k _ H F (.fz _) (Sub.refl _) R (Da.int _) (by rw[d1.length];exact w)⟩
 case dict es =>
  rcases es with _|⟨⟨c1,c2⟩,_|⟨c3,c4⟩⟩
  ·exact w.elim
  ·cases c1<;>first|exact w.elim|skip
   cases c2<;>first|exact w.elim|skip
   obtain⟨ns,rfl,w⟩:=w
   obtain⟨a,rfl,q⟩:=h1.scr R.sub
   exact ⟨a,_,rfl,.inl q,k _ H F (.fz _) (Sub.refl _) R (Da.int _) (by rw[p0];exact w)⟩
  ·cases c1<;>first|exact w.elim|(cases c2<;>exact w.elim)
noncomputable def LM:D->D->(Sl->Prop)->Prop
 | .list ds,.int i,Q=>∃d,TJ ds i=some d/\Q (.fz d)
 | .tuple ds,.int i,Q=>∃d,TJ ds i=some d/\Q (.fz d)
 | .dict [(.none,.list ds)],.int i,Q=>∃(ns:List Int) (n:Int),ds=ns.map j0/\TJ ns i=some n/\Q (.fz (.int n))
 | _,_,_=>False
theorem DaAll.at{K:Fg}{F:Hp}{xs:List V}{ds:List D}{i:Int}{d:D}(h:DaAll K F xs ds)(e:TJ ds i=some d):∃v,TJ xs i=some v/\Da K F v d:=by
 unfold TJ at e ⊢
 rw[h.length]
 cases q:wH ds.length i with
 | none=>rw[q]at e;cases e
 | some j=>rw[q]at e;exact h.get e
theorem iY{α β:Type}(f:α->β){l:List α}{i:Int}{x:α}(h:TJ l i=some x):TJ (l.map f) i=some (f x):=by
 unfold TJ at h ⊢
 rw[p0]
 cases q:wH l.length i with
 | none=>rw[q]at h;cases h
 | some j=>rw[q]at h;simp at h ⊢;exact ⟨x,h,rfl⟩
theorem dE{K:Fg}:WQ K (uK (ZZ (kU K) (lU K))) (o2 LM):=bG λG F σ H ρ x y d e Q Qd R h1 h2 w k=>by
 cases d<;>first|exact w.elim|skip
 case list ds =>
  cases e<;>first|exact w.elim|skip
  rename_i i
  obtain⟨d,w1,w2⟩:=w
  cases h2.int
  obtain⟨a,us,rfl,e1,d1⟩:=h1.list R.sub
  obtain⟨v,g1,g2⟩:=d1.at w1
  exact .inl ⟨a,us,i,v,rfl,rfl,SqL.of e1,g1,k _ H F (.fz _) (Sub.refl _) R g2 w2⟩
 case tuple ds =>
  cases e<;>first|exact w.elim|skip
  rename_i i
  obtain⟨d,w1,w2⟩:=w
  cases h2.int
  obtain⟨a,us,rfl,_,e1,d1⟩:=h1.tuple R.sub
  obtain⟨v,g1,g2⟩:=d1.at w1
  exact .inr ⟨a,us,i,v,rfl,rfl,SqT.of e1,g1,k _ H F (.fz _) (Sub.refl _) R g2 w2⟩
 case dict es =>
  rcases es with _|⟨⟨c1,c2⟩,_|⟨c3,c4⟩⟩
  ·exact w.elim
  ·cases c1<;>first|exact w.elim|skip
   cases c2<;>first|exact w.elim|skip
   cases e<;>first|exact w.elim|skip
   rename_i i
   obtain⟨ns,n,e,w1,w2⟩:=w
   subst e
   cases h2.int
   obtain⟨a,rfl,q⟩:=h1.scr R.sub
   exact .inl ⟨a,_,i,_,rfl,rfl,q,iY V.int w1,k _ H F (.fz _) (Sub.refl _) R (Da.int _) w2⟩
  ·cases c1<;>first|exact w.elim|(cases c2<;>exact w.elim)
noncomputable def eE:D->(Sl->Prop)->Prop
 | .list ds,Q=>Q (.ow (.list ds))
 | .tuple ds,Q=>Q (.ow (.list ds))
 | _,_=>False
theorem IX{K:Fg}:WQ K (mF K) (o1 eE):=xH λG F σ H ρ x d Q Qd R h1 w k=>by
 match d,h1,w with
 | .list ds,h1,w =>
  obtain⟨a,us,rfl,e1,d1⟩:=h1.list R.sub
  refine ⟨a,us,rfl,.inl (SqL.of e1),λp hp=>?_⟩
  obtain⟨R',r'⟩:=R.newOw (o:=.lst us) (d:=.list ds) hp d1
  exact k _ _ F _ (Sub.refl _) R' r' w
 | .tuple ds,h1,w =>
  obtain⟨a,us,rfl,_,e1,d1⟩:=h1.tuple R.sub
  refine ⟨a,us,rfl,.inr (SqT.of e1),λp hp=>?_⟩
  obtain⟨R',r'⟩:=R.newOw (o:=.lst us) (d:=.list ds) hp d1
  exact k _ _ F _ (Sub.refl _) R' r' w
noncomputable def B9:D->(Sl->Prop)->Prop
 | .list ds,Q=>Q (.fz (.tuple ds))
 | .tuple ds,Q=>Q (.fz (.tuple ds))
 | _,_=>False
theorem jK{K:Fg}:WQ K (wU K) (o1 B9):=xH λG F σ H ρ x d Q Qd R h1 w k=>by
 match d,h1,w with
 | .list ds,h1,w =>
  obtain⟨a,us,rfl,e1,d1⟩:=h1.list R.sub
  refine ⟨a,us,rfl,.inl ⟨SqL.of e1,λp hp=>?_⟩⟩
  obtain⟨sb,R',dd⟩:=R.newTup hp d1
  exact k _ _ _ (.fz _) sb R' dd w
 | .tuple ds,h1,w =>
  obtain⟨a,us,rfl,f1,e1,d1⟩:=h1.tuple R.sub
  exact ⟨a,us,rfl,.inr ⟨SqT.of e1,k _ H F (.fz _) (Sub.refl _) R (Da.tup f1 d1) w⟩⟩
noncomputable def fM:D->(Sl->Prop)->Prop
 | .list ds,Q=>∃bs:List Bool,ds=bs.map PyData.bool/\Q (.fz (.bool (bs.all id)))
 | _,_=>False
theorem DaAll.bools{K:Fg}{F:Hp}:∀{xs:List V}{bs:List Bool},DaAll K F xs (bs.map PyData.bool)->xs=bs.map V.bl
 | [],[],_=>rfl
 | x :: xs,b :: bs,.cons h t=>by cases h;simp[DaAll.bools t]
theorem Hz{K:Fg}:WQ K (Nu K) (o1 fM):=xH λG F σ H ρ x d Q Qd R h1 w k=>by
 match d,h1,w with
 | .list ds,h1,⟨bs,e,w⟩ =>
  subst e
  obtain⟨a,us,rfl,e1,d1⟩:=h1.list R.sub
  have:=d1.bools
  subst this
  exact ⟨a,bs,rfl,SqL.of e1,k _ H F (.fz _) (Sub.refl _) R (Da.bl _) w⟩
noncomputable def dN:D->Ki
 | .none=>.non
 | .bool _=>.bl
 | .int _=>.int
 | .str _=>.str
 | .list _=>.lst
 | .tuple _=>.tup
 | .dict ((.none,_) :: _)=>.lst
 | .dict _=>.dct
noncomputable def eN:D->(Sl->Prop)->Prop
 | .int i,Q=>Q (.fz (.int (if i < 0 then -i else i)))
 | _,_=>False
theorem Rv{K:Fg}{g:Int->Int->Int}:WQ K (λxs H Q=>∃i j,xs=[V.int i,V.int j]/\Q (V.int (g i j)) H) (o2 (Nv λi j=>.int (g i j))):=by
 intro G F σ H ρ vs ds Q Qd R a w k
 match ds,a,w with
 | [d,e],a,w =>
  obtain⟨v,u,rfl,h1,h2⟩:=a.two
  have w:Nv (λi j=>.int (g i j)) d e Qd:=w
  unfold Nv at w
  split at w
  rotate_left
  ·exact w.elim
  rename_i i j w
  cases h1.int
  cases h2.int
  exact ⟨i,j,rfl,k _ H F (.fz _) (Sub.refl _) R (Da.int _) w⟩
noncomputable def gM:D->(Sl->Prop)->Prop
 | .int i,Q=>Q (.fz (.int i))
 | .bool b,Q=>Q (.fz (.int (if b then 1 else 0)))
 | _,_=>False
theorem E9{K:Fg}:WQ K (λxs H Q=>(∃i,xs=[V.int i]/\Q (V.int i) H)\/∃k,xs=[V.bl k]/\Q (V.int (if k then 1 else 0)) H) (o1 gM):=xH λG F σ H ρ x d Q Qd R h1 w k=>by
 match d,h1,w with
 | .int i,h1,w=>cases h1.int;exact .inl ⟨i,rfl,k _ H F (.fz _) (Sub.refl _) R (Da.int _) w⟩
 | .bool b,h1,w=>cases h1.bool;exact .inr ⟨b,rfl,k _ H F (.fz _) (Sub.refl _) R (Da.int _) w⟩
noncomputable def fE:D->(Sl->Prop)->Prop
 | .int i,Q=>Q (.fz (.int (-i)))
 | _,_=>False
theorem F9{K:Fg}:WQ K (KM (rU λi=>.int (-i))) (o1 fE):=xH λG F σ H ρ x d Q Qd R h1 w k=>by
 match d,h1,w with
 | .int i,h1,w=>cases h1.int;exact ⟨_,rfl,i,rfl,k _ H F (.fz _) (Sub.refl _) R (Da.int _) w⟩
noncomputable def ED(as:List AD)(f:List D->(Sl->Prop)->Prop):TD:=λρ Q=>AX as ρ λxs ρ1=>match mX ρ1 xs with
 | false=>gX ρ1 xs λds=>f ds λr=>Q r ρ1
 | true=>False
noncomputable def Iz(ds:List D)(Q:Sl->Prop):Prop:=Q (.fz (.tuple ds))
noncomputable def Jz(ds:List D)(Q:Sl->Prop):Prop:=Q (.ow (.list ds))
theorem iQ{n:Nat}(h:n<=1000):n<=sizeLine:=Z0 h (by decide)
theorem iE{K:Fg}{as:List AD}(hl:as.length<=1000){σ:St}{H:Hp}{Q:VK}(h:lift K (ED as Iz) σ H Q):ou (DQ (as.map (qQ K))) σ H Q:=by
 obtain⟨G,F,ρ,Qd,R,w,k⟩:=h
 refine fJ R w λvs H' F' xs ρ' sb R' o hn q=>?_
 split at q
 ·rename_i e
  obtain⟨ds,da,q⟩:=xX R' e o q
  refine ⟨iQ (by omega),λp hp=>?_⟩
  obtain⟨s2,R2,dd⟩:=R'.newTup hp da
  exact k _ _ _ (.fz _) _ (sb.trans s2) R2 dd q
 ·exact q.elim
theorem jE{K:Fg}{as:List AD}(hl:as.length<=1000){σ:St}{H:Hp}{Q:VK}(h:lift K (ED as Jz) σ H Q):qu (DQ (as.map (qQ K))) σ H Q:=by
 obtain⟨G,F,ρ,Qd,R,w,k⟩:=h
 refine fJ R w λvs H' F' xs ρ' sb R' o hn q=>?_
 split at q
 ·rename_i e
  obtain⟨ds,da,q⟩:=xX R' e o q
  refine ⟨iQ (by omega),λp hp=>?_⟩
  obtain⟨R2,r2⟩:=R'.newOw (o:=.lst vs) (d:=.list ds) hp da
  exact k _ _ _ _ _ sb R2 r2 q
 ·exact q.elim
noncomputable def cG(p q:Int->Int->Bool)(a b c:AD):TD:=λρ Q=>AX [a,b] ρ λxs ρ1=>gX ρ1 xs λds=>match ds with
 | [.int i,.int j]=>if p i j=true then AX [c] ρ1 λys ρ2=>gX ρ2 ys λes=>match es with
   | [.int k]=>Q (.fz (.bool (q j k))) ρ2
   | _=>False
  else Q (.fz (.bool false)) ρ1
 | _=>False
theorem Nk{K:Fg}{p q:Int->Int->Bool}{a b c:AD}{σ:St}{H:Hp}{Q:VK}(h:lift K (cG p q a b c) σ H Q) :
  EH (aY λi j=>.bl (p i j)) (aY λi j=>.bl (q i j)) (qQ K a) (qQ K b) (qQ K c) σ H Q:=by
 obtain⟨G,F,ρ,Qd,R,w,k⟩:=h
 have main:DQ ([a,b].map (qQ K)) σ H λvs H2=>∃x y,vs=[x,y]/\(aY λi j=>V.bl (p i j)) x y H2 λz H3=>∃k,z=.bl k /\
   (if k=true then qQ K c σ H3 λw' H4=>(aY λi j=>V.bl (q i j)) y w' H4 Q else Q (.bl false) H3):=by
  refine EX R w λvs H' F' xs ρ' sb R' o w1=>?_
  obtain⟨ds,ha,w1⟩:=gJ R' o w1
  split at w1
  ·rename_i i j
   obtain⟨v,u,rfl,h1,h2⟩:=ha.two
   cases h1.int
   cases h2.int
   refine ⟨_,_,rfl,i,j,rfl,rfl,p i j,rfl,?_⟩
   by_cases e:p i j=true
   ·rw[if_pos e]at w1 ⊢
    have:=EX (as:=[c]) (Qv:=λvs H4=>∃w',vs=[w']/\(aY λi j=>V.bl (q i j)) (V.int j) w' H4 Q) R' w1 λvs H2 F2 ys ρ2 s2 R2 o2 w2=>by
     obtain⟨es,hb,w2⟩:=gJ R2 o2 w2
     split at w2
     ·rename_i k'
      obtain⟨v,rfl,h3⟩:=hb.one
      cases h3.int
      exact ⟨_,rfl,j,k',rfl,rfl,k _ H2 F2 (.fz _) ρ2 (sb.trans s2) R2 (Da.bl _) w2⟩
     ·exact w2.elim
    exact Fk this
   ·rw[if_neg e]at w1 ⊢
    exact k _ H' F' (.fz _) ρ' sb R' (Da.bl _) w1
  ·exact w1.elim
 exact VH main
noncomputable def NW(i:Nat)(as:List AD)(f:List D->List D->(D->D->Prop)->Prop):TD:=λρ Q=>match ρ[i]? with
 | some (some s0)=>match s0.d,fX s0 with
  | .list _,true=>AX as ρ λxs ρ1=>match ρ1[i]?,mX ρ1 xs with
   | some (some s),false=>match s.d,fX s with
    | .list es,true=>gX ρ1 xs λds=>f es ds λd' r=>Q (.fz r) (ρ1.set i (some (s.put d')))
    | _,_=>False
   | _,_=>False
  | _,_=>False
 | _=>False
noncomputable def Dx(K:Fg)(r:V->List V->Hp->VK->Prop)(f:List D->List D->(D->D->Prop)->Prop):Prop :=
 ∀(F H:Hp) (a:Addr) (xs:List V) (es:List D) (vs:List V) (ds:List D) (Q:VK) (k:D->D->Prop),Sub F H->H a=some (.lst xs)->DaAll K F xs es->DaAll K F vs ds->f es ds k ->
  (∀v o' d' res,Own1 K F o' d'->Da K F v res->k d' res->Q v (dX H a o'))->r (.ref a) vs H Q
theorem Kz{K:Fg}{i:Nat}{as:List AD}{r:V->List V->Hp->VK->Prop}{f:List D->List D->(D->D->Prop)->Prop}(ok:Dx K r f){σ:St}{H:Hp}{Q:VK}(h:lift K (NW i as f) σ H Q) :
  ∃a xs,σ[i]?=some (some (V.ref a))/\SqL K H a xs/\DQ (as.map (qQ K)) σ H λvs H2=>r (.ref a) vs H2 Q:=by
 obtain⟨G,F,ρ,Qd,R,w,k⟩:=h
 unfold NW at w
 split at w
 ·rename_i s0 e0
  split at w
  ·rename_i es0 p1 p2
   obtain⟨a,o,g1,g2,g3,g4⟩:=R.ow i s0 e0 p2
   have gl:∃xs,H a=some (.lst xs):=by
    rw[p1]at g4
    cases o<;>first|exact g4.elim|exact ⟨_,g3⟩
   obtain⟨xs0,gl⟩:=gl
   refine ⟨a,xs0,g1,SqL.of gl,EX R w λvs H1 F1 xs ρ1 s1 R1 o1 w1=>?_⟩
   split at w1
   ·rename_i s e en
    split at w1
    ·rename_i es q1 q2
     obtain⟨ds,da,w1⟩:=xX R1 en o1 w1
     obtain⟨a',o',h1,h2,h3,h4⟩:=R1.ow i s e q2
     rw[g1]at h1;cases h1
     rw[q1]at h4
     have hl:∃us,o'=.lst us/\DaAll K F1 us es:=by cases o'<;>first|exact h4.elim|exact ⟨_,rfl,h4⟩
     obtain⟨us,rfl,h4⟩:=hl
     refine ok F1 H1 a us es vs ds Q _ R1.sub h3 h4 da w1 λv o2 d2 res ho hv hk=>?_
     have R2:=R1.change (o':=o2) (d':=d2) e q2 g1 ho
     exact k v _ F1 (.fz res) _ s1 R2 hv hk
    ·exact w1.elim
   ·exact w1.elim
  ·exact w.elim
 ·exact w.elim
noncomputable def Pk:List D->List D->(D->D->Prop)->Prop
 | es,[x],k=>es.length < sizeLine/\k (.list (es++[x])) .none
 | _,_,_=>False
theorem yX{K:Fg}:Dx K fF Pk:=by
 intro F H a xs es vs ds Q k s e d1 d2 w q
 match ds,d2,w with
 | [x],.cons h .nil,w=>exact ⟨a,xs,_,rfl,rfl,e,by rw[d1.length];exact w.1,q _ (.lst (xs++[_])) (.list (es++[x])) _ (d1.append (.cons h .nil)) .non w.2⟩
noncomputable def Qk:List D->List D->(D->D->Prop)->Prop
 | es,[.list ys],k=>es.length+ys.length<=sizeLine/\k (.list (es++ys)) .none
 | _,_,_=>False
theorem OW{K:Fg}:Dx K gF Qk:=by
 intro F H a xs es vs ds Q k s e d1 d2 w q
 match ds,d2,w with
 | [.list ys],.cons h .nil,w =>
  cases h with
  | lst e2 t=>exact ⟨a,_,xs,_,rfl,rfl,e,s _ _ e2,by rw[d1.length,t.length];exact w.1,q _ (.lst (xs++_)) (.list (es++ys)) _ (d1.append t) .non w.2⟩
noncomputable def iM:List D->List D->(D->D->Prop)->Prop
 | es,[],k=>∃d,es[es.length - 1]?=some d/\k (.list es.dropLast) d
 | _,_,_=>False
theorem Lz{K:Fg}:Dx K KC iM:=by
 intro F H a xs es vs ds Q k s e d1 d2 w q
 match ds,d2,w with
 | [],.nil,⟨d,w1,w2⟩ =>
  obtain⟨v,h1,h2⟩:=d1.get w1
  exact ⟨a,xs,v,rfl,rfl,e,by rw[d1.length];exact h1,q v (.lst xs.dropLast) (.list es.dropLast) d d1.dropLast h2 w2⟩
noncomputable def Rk:List D->List D->(D->D->Prop)->Prop
 | es,[.int i,x],k=>es.length < sizeLine/\0<=i/\i<=es.length/\k (.list (es.take i.toNat++x :: es.drop i.toNat)) .none
 | _,_,_=>False
theorem QW{K:Fg}:Dx K lF Rk:=by
 intro F H a xs es vs ds Q k s e d1 d2 w q
 rcases ds with _|⟨d,_|⟨x,_|⟨e3,ds⟩⟩⟩<;>first|exact w.elim|(cases d<;>first|exact w.elim|skip)
 ·rename_i i
  cases d2 with|cons h t=>?_
  cases t with|cons h' t=>?_
  cases t
  cases h
  exact ⟨a,xs,i,_,rfl,rfl,e,by rw[d1.length];exact w.1,w.2.1,by rw[d1.length];exact w.2.2.1,q .non (.lst (xs.take i.toNat++_ :: xs.drop i.toNat)) (.list _) .none ((d1.take _).append (.cons h' (d1.drop _))) .non w.2.2.2⟩
noncomputable def dG(j:Nat)(ai:AD)(te:TD):HJ:=λE ρ=>te ρ λr ρ1=>match ρ1[j]? with
 | some (some _)=>AX [ai] ρ1 λxs ρ2=>gX ρ2 xs λds=>match ds,ρ2[j]? with
  | [.int k],some (some s)=>match s.d,fX s with
   | .list es,true=>∃n,wH es.length k=some n/\E.nx (ρ2.set j (some (s.put (.list (es.set n r.d)))))
   | _,_=>False
  | _,_=>False
 | _=>False
theorem Sk{K:Fg}{j:Nat}{ai:AD}{te:TD}{σ:St}{H:Hp}{E:Ends}(h:vQ K (dG j ai te) E σ H):oY (lift K te) (bu (DX j) (qQ K ai) cF) E σ H:=by
 obtain⟨G,F,ρ,D,R,w,n,r,b,c⟩:=h
 refine ⟨G,F,ρ,_,R,w,λv H1 F1 x ρ1 s1 R1 r1 w1=>?_⟩
 obtain⟨F2,s2,R2,d2⟩:=r1.frz R1
 split at w1
 ·rename_i s0 e0
  obtain⟨u,eu⟩:=R2.bound e0
  refine ⟨u,eu,Fk (P:=λi H2=>cF u i v H2 λH3=>E.nx σ H3) (EX R2 w1 λvs H3 F3 xs ρ3 s3 R3 o3 w3=>?_)⟩
  obtain⟨ds,ha,w3⟩:=gJ R3 o3 w3
  split at w3
  ·rename_i k s e
   obtain⟨iv,rfl,hi⟩:=ha.one
   cases hi.int
   split at w3
   ·rename_i es p1 p2
    obtain⟨m,w4,w5⟩:=w3
    obtain⟨a,o,g1,g2,g3,g4⟩:=R3.ow j s e p2
    rw[eu]at g1;cases g1
    rw[p1]at g4
    have hl:∃us,o=.lst us/\DaAll K F3 us es:=by cases o<;>first|exact g4.elim|exact ⟨_,rfl,g4⟩
    obtain⟨us,rfl,g4⟩:=hl
    refine ⟨_,rfl,a,us,k,m,rfl,rfl,g3,by rw[g4.length];exact w4,?_⟩
    have R4:=R3.change (o':=.lst (us.set m v)) (d':=.list (es.set m x.d)) e p2 eu (g4.set (d2.mono s3) m)
    exact n σ _ F3 _ (s1.trans (s2.trans s3)) R4 w5
   ·exact w3.elim
  ·exact w3.elim
 ·exact w1.elim
noncomputable def kE(K:Fg)(tl:TE):TI:=λσ H R=>tl σ H λx H1=>∃a,x=.ref a/\(((∃xs,SqL K H1 a xs)/\R (PL K a) H1)\/((∃xs,SqT K H1 a xs)/\R (QL K a) H1))
noncomputable def DU(a:TD):pF:=λρ Q=>a ρ λr ρ1=>match r.d with
 | .list ds=>Q ds ρ1
 | .tuple ds=>Q ds ρ1
 | _=>False
theorem eG{K:Fg}{F:Hp}{a:Addr}{xs:List V}{ds:List D}(e:F a=some (.lst xs))(h:DaAll K F xs ds):Walks K (PL K a) F ds:=λi H F1 s1 s2=>by
 have q:=SqL.of (K:=K) (s2 _ _ (s1 _ _ e))
 refine ⟨λd ed=>?_,λhl=>⟨xs,q,by rw[h.length];omega⟩⟩
 obtain⟨v,h1,h2⟩:=h.get ed
 refine ⟨⟨xs,v,q,h1⟩,λx H' ⟨e1,e2⟩=>?_⟩
 subst e1
 have:=e2 xs q
 rw[h1]at this;cases this
 exact ⟨F1,Sub.refl _,λ_ _ z=>.inl z,s2,Sub.refl _,h2.mono s1⟩
theorem FD{K:Fg}{F:Hp}{a:Addr}{xs:List V}{ds:List D}(e:F a=some (.tup xs))(h:DaAll K F xs ds):Walks K (QL K a) F ds:=λi H F1 s1 s2=>by
 have q:=SqT.of (K:=K) (s2 _ _ (s1 _ _ e))
 refine ⟨λd ed=>?_,λhl=>⟨xs,q,by rw[h.length];omega⟩⟩
 obtain⟨v,h1,h2⟩:=h.get ed
 refine ⟨⟨xs,v,q,h1⟩,λx H' ⟨e1,e2⟩=>?_⟩
 subst e1
 have:=e2 xs q
 rw[h1]at this;cases this
 exact ⟨F1,Sub.refl _,λ_ _ z=>.inl z,s2,Sub.refl _,h2.mono s1⟩
theorem G9{K:Fg}{a:TD}{σ:St}{H:Hp}{R:It->Hp->Prop}(h:FX K (DU a) σ H R):kE K (lift K a) σ H R:=by
 obtain⟨G,F,ρ,Qd,Rl,w,k⟩:=h
 refine ⟨G,F,ρ,_,Rl,w,λv H1 F1 r ρ1 s1 R1 r1 w1=>?_⟩
 obtain⟨F2,s2,R2,d2⟩:=r1.frz R1
 split at w1
 ·rename_i ds e
  rw[e]at d2
  cases d2 with
  | lst q t=>exact ⟨_,rfl,.inl ⟨⟨_,SqL.of (R2.sub _ _ q)⟩,k _ H1 F2 ds ρ1 (s1.trans s2) R2 (eG q t) w1⟩⟩
 ·rename_i ds e
  rw[e]at d2
  cases d2 with
  | tup q t=>exact ⟨_,rfl,.inr ⟨⟨_,SqT.of (R2.sub _ _ q)⟩,k _ H1 F2 ds ρ1 (s1.trans s2) R2 (FD q t) w1⟩⟩
 ·exact w1.elim
noncomputable def PQ(lo:Int)(n:Nat):List D:=(S1 n).map λ(i:Nat)=>j0 (lo+i)
theorem EU{K:Fg}{F:Hp}{lo:Int}{n:Nat}:Walks K (aL lo n) F (PQ lo n):=λi H F1 s1 s2=>by
 have hl:(PQ lo n).length=n:=by simp[PQ]
 refine ⟨λd ed=>?_,λh=>by rw[hl]at h;exact Nat.le_of_eq h⟩
 have hi:i < n:=by have:=wX ed;rw[hl]at this;exact this
 have e:(PQ lo n)[i]?=some (.int (lo+i)):=by simp[PQ,hi]
 rw[e]at ed;cases ed
 refine ⟨hi,λx H' ⟨e1,e2⟩=>?_⟩
 subst e1 e2
 exact ⟨F1,Sub.refl _,λ_ _ z=>.inl z,s2,Sub.refl _,.int _⟩
noncomputable def fG(a:AD):pF:=λρ Q=>AX [a] ρ λxs ρ1=>gX ρ1 xs λds=>match ds with
 | [.int j]=>-(2 ^ 62)<=j/\j < 2 ^ 62/\Q (PQ 0 j.toNat) ρ1
 | _=>False
theorem J9{K:Fg}{a:AD}{σ:St}{H:Hp}{R:It->Hp->Prop}(h:FX K (fG a) σ H R):Dq (DQ ([a].map (qQ K))) σ H R:=by
 obtain⟨G,F,ρ,Qd,Rl,w,k⟩:=h
 refine EX Rl w λvs H' F' xs ρ' sb R' o w1=>?_
 obtain⟨ds,ha,w1⟩:=gJ R' o w1
 split at w1
 ·rename_i j
  obtain⟨v,rfl,h1⟩:=ha.one
  cases h1.int
  exact ⟨j,rfl,w1.1,w1.2.1,k _ H' F' _ ρ' sb R' EU w1.2.2⟩
 ·exact w1.elim
noncomputable def fN(K:Fg)(F:Hp)(v:V)(ds:List D):Prop:=∃k a xs,v=.ref a/\(F a=some (match k with|Kd.l=>HO.lst xs|Kd.t=>HO.tup xs))/\DaAll K F xs ds
theorem RW{K:Fg}{H:Hp}{a:Addr}{xs:List V}{k:Kd}(e:H a=some (match k with|Kd.l=>HO.lst xs|Kd.t=>HO.tup xs)):Sq k K H a xs:=by
 cases k with
 | l=>exact SqL.of e
 | t=>exact SqT.of e
noncomputable def Tk:D->Option (List D)
 | .list ds=>some ds
 | .tuple ds=>some ds
 | _=>none
theorem wV{K:Fg}{F:Hp}{v:V}{d:D}{ds:List D}(h:Da K F v d)(e:Tk d=some ds):∃k a xs,v=.ref a/\(F a=some (match k with|Kd.l=>HO.lst xs|Kd.t=>HO.tup xs))/\DaAll K F xs ds:=by
 cases h with
 | lst q t=>cases e;exact ⟨.l,_,_,rfl,q,t⟩
 | tup q t=>cases e;exact ⟨.t,_,_,rfl,q,t⟩
 | non=>cases e
 | bl=>cases e
 | int=>cases e
 | str=>cases e
 | dk _ _=>cases e
 | dt _ _=>cases e
 | scr _=>cases e
 | exc _=>cases e
noncomputable def gG(ds es:List D):List D:=(ds.zip es).map λp=>W1 [p.1,p.2]
noncomputable def hG(a b:AD):pF:=λρ Q=>AX [a,b] ρ λxs ρ1=>match mX ρ1 xs with
 | false=>gX ρ1 xs λds=>match ds with
  | [x,y]=>match Tk x,Tk y with
   | some us,some ws=>Q (gG us ws) ρ1
   | _,_=>False
  | _=>False
 | true=>False
theorem iG{K:Fg}{F:Hp}{a b:Addr}{k1 k2:Kd}{xs ys:List V}{ds es:List D}(e1:F a=some (match k1 with|Kd.l=>HO.lst xs|Kd.t=>HO.tup xs))(h1:DaAll K F xs ds)
  (e2:F b=some (match k2 with|Kd.l=>HO.lst ys|Kd.t=>HO.tup ys)) (h2:DaAll K F ys es):Walks K (Ou K k1 k2 a b) F (gG ds es):=λi H F1 s1 s2=>by
 have q1:Sq k1 K H a xs:=RW (s2 _ _ (s1 _ _ e1))
 have q2:Sq k2 K H b ys:=RW (s2 _ _ (s1 _ _ e2))
 refine ⟨λd ed=>?_,λhl=>⟨xs,ys,q1,q2,?_⟩⟩
 ·simp only[gG,R0,Z4]at ed
  obtain⟨⟨x,y⟩,ez,rfl⟩:=ed
  rw[List.getElem?_zip_eq_some]at ez
  obtain⟨v,g1,g2⟩:=h1.get ez.1
  obtain⟨u,g3,g4⟩:=h2.get ez.2
  refine ⟨⟨xs,v,ys,u,q1,q2,g1,g3⟩,λz H' ⟨T,x1,x2,hT,ex,eH,f1,f2⟩=>?_⟩
  subst ex eH
  have f1:=f1 xs q1
  have f2:=f2 ys q2
  rw[g1]at f1;cases f1
  rw[g3]at f2;cases f2
  have fT:F1 T=none:=by
   cases z:F1 T with
   | none=>rfl
   | some o=>rw[s2 _ _ z]at hT;cases hT
  refine ⟨dX F1 T (.tup [v,u]),Sub.new fT,λc o ec=>?_,λc o ec=>?_,Sub.new hT,.tup JQ (.cons (g2.mono (s1.trans (Sub.new fT))) (.cons (g4.mono (s1.trans (Sub.new fT))) .nil))⟩
  ·by_cases z:c=T
   ·subst z;exact .inr hT
   ·rw[oQ z]at ec;exact .inl ec
  ·by_cases z:c=T
   ·subst z;rw[JQ]at ec ⊢;exact ec
   ·rw[oQ z]at ec ⊢;exact s2 _ _ ec
 ·simp only[gG,p0,List.length_zip]at hl
  rw[h1.length,h2.length]
  omega
theorem K9{K:Fg}{a b:AD}{σ:St}{H:Hp}{R:It->Hp->Prop}(h:FX K (hG a b) σ H R):kF K (DQ ([a,b].map (qQ K))) σ H R:=by
 obtain⟨G,F,ρ,Qd,Rl,w,k⟩:=h
 refine EX Rl w λvs H' F' xs ρ' sb R' o w1=>?_
 split at w1
 ·rename_i e
  obtain⟨ds,da,w1⟩:=xX R' e o w1
  split at w1
  ·rename_i x y
   split at w1
   ·rename_i us ws p1 p2
    cases da with
    | cons d1 t =>
     cases t with
     | cons d2 t =>
      cases t
      obtain⟨k1,a1,us',rfl,e1,g1⟩:=wV d1 p1
      obtain⟨k2,a2,ws',rfl,e2,g2⟩:=wV d2 p2
      exact ⟨k1,a1,us',k2,a2,ws',rfl,RW (R'.sub _ _ e1),RW (R'.sub _ _ e2),k _ H' F' _ ρ' sb R' (iG e1 g1 e2 g2) w1⟩
   ·exact w1.elim
  ·exact w1.elim
 ·exact w1.elim
noncomputable def iq:D->Option HQ
 | .int i=>some (.inl i)
 | .str x=>some (.inr x)
 | _=>none
theorem uF(k:HQ):iq (OX k)=some k:=by cases k<;>rfl
theorem vF{d:D}{k:HQ}(h:iq d=some k):d=OX k:=by
 cases d<;>first|(cases h;rfl)|cases h
noncomputable def GD:List D->Option (List HQ)
 | []=>some []
 | d :: ds=>match iq d,GD ds with
  | some k,some ks=>some (k :: ks)
  | _,_=>none
theorem FU:∀ks:List HQ,GD (ks.map OX)=some ks
 | []=>rfl
 | k :: ks=>by simp[GD,uF,FU ks]
theorem GU:∀{ds:List D}{ks:List HQ},GD ds=some ks->ds=ks.map OX
 | [],ks,h=>by cases h;rfl
 | d :: ds,ks,h=>by
  unfold GD at h
  split at h
  ·rename_i k ks' e1 e2
   cases h
   rw[vF e1,GU e2];rfl
  ·cases h
noncomputable def YK(es:List (D×D))(k:HQ):Option D:=(es.find? λe=>decide (iq e.1=some k)).map (·.2)
noncomputable def HU:D->Option (List HQ)
 | .tuple ds=>GD ds
 | _=>none
noncomputable def xV(es:List (D×D))(k:List HQ):Option D:=(es.find? λe=>decide (HU e.1=some k)).map (·.2)
section
variable {K:Fg}{F H:Hp}
theorem DaKV.val(k:HQ):∀{kvs:List (HQ×V)}{es:List (D×D)},DaKV K F kvs es->match YK es k,YZ kvs k with|some d,some v=>Da K F v d|none,none=>True|_,_=>False
 | _,_,.nil=>trivial
 | _,_,.cons (k:=k') (v:=v) (d:=d) (kvs:=kvs) (es:=es) h t=>by
  have ih:=DaKV.val k t
  unfold YK YZ at ih ⊢
  simp only[V3,uF,Option.some.injEq]
  by_cases e:k'=k
  ·subst e;simp;exact h
  ·have e':decide (k'=k)=false:=decide_eq_false e
   simp only[e']
   exact ih
theorem DaKT.val(k:List HQ):∀{kvs:List (List HQ×V)}{es:List (D×D)},DaKT K F kvs es->match xV es k,YZ kvs k with|some d,some v=>Da K F v d|none,none=>True|_,_=>False
 | _,_,.nil=>trivial
 | _,_,.cons (ks:=k') (v:=v) (d:=d) (kvs:=kvs) (es:=es) h t=>by
  have ih:=DaKT.val k t
  unfold xV YZ at ih ⊢
  simp only[V3,HU,FU,Option.some.injEq]
  by_cases e:k'=k
  ·subst e;simp;exact h
  ·have e':decide (k'=k)=false:=decide_eq_false e
   simp only[e']
   exact ih
theorem At.dict{v:V}{es:List (D×D)}(s:Sub F H)(h:At K F H v (.dict es)):∃a,v=.ref a/\((∃kvs,Rd H a (.dK kvs)/\DaKV K F kvs es)\/(∃kvs,Rd H a (.dT kvs)/\DaKT K F kvs es)\/∃k0 d0,es=[(k0,d0)]/\iq k0=Option.none/\HU k0=Option.none):=by
 rcases h with h|⟨a,o,rfl,_,e,h⟩
 ·cases h with
  | dk q t=>exact ⟨_,rfl,.inl ⟨_,s.rd q,t⟩⟩
  | dt q t=>exact ⟨_,rfl,.inr (.inl ⟨_,s.rd q,t⟩)⟩
  | scr q=>exact ⟨_,rfl,.inr (.inr ⟨_,_,rfl,rfl,rfl⟩)⟩
  | exc q=>exact ⟨_,rfl,.inr (.inr ⟨_,_,rfl,rfl,rfl⟩)⟩
 ·cases o<;>first|exact h.elim|exact ⟨_,rfl,.inl ⟨_,.inl e,h⟩⟩|exact ⟨_,rfl,.inr (.inl ⟨_,.inl e,h⟩)⟩
theorem DaAll.keys:∀{xs:List V}{ks:List HQ},DaAll K F xs (ks.map OX)->xs=ks.map kV
 | [],[],_=>rfl
 | x :: xs,k :: ks,.cons h t=>by
  have e:x=kV k:=by cases k<;>(cases h;rfl)
  rw[e,DaAll.keys t];rfl
theorem At.key{v:V}{d:D}{k:HQ}(h:At K F H v d)(e:iq d=some k):v=kV k:=by
 have:=vF e
 subst this
 cases k with
 | inl i=>exact h.int
 | inr x=>exact h.str
theorem At.keyTup{v:V}{d:D}{k:List HQ}(s:Sub F H)(h:At K F H v d)(e:HU d=some k):∃b,v=.ref b/\H b=some (.tup (k.map kV)):=by
 cases d<;>first|cases e|skip
 rename_i ds
 have:=GU e
 subst this
 obtain⟨a,xs,rfl,_,e1,d1⟩:=h.tuple s
 have:=d1.keys
 subst this
 exact ⟨a,rfl,e1⟩
theorem Uk{es:List (D×D)}{k0:D}(e:∃d0,es=[(k0,d0)]/\iq k0=none/\HU k0=none)(k:HQ):YK es k=none:=by obtain⟨d0,rfl,e,_⟩:=e;simp[YK,e]
theorem Vk{es:List (D×D)}{k0:D}(e:∃d0,es=[(k0,d0)]/\iq k0=none/\HU k0=none)(k:List HQ):xV es k=none:=by obtain⟨d0,rfl,_,e⟩:=e;simp[xV,e]
theorem HD(e:D×D)(es:List (D×D))(k:HQ)(h:iq e.1=none):YK (e :: es) k=YK es k:=by simp[YK,V3,h]
theorem ID(e:D×D)(es:List (D×D))(k:List HQ)(h:HU e.1=none):xV (e :: es) k=xV es k:=by simp[xV,V3,h]
theorem Mz(k:HQ):∀{kvs:List (List HQ×V)}{es:List (D×D)},DaKT K F kvs es->YK es k=none
 | _,_,.nil=>rfl
 | _,_,.cons h t=>by rw[HD _ _ _ rfl];exact Mz k t
theorem Nz(k:List HQ):∀{kvs:List (HQ×V)}{es:List (D×D)},DaKV K F kvs es->xV es k=none
 | _,_,.nil=>rfl
 | _,_,.cons (k:=k') h t=>by rw[ID _ _ _ (by cases k'<;>rfl)];exact Nz k t
end
noncomputable def Xk(es:List (D×D))(k:D):Option D:=match iq k with
 | some k=>YK es k
 | none=>match HU k with
  | some ks=>xV es ks
  | none=>none
noncomputable def Sv:D->D->(Sl->Prop)->Prop
 | .dict es,k,Q=>∃d,Xk es k=some d/\Q (.fz d)
 | _,_,_=>False
theorem JD{K:Fg}{F H:Hp}{x y:V}{es:List (D×D)}{k d:D}(s:Sub F H)(h1:At K F H x (.dict es))(h2:At K F H y k)(e:Xk es k=some d):∃a v,x=.ref a/\NH H a y (some v)/\Da K F v d:=by
 obtain⟨a,rfl,h⟩:=h1.dict s
 unfold Xk at e
 split at e
 ·rename_i k' ek
  have hy:=h2.key ek
  subst hy
  rcases h with⟨kvs,q,t⟩|⟨kvs,q,t⟩|⟨ns,q⟩
  ·have:=t.val k'
   rw[e]at this
   cases ev:YZ kvs k' with
   | none=>rw[ev]at this;exact this.elim
   | some v=>rw[ev]at this;exact ⟨a,v,rfl,.inl ⟨kvs,k',q,rfl,ev.symm⟩,this⟩
  ·rw[Mz _ t]at e;cases e
  ·rw[Uk q]at e;cases e
 ·split at e
  ·rename_i ks ek
   obtain⟨b,rfl,hb⟩:=h2.keyTup s ek
   rcases h with⟨kvs,q,t⟩|⟨kvs,q,t⟩|⟨ns,q⟩
   ·rw[Nz _ t]at e;cases e
   ·have:=t.val ks
    rw[e]at this
    cases ev:YZ kvs ks with
    | none=>rw[ev]at this;exact this.elim
    | some v=>rw[ev]at this;exact ⟨a,v,rfl,.inr ⟨kvs,ks,b,q,rfl,hb,ev.symm⟩,this⟩
   ·rw[Vk q]at e;cases e
  ·cases e
noncomputable def lE:R2:=λx y H Q=>∃a v,x=.ref a/\NH H a y (some v)/\Q v H
theorem Yk{K:Fg}:WQ K (uK lE) (o2 Sv):=bG λG F σ H ρ x y d e Q Qd R h1 h2 w k=>by
 match d,h1,w with
 | .dict es,h1,⟨d',w1,w2⟩ =>
  obtain⟨a,v,rfl,g,dv⟩:=JD R.sub h1 h2 w1
  exact ⟨a,v,rfl,g,k _ H F (.fz _) (Sub.refl _) R dv w2⟩
open PySem PySem.Spec PyProof.Rows L2
noncomputable def KQ:Expr->Bool
 | .Starred _ _=>false
 | _=>true
theorem rQ{e:Expr}{es:List Expr}{env:Env}(h:KQ e=true):starEach (e :: es) env=(false,eval e env) :: starEach es env:=by
 cases e<;>first|rfl|cases h
theorem qX{env:Env}{pos:Pos}:∀{es:List Expr},es.all KQ=true->(backTo pos (starEach es env)).any (·.1)=false:=by
 intro es
 induction es with
 | nil=>intro _;rfl
 | cons e es ih =>
  intro h
  simp only[List.all_cons,Q4]at h
  rw[rQ h.1]
  have:=ih h.2
  simp[backTo]at this ⊢
  exact this
noncomputable def yV:Expr->Bool
 | .Set _ _ _=>false
 | _=>true
theorem FK{e:Expr}{env:Env}(h:yV e=true)(x:Value):foldedSetIterable e env x=pure x:=by
 cases e<;>first|rfl|cases h
noncomputable def zV:Expr->Bool
 | .ListComp _ _ _ _=>false
 | .SetComp _ _ _ _=>false
 | .DictComp _ _ _ _ _=>false
 | _=>true
theorem IU{e:Expr}{t:Option Expr}{n:Nat}{env:Env}(h:zV e=true):swapsWith e t n env=pure false:=by
 cases e<;>first|rfl|cases h
section
variable {X:Cx}{K:Fg}
theorem NK{e:Expr}{t t':TE}(h:PE X e t)(m:∀{σ H Q},t' σ H Q->t σ H Q):PE X e t':=λpins s σ H Q I w=>h pins s σ H Q I (m w)
theorem mL{e:Expr}{t t':TT}(h:PT X e t)(m:∀{σ H Q},t' σ H Q->t σ H Q):PT X e t':=λpins s σ H Q I w=>h pins s σ H Q I (m w)
theorem MM{e:Expr}{t t':TT}(h:PW X e t)(m:∀{σ H Q},t' σ H Q->t σ H Q):PW X e t':=λwh pins s σ H Q I w=>h wh pins s σ H Q I (m w)
theorem Ex{e:Stmt}{t t':TS}(h:PS X e t)(m:∀{D σ H},t' D σ H->t D σ H):PS X e t':=λpins s σ H D I w=>h pins s σ H D I (m w)
theorem mE{e:List Stmt}{t t':TS}(h:PSs X e t)(m:∀{D σ H},t' D σ H->t D σ H):PSs X e t':=λpins s σ H D I w=>h pins s σ H D I (m w)
theorem jM{e:Expr}{t t':TG}(h:PG X e t)(m:∀{v σ H Q},t' v σ H Q->t v σ H Q):PG X e t':=by
 unfold PG at h ⊢
 intros
 exact h _ _ _ _ _ _ _ (by assumption) (by assumption) (m (by assumption))
theorem nL{g e:Expr}{t t':TI}(h:PI X g e t)(m:∀{σ H R},t' σ H R->t σ H R):PI X g e t':=λpins s σ H R I w=>h pins s σ H R I (m w)
theorem kM{es:List Expr}{t t':TT}(h:gz X es t)(m:∀{σ H Q},t' σ H Q->t σ H Q):gz X es t':=λpins s σ H Q I w=>h pins s σ H Q I (m w)
theorem Zk{e:Expr}{es:List Expr}{a:AD}{as:List AD}(ha:PE X e (qQ K a))(hr:PA X es (DQ (as.map (qQ K))))(hs:starEach (e :: es) X.env=(false,eval e X.env) :: starEach es X.env:=by exact rQ rfl):PA X (e :: es) (DQ ((a :: as).map (qQ K))):=WJ ha hr hs
variable {e:Expr}{a b c:AD}{as:List AD}{td te:TD}{tc td':CK}
theorem L9{i:Nat}(h:PE X e (DX i)):PE X e (lift K (Gk i)):=NK h TC
theorem aw{v:V}{d:D}(hv:∀F,Da K F v d)(h:PE X e (tC v)):PE X e (lift K (dC d)):=NK h (cN hv)
theorem pL{r:R2}{f:D->D->(Sl->Prop)->Prop}(ok:WQ K (uK r) (o2 f))(h:PE X e (Ax r (qQ K a) (qQ K b))):PE X e (lift K (fY [a,b] (o2 f))):=NK h λq=>VH (CY ok q)
theorem gN{r:V->Hp->VK->Prop}{f:D->(Sl->Prop)->Prop}(ok:WQ K (KM r) (o1 f))(h:PE X e (IM r (qQ K a))):PE X e (lift K (fY [a] (o1 f))):=NK h λq=>Fk (CY ok q)
theorem NM{r:List V->Hp->VK->Prop}{f:List D->(Sl->Prop)->Prop}(ok:WQ K r f)(h:PE X e (EC r (DQ (as.map (qQ K))))):PE X e (lift K (fY as f)):=NK h λq=>CY ok q
theorem M9(hl:as.length<=1000)(h:PE X e (ou (DQ (as.map (qQ K))))):PE X e (lift K (ED as Iz)):=NK h (iE hl)
theorem N9(hl:as.length<=1000)(h:PE X e (qu (DQ (as.map (qQ K))))):PE X e (lift K (ED as Jz)):=NK h (jE hl)
theorem O9(h:PE X e (nq (lift K td) (lift K te))):PE X e (lift K (vz td te)):=NK h Tu
theorem P9(h:PE X e (oq (lift K td))):PE X e (lift K (wz td)):=NK h Uu
theorem nE(h:PE X e (ML (yQ K tc) (lift K td) (lift K te))):PE X e (lift K (ZL tc td te)):=NK h aM
theorem oE{con:Con}{E:XK}(h:PE X e (qY (lQ K con) [] E (DQ (as.map (qQ K))))):PE X e (lift K (Dz con as)):=NK h y9
theorem Q9{con:Con}{E:XK}{i:Nat}(h:PE X e (qY (lQ K con) [] E (DQ ((Sum.inl i :: as).map (qQ K))))):PE X e (lift K (vV con i as)):=NK h Lk
theorem lM{i:Nat}{r:V->List V->Hp->VK->Prop}{f:List D->List D->(D->D->Prop)->Prop}(ok:Dx K r f)(h:PE X e (JM K "list" r (DX i) (DQ (as.map (qQ K))))):PE X e (lift K (NW i as f)):=NK h λq=>by
 obtain⟨a,xs,e1,sq,w⟩:=Kz ok q
 exact ⟨_,e1,.inl ⟨rfl,xs,sq⟩,w⟩
theorem pE{i:Nat}{r:V->List V->Hp->VK->Prop}{f:List D->List D->(D->D->Prop)->Prop}(ok:Dx K r f)(h:PE X e (HC K "list" r (DX i))):PE X e (lift K (NW i [] f)):=NK h λq=>by
 obtain⟨a,xs,e1,sq,w⟩:=Kz ok q
 exact ⟨_,e1,.inl ⟨rfl,xs,sq⟩,w⟩
theorem iN{r:R2}{f:D->D->(Sl->Prop)->Prop}(ok:WQ K (uK r) (o2 f))(h:PT X e (iU (Ax r (qQ K a) (qQ K b)))):PT X e (yQ K (WH (fY [a,b] (o2 f)))):=mL h λq=>uz (λz=>VH (CY ok z)) q
theorem R9(h:PT X e (tB (lift K td))):PT X e (yQ K (WH td)):=mL h λq=>uz (λz=>z) q
theorem Oz{p q:Int->Int->Bool}(h:PT X e (iU (EH (aY λi j=>.bl (p i j)) (aY λi j=>.bl (q i j)) (qQ K a) (qQ K b) (qQ K c)))):PT X e (yQ K (WH (cG p q a b c))):=mL h λz=>uz (λy=>Nk y) z
theorem S9(h:PT X e (Py (yQ K tc))):PT X e (yQ K (Ru tc)):=mL h VC
theorem T9(h:PW X e (Oy (yQ K tc) (yQ K td'))):PW X e (yQ K (Su tc td')):=MM h WC
theorem qE(h:PW X e (LL (yQ K tc) (yQ K td'))):PW X e (yQ K (XL tc td')):=MM h YL
variable {st:Stmt}{sts:List Stmt}{t u:HJ}
theorem bw(h:PSs X sts tq):PSs X sts (vQ K xz):=mE h Xu
theorem U9(h:PSs X sts (Xy (vQ K t) (vQ K u))):PSs X sts (vQ K (yz t u)):=mE h YC
theorem V9(h:PS X st (wq (lift K td))):PS X st (vQ K (Vu td)):=Ex h ZC
theorem cw{i:Nat}(h:PS X st (wq (DX i))):PS X st (vQ K (oF i)):=Ex h Zu
theorem dw(h:PS X st (vq (lift K td))):PS X st (vQ K (zz td)):=Ex h Yu
theorem rE(h:PS X st (Yy (yQ K tc) (vQ K t) (vQ K u))):PS X st (vQ K (Wu tc t u)):=Ex h aE
theorem W9{i:Nat}(h:PS X st (oY (lift K td) (UJ i))):PS X st (vQ K (wD i td)):=Ex h Mv
theorem sE{j:Nat}(h:PS X st (oY (lift K td) (bu (DX j) (qQ K a) cF))):PS X st (vQ K (dG j a td)):=Ex h Sk
theorem Pz(h:PS X st (BH (yQ K tc) (vQ K t))):PS X st (vQ K (XH tc t)):=Ex h Hk
noncomputable def Qz(g:HZ)(a:TD):HJ:=λE ρ=>a ρ λr ρ'=>g r.d ρ' E.nx
theorem X9{g:HZ}{E:Ends}{σ:L2.St}{H:Hp}(h:vQ K (Qz g td) E σ H):oY (lift K td) (ZQ K g) E σ H:=by
 obtain⟨G,F,ρ,D,R,w,n,r,b,c⟩:=h
 refine ⟨G,F,ρ,_,R,w,λv H' F' x ρ' s R' r' q=>?_⟩
 obtain⟨F2,s2,R2,d2⟩:=r'.frz R'
 exact ⟨G,F2,ρ',x.d,_,R2,d2,q,λσ3 ρ3 R3 w3=>n σ3 H' F2 ρ3 (s.trans s2) R3 w3⟩
theorem fw{g:HZ}(h:PS X st (oY (lift K td) (ZQ K g))):PS X st (vQ K (Qz g td)):=Ex h X9
theorem gw{i:Nat}(h:PG X e (UJ i)):PG X e (ZQ K (t9 i)):=jM h bM
theorem Y9{n:Nat}{gs:List HZ}(h:PG X e (Wx K n (WK (gs.map (ZQ K)))))(hn:gs.length=n:=by rfl):PG X e (ZQ K (kL gs)):=jM h (cM hn)
theorem Rz{es:List Expr}{g:HZ}{gs:List HZ}(h1:PG X e (ZQ K g))(h2:Rx X es (WK (gs.map (ZQ K))))(hs:(assignEach (e :: es) X.env).map (·.2)=assign e X.env :: (assignEach es X.env).map (·.2):=by rfl):Rx X (e :: es) (WK ((g :: gs).map (ZQ K))):=yq h1 h2 hs
theorem iw:gz X [] (yQ K vD):=kM Lu XC
variable {tg:Expr}
theorem jw{l:Expr}{tl:TE}(hK:X.K=K)(hl:PE X l tl):PI X tg l (kE K tl):=by
 subst hK
 intro pins s σ H R I h
 refine pX (hl pins s σ H _ I h) λv s1 ⟨x,H1,I1,r1,q1⟩=>?_
 obtain⟨a,e,q1⟩:=q1
 subst e
 cases r1
 rcases q1 with⟨⟨xs,hq⟩,q⟩|⟨⟨xs,hq⟩,q⟩
 ·obtain⟨its,rv,p,hz⟩:=I1.list hq
  refine wpAny_pyIter_list p.isList ?_
  refine ⟨s1.heap.objs.size,[s1.heap.objs.size],_,_,H1,rfl,I1.kept (t':=s1.toks) λb o e=>n0 _ e,gD a _,⟨_,L0 _ rfl,rfl,rfl⟩,λb hb=>?_,q⟩
  have e:b=s1.heap.objs.size:=by simpa using hb
  subst e
  exact I1.fpOk (B0 _) (I1.hok.fresh (B0 _))
 ·obtain⟨its,rv,p,hz⟩:=I1.tuple hq
  refine wpAny_pyIter_tuple (show s1.heap.IsTuple a its.toArray from p) ?_
  refine ⟨s1.heap.objs.size,[s1.heap.objs.size],_,_,H1,rfl,I1.kept (t':=s1.toks) λb o e=>n0 _ e,CH a _,⟨_,L0 _ rfl,rfl,rfl⟩,λb hb=>?_,q⟩
  have e:b=s1.heap.objs.size:=by simpa using hb
  subst e
  exact I1.fpOk (B0 _) (I1.hok.fresh (B0 _))
theorem Z9{l:Expr}(hK:X.K=K)(hl:PE X l (lift K td)):PI X tg l (FX K (DU td)):=nL (jw hK hl) G9
theorem kw{l:Expr}(h:PI X tg l (Dq (DQ ([a].map (qQ K))))):PI X tg l (FX K (fG a)):=nL h J9
theorem lw{l:Expr}(h:PI X tg l (kF K (DQ ([a,b].map (qQ K))))):PI X tg l (FX K (hG a b)):=nL h K9
noncomputable def tE(_ j:Int):Prop:=0 < j
theorem op_catB:OpR X (binaryOp .Add) Gz:=by
 intro pins s σ H x y v u Q I rx ry h
 obtain⟨a,b,xs,ys,rfl,rfl,ha,hb,hz,q1,q2,q3⟩:=h
 have ha':SqT X.K H a xs:=SqT.of ha
 have hb':SqT X.K H b ys:=SqT.of hb
 by_cases hx:xs=[]
 ·subst hx
  cases rx
  cases ry
  obtain⟨its,r1,p1,_⟩:=I.tuple ha'
  obtain⟨its2,r2,p2,_⟩:=I.tuple hb'
  cases r1
  exact qz p1 p2 ⟨.ref b,H,I,rfl,q1 rfl⟩
 ·exact fk pins s σ H (.ref a) (.ref b) v u Q I rx ry ⟨a,b,xs,ys,rfl,rfl,ha',hb',hx,hz,λe=>q2 hx e,λe p hp=>q3 hx e p hp⟩
theorem eQ:OpR X (binaryOp .Add) (ZZ (aY λi j=>.int (i+j)) (ZZ Gz Bu)):=op_add.or (op_catB.or Cu)
theorem PZ:OpR X (binaryOp .Mult) (ZZ (rI CMul λi j=>.int (i * j)) Du):=op_mul.or Eu
theorem wZ:WQ K (uK (aY λi j=>.int (i - j))) (o2 (Nv λi j=>.int (i - j))):=tF λ_ _ _=>.int _
theorem kK:WQ K (uK (rI ju λi j=>.int (i / j))) (o2 (fI ju λi j=>.int (i / j))):=A9 λ_ _ _=>.int _
theorem KJ:WQ K (uK (rI (λ_ j=>0 < j) λi j=>.int (i % j))) (o2 (fI tE λi j=>.int (i % j))):=A9 (C:=tE) λ_ _ _=>.int _
theorem Sz:WQ K (uK (rI ku λi j=>.int (i ^ j.toNat))) (o2 (fI ku λi j=>.int (i ^ j.toNat))):=A9 λ_ _ _=>.int _
theorem JY:WQ K (uK (aY λi j=>.bl (decide (i < j)))) (o2 (Nv λi j=>.bool (decide (i < j)))):=tF λ_ _ _=>.bl _
theorem SW:WQ K (uK (aY λi j=>.bl (decide (j < i)))) (o2 (Nv λi j=>.bool (decide (j < i)))):=tF λ_ _ _=>.bl _
theorem Tv:WQ K (uK (aY λi j=>.bl (decide (j<=i)))) (o2 (Nv λi j=>.bool (decide (j<=i)))):=tF λ_ _ _=>.bl _
theorem AV(hK:X.K=K):IxR X (ZZ (kU K) (lU K)):=(nz hK).or (Bk hK)
end
mutual
noncomputable def IQ:D->Bool
 | .none=>true
 | .bool _=>true
 | .int _=>true
 | .str _=>true
 | .list xs=>plainAll xs
 | .tuple xs=>plainAll xs
 | .dict _=>false
noncomputable def plainAll:List D->Bool
 | []=>true
 | x :: xs=>IQ x&&plainAll xs
end
section
variable {K:Fg}{F H:Hp}
mutual
theorem Da.is(s:Sub F H):∀{v:V}{d:D},Da K F v d->IQ d=true->Is K H v d
 | _,_,.non,_=>.non
 | _,_,.bl b,_=>.bl b
 | _,_,.int i,_=>.int i
 | _,_,.str x,_=>.str x
 | _,_,.lst e t,z=>.lst (SqL.of (s _ _ e)) (DaAll.is s t (by simpa [IQ]using z))
 | _,_,.tup e t,z=>.tup (SqT.of (s _ _ e)) (DaAll.is s t (by simpa [IQ]using z))
 | _,_,.dk _ _,z=>by simp[IQ]at z
 | _,_,.dt _ _,z=>by simp[IQ]at z
 | _,_,.scr _,z=>by simp[IQ,uZ]at z
 | _,_,.exc _,z=>by simp[IQ,SC]at z
theorem DaAll.is(s:Sub F H):∀{xs:List V}{ds:List D},DaAll K F xs ds->plainAll ds=true->IsAll K H xs ds
 | _,_,.nil,_=>.nil
 | _,_,.cons a t,z=>by
  simp[plainAll]at z
  exact .cons (Da.is s a z.1) (DaAll.is s t z.2)
end
theorem At.is{v:V}{d:D}(s:Sub F H)(h:At K F H v d)(p:IQ d=true):Is K H v d:=by
 rcases h with h|⟨a,o,rfl,_,e,h⟩
 ·exact h.is s p
 ·cases o<;>cases d<;>first|exact h.elim|(simp[IQ]at p)|skip
  ·rename_i xs ds
   exact .lst (SqL.of e) (DaAll.is s h (by simpa [IQ]using p))
end
noncomputable def mw(x y:D)(Q:Sl->Prop):Prop:=IQ x=true/\IQ y=true/\SeqAt.shaped x=true/\SeqAt.shaped y=true/\SeqAt.noMix x y=true/\Q (.fz (.bool (same x y)))
noncomputable def qw(x y:D)(Q:Sl->Prop):Prop:=IQ x=true/\IQ y=true/\SeqAt.shaped x=true/\SeqAt.shaped y=true/\SeqAt.noMix x y=true/\Q (.fz (.bool (!same x y)))
noncomputable def OM:D->D->(Sl->Prop)->Prop
 | .int i,.int j,Q=>Q (.fz (.bool (decide (i=j))))
 | .list xs,y,Q=>mw (.list xs) y Q
 | .tuple xs,y,Q=>mw (.tuple xs) y Q
 | .str x,.str y,Q=>Q (.fz (.bool (decide (x=y))))
 | x,y,Q=>mw x y Q
noncomputable def PM:D->D->(Sl->Prop)->Prop
 | .int i,.int j,Q=>Q (.fz (.bool (!decide (i=j))))
 | .list xs,y,Q=>qw (.list xs) y Q
 | .tuple xs,y,Q=>qw (.tuple xs) y Q
 | .str x,.str y,Q=>Q (.fz (.bool (!decide (x=y))))
 | x,y,Q=>qw x y Q
theorem JX{K:Fg}:WQ K (uK (ZZ cL (tW K false))) (o2 OM):=bG λG F σ H ρ x y d e Q Qd R h1 h2 w k=>by
 have gen:mw d e Qd->ZZ cL (tW K false) x y H Q:=λ⟨p1,p2,p3,p4,p5,w⟩=>.inr ⟨d,e,h1.is R.sub p1,h2.is R.sub p2,p3,p4,p5,k _ H F (.fz _) (Sub.refl _) R (Da.bl _) w⟩
 unfold OM at w
 split at w
 ·rename_i i j
  cases h1.int
  cases h2.int
  refine .inl ⟨rfl,k _ H F (.fz _) (Sub.refl _) R (Da.bl _) ?_⟩
  have e:decide (V.int i=V.int j)=decide (i=j):=by rw[bY,X5]
  rw[e];exact w
 ·exact gen w
 ·exact gen w
 ·rename_i i j
  cases h1.str
  cases h2.str
  refine .inl ⟨rfl,k _ H F (.fz _) (Sub.refl _) R (Da.bl _) ?_⟩
  have e:decide (V.str i=V.str j)=decide (i=j):=by rw[cY,X5]
  rw[e];exact w
 ·exact gen w
theorem KY{K:Fg}:WQ K (uK (ZZ dL (tW K true))) (o2 PM):=bG λG F σ H ρ x y d e Q Qd R h1 h2 w k=>by
 have gen:qw d e Qd->ZZ dL (tW K true) x y H Q:=λ⟨p1,p2,p3,p4,p5,w⟩=>.inr ⟨d,e,h1.is R.sub p1,h2.is R.sub p2,p3,p4,p5,k _ H F (.fz _) (Sub.refl _) R (Da.bl _) w⟩
 unfold PM at w
 split at w
 ·rename_i i j
  cases h1.int
  cases h2.int
  refine .inl ⟨rfl,k _ H F (.fz _) (Sub.refl _) R (Da.bl _) ?_⟩
  have e:decide (V.int i=V.int j)=decide (i=j):=by rw[bY,X5]
  rw[e];exact w
 ·exact gen w
 ·exact gen w
 ·rename_i i j
  cases h1.str
  cases h2.str
  refine .inl ⟨rfl,k _ H F (.fz _) (Sub.refl _) R (Da.bl _) ?_⟩
  have e:decide (V.str i=V.str j)=decide (i=j):=by rw[cY,X5]
  rw[e];exact w
 ·exact gen w
theorem nX{X:Cx}{K:Fg}(hK:X.K=K)(hu:X.A.units+64 < cLine):OpR X (compareOp .Eq) (ZZ cL (tW K false)):=op_eq.or (Ck hK hu)
theorem LJ{X:Cx}{K:Fg}(hK:X.K=K)(hu:X.A.units+64 < cLine):OpR X (compareOp .NotEq) (ZZ dL (tW K true)):=op_ne.or (Dk hK hu)
section
variable {P:Program}{w:World}{K:Fg}{mg:Str->Option Value}{base:Heap}
theorem jN{x qual:Str}{st:Stmt}{f:Addr}{fd:FuncData}{N ps:List Str}{k:Nat}{con:Con}{ts:HJ}(F:Fun K x qual st f fd)(S:FnScope N ps (jQ st))
  (hb:∀(cdv:Value) (A:Around) (outer:List Env) (s:Shared) (H:Hp) (E:XK),Room k (A.deeper (envOfC qual (jQ st) s.heap.objs.size f cdv))->PSs (jU WZ P w K mg base N qual (jQ st) f cdv A outer s H E).nox (TX st) (vQ K ts))
  (hl:∀args Qd,con args Qd->args.length=ps.length) (hc:∀args Qd,con args Qd->(∀s∈args,∀d,s≠.ow d)/\ts (aG args Qd) (IY N.length args)):FnOk P w K mg base WZ (k+1) f fd ps (lQ K con):=by
 refine F.ok S (λvs H Q E h=>?_) (λcdv A outer s H vs Q E hr h=>⟨_,hb cdv A outer s H E hr,bE hc h⟩)
 obtain⟨G,F',args,Qd,R,w',_⟩:=h
 have h1:=hl args Qd w'
 have h2:=R.len
 rw[p0,p0]at h2
 rw[h2,h1]
end
noncomputable def uE:List Sl->Bool
 | []=>true
 | .ow _ :: _=>false
 | _ :: as=>uE as
theorem BQ:∀{as:List Sl},uE as=true->∀s∈as,∀d,s≠.ow d
 | .fz _ :: as,h,s,hs,d,z=>by
  rcases K0.mp hs with e|e
  ·subst e;cases z
  ·exact BQ (as:=as) h s e d z
 | .io _ :: as,h,s,hs,d,z=>by
  rcases K0.mp hs with e|e
  ·subst e;cases z
  ·exact BQ (as:=as) h s e d z
theorem DaAll.intsV{K:Fg}{F:Hp}:∀{xs:List V}{ns:List Int},DaAll K F xs (ns.map j0)->xs=ns.map V.int
 | [],[],_=>rfl
 | x :: xs,b :: bs,.cons h t=>by cases h;simp[DaAll.intsV t]
noncomputable def vE(i j:Int):Prop:=-(2 ^ 62)<=i/\i < 2 ^ 62/\-(2 ^ 62)<=j/\j < 2 ^ 62
noncomputable def tw:List V->Hp->VK->Prop:=λxs H Q=>∃i j:Int,(xs=[.int i,.int j]\/(xs=[.int j]/\i=0))/\∀p,H p=none->Q (.ref p) (dX H p (.rng i j))
theorem Tz{X:Cx}:TQ X (.type "range") tw:=by
 intro pins s σ H xs us Q I r h
 obtain⟨i,j,hx,q⟩:=h
 have lay:∀(t u v:Tok) (tk:Nat),EP X pins σ Q (.ref s.heap.objs.size) { s with heap:=s.heap.push { cls:=.type "range",data:=.fields #[.int i t,.int j u,.int 1 v] },toks:=tk }:=λt u v tk =>
  ⟨.ref s.heap.objs.size,_,I.laid (t':=tk) (o:=.rng i j) (λb o e=>n0 _ e) (B0 _) ⟨t,u,v,L0 _ rfl⟩,rfl,q _ (I.hok.fresh (B0 _))⟩
 rcases hx with rfl|⟨rfl,rfl⟩
 ·obtain⟨u,w,rfl,ru,rw'⟩:=aJ r
  obtain⟨t,rfl⟩:=ru
  obtain⟨t',rfl⟩:=rw'
  exact call_range_2 (lay _ _ _ _)
 ·obtain⟨u,rfl,ru⟩:=XX r
  obtain⟨t,rfl⟩:=ru
  exact call_range_1 (lay _ _ _ _)
noncomputable def jY:List V->Hp->VK->Prop:=λxs H Q=>∃(p:Addr) (i j:Int),xs=[.ref p]/\H p=some (.rng i j)/\vE i j/\(j - i).toNat<=2 ^ 24/\∀l,H l=none->Q (.ref l) (dX H l (.lst ((S1 (j - i).toNat).map λ(n:Nat)=>V.int (i+n))))
theorem JU{X:Cx}(hc:X.calm=true):TQ X (.type "list") jY:=by
 intro pins s σ H xs us Q I r h
 obtain⟨p,i,j,rfl,hp,⟨b1,b2,b3,b4⟩,hz,q⟩:=h
 obtain⟨u,rfl,ru⟩:=XX r
 cases ru
 obtain⟨t,u,v,e⟩:=I.hok p _ hp
 have hn:Z7 i j 1=((j - i).toNat:Int):=by rw[rangeSize_one];split<;>omega
 refine call_list_range (I.ok.hd hc) e (small_one b1 b2 b3 b4) hn hz λh' tk acc' c' hk hS hacc=>?_
 refine ⟨.ref s.heap.objs.size,_,I.laid (t':=tk) (o:=.lst ((S1 (j - i).toNat).map λ(n:Nat)=>V.int (i+n))) hk (B0 _) ?_,rfl,q _ (I.hok.fresh (B0 _))⟩
 refine ⟨by rw[p0,G4];exact hz,acc'.toList,c',?_,by simpa using hS⟩
 have gen:∀(n:Nat) (ys:List Value),ys.length=n->(∀(k:Nat) (y:Value),ys[k]?=some y->∃t,y=.int (i+k * 1) t)->Vals ((S1 n).map λ(n:Nat)=>V.int (i+n)) ys:=by
  intro n
  induction n with
  | zero=>intro ys hl _;cases ys with|nil=>exact .nil|cons=>simp at hl
  | succ n ih =>
   intro ys hl hy
   rcases Y5 ys with rfl|⟨zs,z,rfl⟩
   ·simp at hl
   ·rw[List.concat_eq_append]at hl hy ⊢
    have hl':zs.length=n:=by simpa using hl
    rw[List.range_succ,E2]
    refine Vals.append (ih zs hl' λk y e=>hy k y (by rw[P2 (wX e)];exact e)) ?_
    obtain⟨t,rfl⟩:=hy n z (by rw[<- hl'];simp)
    exact .cons ⟨t,by simp⟩ .nil
 refine gen _ _ (by rw[W0];exact hacc.1) λk y e=>?_
 exact hacc.2 k y (by simpa using e)
section
variable {X:Cx}{K:Fg}{e:Expr}{a b:AD}
end
noncomputable def clean1(ρ:Ev)(i:Nat):Ev:=match ρ[i]? with
 | some (some (.io _))=>ρ
 | some _=>ρ.set i none
 | none=>ρ
noncomputable def clean(ks:List Nat)(ρ:Ev):Ev:=match ks with
 | []=>ρ
 | i :: r=>clean r (clean1 ρ i)
section
variable {K:Fg}{G:Gh}{F H:Hp}{σ:L2.St}{ρ:Ev}
theorem Rel.drop(R:Rel K G F σ H ρ){i:Nat}(hn:∀d,ρ[i]?≠some (some (Sl.io d))):Rel K G F σ H (ρ.set i none):=by
 refine ⟨by rw[v4];exact R.len,R.sub,R.sub0,R.fn,R.keep,λj d e=>?_,λj t e wt=>?_,λj d b e eb=>?_,λj b e=>?_,λj d e=>?_,λj k t u b e1 w1 e2 w2 e3 e4=>?_⟩
 ·rcases sQ e with⟨rfl,z⟩|⟨n,z⟩
  ·cases z
  ·exact R.fz j d z
 ·rcases sQ e with⟨rfl,z⟩|⟨n,z⟩
  ·cases z
  ·exact R.ow j t z wt
 ·rcases sQ e with⟨rfl,z⟩|⟨n,z⟩
  ·cases z
  ·exact R.new j d b z eb
 ·obtain⟨d',e1,e2⟩:=R.io j b e
  have n:i≠j:=λz=>by subst z;exact hn _ e1
  exact ⟨d',by rw[L1 n];exact e1,e2⟩
 ·rcases sQ e with⟨rfl,z⟩|⟨n,z⟩
  ·cases z
  ·exact R.ioi j d z
 ·rcases sQ e1 with⟨rfl,z⟩|⟨n,z⟩
  ·cases z
  ·rcases sQ e2 with⟨rfl,z'⟩|⟨n',z'⟩
   ·cases z'
   ·exact R.ap j k t u b z w1 z' w2 e3 e4
theorem Rel.clean1(R:Rel K G F σ H ρ)(i:Nat):Rel K G F σ H (clean1 ρ i):=by
 unfold L3.clean1
 split
 ·exact R
 ·rename_i e1 e2
  exact R.drop λd z=>by rw[e2]at z;cases z;exact e1 _ rfl
 ·exact R
theorem Rel.clean(ks:List Nat):∀{ρ:Ev},Rel K G F σ H ρ->Rel K G F σ H (clean ks ρ):=by
 induction ks with
 | nil=>intro ρ R;exact R
 | cons i r ih=>intro ρ R;exact ih (R.clean1 i)
end
noncomputable def lJ(ks:List Nat)(g:HZ)(tb:HJ)(E:DE):List D->Ev->Prop
 | [],ρ=>E.nx ρ
 | d :: ds,ρ=>g d ρ λρ'=>tb { nx:=λρ2=>lJ ks g tb E ds (clean ks ρ2),rt:=E.rt,bk:=λρ2=>E.nx (clean ks ρ2),ct:=λρ2=>lJ ks g tb E ds (clean ks ρ2) } ρ'
noncomputable def KU(ks:List Nat)(ti:pF)(g:HZ)(tb:HJ):HJ:=λE ρ=>ti ρ λds ρ'=>lJ ks g tb E ds (clean ks ρ')
theorem aB{K:Fg}{ks:List Nat}{ti:pF}{g:HZ}{tb:HJ}{E:Ends}{σ:L2.St}{H:Hp}(h:vQ K (KU ks ti g tb) E σ H):fu (FX K ti) (ZQ K g) (vQ K tb) E σ H:=by
 obtain⟨G,F,ρ,D,R,w,n,r,b,c⟩:=h
 refine ⟨G,F,ρ,_,R,w,λJ H1 F1 ds ρ1 s1 R1 wk w1=>?_⟩
 refine ⟨λi m σ H=>m=ds.length - i/\i<=ds.length/\∃F' ρ',Sub F1 F'/\Rel K G F' σ H ρ'/\lJ ks g tb D (ds.drop i) ρ',⟨ds.length,rfl,M4 _,F1,_,Sub.refl _,R1.clean ks,w1⟩,?_⟩
 rintro i m σ H ⟨rfl,hi,F',ρ',s',R',w'⟩
 obtain⟨hgo,hst⟩:=wk i H F' s' R'.sub
 cases e:ds[i]? with
 | none =>
  have hl:ds.length<=i:=O4.mp e
  refine .inl ⟨hst (by omega),?_⟩
  rw[J4 hl]at w'
  exact n σ H F' ρ' (s1.trans s') R' w'
 | some d =>
  obtain⟨go,yl⟩:=hgo d e
  have hl:=wX e
  rw[xU e]at w'
  refine .inr ⟨go,λσ2 H2=>∃F2 ρ2,Sub F1 F2/\Rel K G F2 σ2 H2 ρ2/\lJ ks g tb D (ds.drop (i+1)) ρ2,λσ2 H2 ⟨F2,ρ2,z1,z2,z3⟩=>⟨ds.length - (i+1),by omega,rfl,hl,F2,ρ2,z1,z2,z3⟩,λx H2 y=>?_⟩
  obtain⟨F2,t1,t2,t3,t4,t5⟩:=yl x H2 y
  have R2:=R'.turn t1 t2 t3 t4
  refine ⟨G,F2,ρ',d,_,R2,t5,w',λσ3 ρ3 R3 w3=>?_⟩
  refine ⟨G,F2,ρ3,_,R3,w3,λσ4 H4 F4 ρ4 s4 R4 q=>?_,λv σ4 H4 F4 x4 ρ4 s4 R4 r4 q=>?_,λσ4 H4 F4 ρ4 s4 R4 q=>?_,λσ4 H4 F4 ρ4 s4 R4 q=>?_⟩
  ·exact ⟨F4,_,s'.trans (t1.trans s4),R4.clean ks,q⟩
  ·exact r v σ4 H4 F4 x4 ρ4 (s1.trans (s'.trans (t1.trans s4))) R4 r4 q
  ·exact n σ4 H4 F4 _ (s1.trans (s'.trans (t1.trans s4))) (R4.clean ks) q
  ·exact ⟨F4,_,s'.trans (t1.trans s4),R4.clean ks,q⟩
theorem uw{X:Cx}{K:Fg}{st:Stmt}{t:HJ}(ks:List Nat){ti:pF}{g:HZ}(h:PS X st (fu (FX K ti) (ZQ K g) (vQ K t))):PS X st (vQ K (KU ks ti g t)):=Ex h aB
theorem mJ{ks:List Nat}{g:HZ}{tb:HJ}{E:DE}(J:List D->Ev->Prop)
  (hs:∀d ds ρ,J (d :: ds) ρ->∀N:Ev->Prop,(∀ρ2,J ds ρ2->N ρ2)->g d ρ λρ'=>tb { nx:=λρ2=>N (clean ks ρ2),rt:=E.rt,bk:=λρ2=>E.nx (clean ks ρ2),ct:=λρ2=>N (clean ks ρ2) } ρ')
  (hd:∀ρ,J [] ρ->E.nx ρ):∀{ds:List D}{ρ:Ev},J ds ρ->lJ ks g tb E ds ρ
 | [],ρ,h=>hd ρ h
 | d :: ds,ρ,h=>hs d ds ρ h _ λρ2 h2=>mJ J hs hd h2
noncomputable def cZ(n:Nat)(g:HZ)(tc:CK)(te:TD):List D->List D->Ev->(List D->Ev->Prop)->Prop
 | [],acc,τ,Q=>Q acc τ
 | d :: ds,acc,τ,Q=>g d τ λτ1=>tc τ1 λb τ2=>if b=true then te τ2 λr τ3=>cZ n g tc te ds (acc++[r.d]) (clean (S1 n) τ3) Q else cZ n g tc te ds acc (clean (S1 n) τ2) Q
noncomputable def LY(ti:pF)(own:List Str)(fr:List Nat)(g:HZ)(tc:CK)(te:TD):TD:=λρ Q=>ti ρ λds ρ1=>ds.length<=sizeLine/\cZ own.length g tc te ds [] (DY own fr ρ1) λys τ=>Q (.ow (.list ys)) (EK fr (τ.drop own.length) 0 ρ1)
theorem wF{K:Fg}{ti:pF}{own:List Str}{fr:List Nat}{g:HZ}{tc:CK}{te:TD}(nd:fr.Nodup){σ:L2.St}{H:Hp}{Q:VK}(h:lift K (LY ti own fr g tc te) σ H Q):BY (FX K ti) own fr (ZQ K g) (yQ K tc) (lift K te) σ H Q:=by
 obtain⟨G,F,ρ,Qd,R,w,k⟩:=h
 refine ⟨G,F,ρ,_,R,w,λJ H1 F1 ds ρ1 s1 R1 wk ⟨hz,w1⟩=>?_⟩
 have Ri:=R1.inner (own:=own) nd
 refine ⟨λi m ys τ H=>m=ds.length - i/\i<=ds.length/\∃F' ρ' acc,Rel K (Bx own fr F1 H1 σ ρ1) F' τ H ρ'/\DaAll K F' ys acc/\acc.length<=i/\cZ own.length g tc te (ds.drop i) acc ρ' (λys τ=>Qd (.ow (.list ys)) (EK fr (τ.drop own.length) 0 ρ1)),
   ⟨ds.length,rfl,M4 _,F1,_,[],Ri,.nil,M4 _,w1⟩,?_⟩
 rintro i m ys τ H' ⟨rfl,hi,F',ρ',acc,R',da,hl,w'⟩
 obtain⟨hgo,hst⟩:=wk i H' F' R'.sub0 R'.sub
 cases e:ds[i]? with
 | none =>
  have hl':ds.length<=i:=O4.mp e
  refine .inl ⟨hst (by omega),λDd hD=>?_⟩
  rw[J4 hl']at w'
  have Ro:=R1.outer R' nd
  obtain⟨Rn,rn⟩:=Ro.newOw (o:=.lst ys) (d:=.list acc) hD da
  exact k _ _ F' _ _ (s1.trans R'.sub0) Rn rn w'
 | some d =>
  obtain⟨go,yl⟩:=hgo d e
  have hlt:=wX e
  rw[xU e]at w'
  refine .inr ⟨go,by rw[da.length];omega,λys2 τ2 H2=>∃F2 ρ2 acc2,Rel K (Bx own fr F1 H1 σ ρ1) F2 τ2 H2 ρ2/\DaAll K F2 ys2 acc2/\acc2.length<=i+1/\cZ own.length g tc te (ds.drop (i+1)) acc2 ρ2 (λys τ=>Qd (.ow (.list ys)) (EK fr (τ.drop own.length) 0 ρ1)),
    λys2 τ2 H2 ⟨F2,ρ2,acc2,z1,z2,z3,z4⟩=>⟨ds.length - (i+1),by omega,rfl,hlt,F2,ρ2,acc2,z1,z2,z3,z4⟩,λx H2 y=>?_⟩
  obtain⟨F2,t1,t2,t3,t4,t5⟩:=yl x H2 y
  have R2:=R'.turn t1 t2 t3 t4
  refine ⟨_,F2,ρ',d,_,R2,t5,w',λτ3 ρ3 R3 w3=>?_⟩
  refine ⟨_,F2,ρ3,_,R3,w3,λb H4 F4 ρ4 s4 R4 w4=>?_⟩
  cases b with
  | false=>exact ⟨F4,_,acc,R4.clean _,da.mono (t1.trans s4),by omega,w4⟩
  | true =>
   refine ⟨_,F4,ρ4,_,R4,w4,λv H5 F5 r ρ5 s5 R5 r5 w5=>?_⟩
   obtain⟨F6,s6,R6,d6⟩:=r5.frz R5
   exact ⟨F6,_,acc++[r.d],R6.clean _,(da.mono (t1.trans (s4.trans (s5.trans s6)))).append (.cons d6 .nil),by simp;omega,w5⟩
section
variable {X:Cx}{K:Fg}{e:Expr}{st:Stmt}{ti:pF}{own:List Str}{fr:List Nat}{g:HZ}{tc:CK}{te:TD}
theorem Uz(nd:fr.Nodup)(h:PE X e (BY (FX K ti) own fr (ZQ K g) (yQ K tc) (lift K te))):PE X e (lift K (LY ti own fr g tc te)):=NK h (wF nd)
theorem Vz{i:Nat}(nd:fr.Nodup)(h:PS X st (oY (BY (FX K ti) own fr (ZQ K g) (yQ K tc) (lift K te)) (UJ i))):PS X st (vQ K (wD i (LY ti own fr g tc te))):=Ex h λq=>wF nd (Mv q)
end
theorem Wz{n:Nat}{g:HZ}{tc:CK}{te:TD}{Q:List D->Ev->Prop}(J:List D->List D->Ev->Prop)
  (hs:∀d ds acc τ,J (d :: ds) acc τ->∀N:List D->Ev->Prop,(∀acc2 τ2,J ds acc2 τ2->N acc2 τ2)->g d τ λτ1=>tc τ1 λb τ2=>if b=true then te τ2 λr τ3=>N (acc++[r.d]) (clean (S1 n) τ3) else N acc (clean (S1 n) τ2))
  (hd:∀acc τ,J [] acc τ->Q acc τ):∀{ds acc:List D}{τ:Ev},J ds acc τ->cZ n g tc te ds acc τ Q
 | [],acc,τ,h=>hd acc τ h
 | d :: ds,acc,τ,h=>hs d ds acc τ h _ λacc2 τ2 h2=>Wz J hs hd h2
theorem xF{n:Nat}{g:HZ}{te:TD}{Q:List D->Ev->Prop}(J:List D->List D->Ev->Prop)
  (hs:∀d ds acc τ,J (d :: ds) acc τ->∀N:List D->Ev->Prop,(∀acc2 τ2,J ds acc2 τ2->N acc2 τ2)->g d τ λτ1=>te τ1 λr τ3=>N (acc++[r.d]) (clean (S1 n) τ3))
  (hd:∀acc τ,J [] acc τ->Q acc τ) {ds acc:List D}{τ:Ev} (h:J ds acc τ):cZ n g vD te ds acc τ Q :=
 Wz J (λd ds acc τ h N hN=>by
   have q:=hs d ds acc τ h N hN
   have e:(λτ1=>te τ1 λr τ3=>N (acc++[r.d]) (clean (S1 n) τ3))=λτ1=>vD τ1 λb τ2=>if b=true then te τ2 (λr τ3=>N (acc++[r.d]) (clean (S1 n) τ3)) else N acc (clean (S1 n) τ2):=by
     funext τ1
     show _=(if true=true then te τ1 (λr τ3=>N (acc++[r.d]) (clean (S1 n) τ3)) else N acc (clean (S1 n) τ1))
     rw[if_pos rfl]
   rw[<- e]
   exact q) hd h
theorem jG{n:Nat}{g:HZ}{te:TD}{Q:List D->Ev->Prop}(f:D->D){τ:Ev}{ds:List D}
  (hs:∀d∈ds,∀N:D->Ev->Prop,N (f d) τ->g d τ λτ1=>te τ1 λr τ3=>N r.d (clean (S1 n) τ3))
  (hd:Q (ds.map f) τ):cZ n g vD te ds [] τ Q:=by
 refine xF (λrest acc τ'=>τ'=τ/\∃pre,ds=pre++rest/\acc=pre.map f) ?_ ?_ ⟨rfl,[],rfl,rfl⟩
 ·rintro d ds' acc τ' ⟨rfl,pre,e,rfl⟩ N hN
  exact hs d (by rw[e];simp) (λx τ3=>N (pre.map f++[x]) τ3) (hN _ _ ⟨rfl,pre++[d],by rw[e];simp,by simp⟩)
 ·rintro acc τ' ⟨rfl,pre,e,rfl⟩
  rw[u4]at e
  subst e
  exact hd
theorem vw{n:Nat}{g:HZ}{tc:CK}{te:TD}{Q:List D->Ev->Prop}(p:D->Bool)(f:D->D){τ:Ev}{ds:List D}
  (hs:∀d∈ds,∀(N:D->Ev->Prop) (M:Ev->Prop),(p d=true->N (f d) τ)->(p d=false->M τ)->g d τ λτ1=>tc τ1 λb τ2=>if b=true then te τ2 λr τ3=>N r.d (clean (S1 n) τ3) else M (clean (S1 n) τ2))
  (hd:Q ((ds.filter p).map f) τ):cZ n g tc te ds [] τ Q:=by
 refine Wz (λrest acc τ'=>τ'=τ/\∃pre,ds=pre++rest/\acc=(pre.filter p).map f) ?_ ?_ ⟨rfl,[],rfl,rfl⟩
 ·rintro d ds' acc τ' ⟨rfl,pre,e,rfl⟩ N hN
  exact hs d (by rw[e];simp) (λx τ3=>N ((pre.filter p).map f++[x]) τ3) (λτ3=>N ((pre.filter p).map f) τ3) (λhp=>hN _ _ ⟨rfl,pre++[d],by rw[e];simp,by simp[hp]⟩)
   (λhp=>hN _ _ ⟨rfl,pre++[d],by rw[e];simp,by simp[hp]⟩)
 ·rintro acc τ' ⟨rfl,pre,e,rfl⟩
  rw[u4]at e
  subst e
  exact hd
noncomputable def Uv(K:Fg):List V->Hp->VK->Prop:=λxs H Q=>∃(x:V) (d:PyData),xs=[x]/\Is K H x d/\d.showable=true/\d.hasDict=false/\d.depth+1<=64/\d.shown.length<=sizeLine/\Q (.str d.shown) H
theorem kG{X:Cx}{K:Fg}{k:Nat}(hK:X.K=K)(hr:Room k X.A):TQ X (.builtin "repr") (Uv K):=by
 subst hK
 intro pins s σ H xs us Q I r h
 obtain⟨x,d,rfl,hd,hs,hn,hz,hl,q⟩:=h
 obtain⟨u,rfl,ru⟩:=XX r
 obtain⟨as,ra⟩:=hd.reads I ru
 have hu:=hr.units
 cases hd with
 | non=>cases ru;exact PySem.P.repr_of_none ⟨.str _,H,I.tok _,⟨_,rfl⟩,q⟩
 | bl b=>cases ru;exact PySem.P.repr_of_bool ⟨.str _,H,I.tok _,⟨_,rfl⟩,by cases b<;>exact q⟩
 | int i =>
  obtain⟨t,rfl⟩:=ru
  exact PySem.P.repr_of_int (by simpa [PyData.showable]using hs) ⟨.str _,H,I.tok _,⟨_,rfl⟩,q⟩
 | str x =>
  obtain⟨t,rfl⟩:=ru
  exact PySem.P.repr_of_str ⟨.str _,H,I.tok _,⟨_,rfl⟩,q⟩ hl
 | lst _ _ =>
  cases ru
  exact repr_of_reads' ra hs (λz=>by rw[hn]at z;cases z) hr.gd (by omega) (λ_ _ e=>e) (λh' u tk hk=>⟨.str _,H,I.kept hk,⟨u,rfl⟩,q⟩) hl
 | tup _ _ =>
  cases ru
  exact repr_of_reads' ra hs (λz=>by rw[hn]at z;cases z) hr.gd (by omega) (λ_ _ e=>e) (λh' u tk hk=>⟨.str _,H,I.kept hk,⟨u,rfl⟩,q⟩) hl
noncomputable def wE(d:D)(Q:Sl->Prop):Prop:=IQ d=true/\d.showable=true/\d.depth+1<=64/\d.shown.length<=sizeLine/\Q (.fz (.str d.shown))
mutual
theorem lK:∀{d:D},IQ d=true->d.hasDict=false
 | .none,_=>rfl
 | .bool _,_=>rfl
 | .int _,_=>rfl
 | .str _,_=>rfl
 | .list xs,h=>by
  have:=plainAll_noDict (xs:=xs) (by simpa [IQ]using h)
  simpa [PyData.hasDict]using this
 | .tuple xs,h=>by
  have:=plainAll_noDict (xs:=xs) (by simpa [IQ]using h)
  simpa [PyData.hasDict]using this
 | .dict _,h=>by simp[IQ]at h
theorem plainAll_noDict:∀{xs:List D},plainAll xs=true->h9 xs=false
 | [],_=>rfl
 | x :: xs,h=>by
  simp[plainAll]at h
  simp[h9,lK h.1,plainAll_noDict h.2]
end
structure WE(X:Cx)(e:Expr)(t:TE):Prop where
 h:PE X e t
structure WA(X:Cx)(es:List Expr)(t:TA):Prop where
 h:PA X es t
structure WT(X:Cx)(e:Expr)(t:TT):Prop where
 h:PT X e t
structure WW(X:Cx)(e:Expr)(t:TT):Prop where
 h:PW X e t
structure WS(X:Cx)(s:Stmt)(t:TS):Prop where
 h:PS X s t
structure WSs(X:Cx)(s:List Stmt)(t:TS):Prop where
 h:PSs X s t
structure WG(X:Cx)(e:Expr)(t:TG):Prop where
 h:PG X e t
structure WGs(X:Cx)(es:List Expr)(t:gq):Prop where
 h:Rx X es t
structure WI(X:Cx)(g e:Expr)(t:TI):Prop where
 h:PI X g e t
structure WIf(X:Cx)(es:List Expr)(t:TT):Prop where
 h:gz X es t
section
variable {X:Cx}{K:Fg}{e e1 e2 e3:Expr}{es:List Expr}{a b c:AD}{as:List AD}{td te tf:TD}{tc tc':CK}{st:Stmt}{sts:List Stmt}{t u:HJ}{p pos pos' p2 apos cpos tpos:Pos}{x:Str}{tg:Expr}
theorem wn(i:Nat)(hN:X.N[i]?=some x:=by rfl)(hv:mC X.env.scope x:=by first|exact Or.inl rfl|exact Or.inr (Or.inl rfl)|exact Or.inr (Or.inr rfl))(hd:(x==("__debug__":Str))=false:=by decide)
  (hcd:(x==("__classdict__":Str))=false:=by decide):WE X (.Name x pos) (qQ K (.inl i)):=⟨AH hN hv hd hcd⟩
theorem wv(i:Nat)(hN:X.N[i]?=some x:=by rfl)(hv:mC X.env.scope x:=by first|exact Or.inl rfl|exact Or.inr (Or.inl rfl)|exact Or.inr (Or.inr rfl))(hd:(x==("__debug__":Str))=false:=by decide)
  (hcd:(x==("__classdict__":Str))=false:=by decide):WE X (.Name x pos) (lift K (Gk i)):=⟨L9 (AH hN hv hd hcd)⟩
theorem wx(h:WE X e (lift K td)):WE X e (qQ K (.inr td)):=⟨h.h⟩
theorem bQ:WA X [] (DQ (([]:List AD).map (qQ K))):=⟨oV⟩
theorem aQ(ha:WE X e (qQ K a))(hr:WA X es (DQ (as.map (qQ K))))(hs:KQ e=true:=by rfl):WA X (e :: es) (DQ ((a :: as).map (qQ K))):=⟨Zk ha.h hr.h (rQ hs)⟩
theorem cQ{i:Int}{k:Nat}:WE X (.Constant (.int i) k pos) (lift K (dC (.int i))):=⟨aw (λ_=>.int _) Ky⟩
theorem dZ{b:Bool}{k:Nat}:WE X (.Constant (.bool b) k pos) (lift K (dC (.bool b))):=⟨aw (λ_=>.bl _) uC⟩
theorem yF{k:Nat}:WE X (.Constant .none k pos) (lift K (dC .none)):=⟨aw (λ_=>.non) Ly⟩
theorem Vv{z:Str}{k:Nat}:WE X (.Constant (.str z) k pos) (lift K (dC (.str z))):=⟨aw (λ_=>.str _) My⟩
theorem w_bin{op:Operator}{r:R2}{f:D->D->(Sl->Prop)->Prop}(ok:WQ K (uK r) (o2 f))(ho:OpR X (binaryOp op) r)(ha:WE X e1 (qQ K a))(hb:WE X e2 (qQ K b)):WE X (.BinOp e1 op e2 pos) (lift K (fY [a,b] (o2 f))):=⟨pL ok (zC ho ha.h hb.h)⟩
theorem MY(ha:WE X e1 (qQ K a)):WE X (.UnaryOp .USub e1 pos) (lift K (fY [a] (o1 fE))):=⟨gN F9 (AC lu ha.h)⟩
theorem LU{op:CmpOp}{r:R2}{f:D->D->(Sl->Prop)->Prop}(ok:WQ K (uK r) (o2 f))(ho:OpR X (compareOp op) r)(ha:WE X e1 (qQ K a))(hb:WE X e2 (qQ K b))(hm:op≠.In:=by decide)(hm2:op≠.NotIn:=by decide):WE X (.Compare e1 [op] [e2] pos) (lift K (fY [a,b] (o2 f))):=⟨pL ok (Yx ho ha.h hb.h (Hq _ hm hm2))⟩
theorem Wv{op:BoolOp}{tr:TE}(h:WE X e tr):WE X (.BoolOp op [e] pos) tr:=⟨Uy h.h⟩
theorem Xz{rest:List Expr}(ha:WE X e1 (lift K td))(hb:WE X (.BoolOp .And (e2 :: rest) pos) (lift K te)):WE X (.BoolOp .And (e1 :: e2 :: rest) pos) (lift K (vz td te)):=⟨O9 (Vy ha.h hb.h)⟩
theorem w_not(ha:WE X e1 (lift K td)):WE X (.UnaryOp .Not e1 pos) (lift K (wz td)):=⟨P9 (Wy ha.h)⟩
theorem xE(hc:WT X e1 (yQ K tc))(ha:WE X e2 (lift K td))(hb:WE X e3 (lift K te)):WE X (.IfExp e1 e2 e3 pos) (lift K (ZL tc td te)):=⟨nE (rq hc.h ha.h hb.h)⟩
theorem YX{k:Nat}{ps:List Str}{con:Con}(C:Cal X.prog X.w X.K X.mg X.base k x ps (lQ K con))(hr:Room k X.A)(ha:WA X (e :: es) (DQ (as.map (qQ K))))(hg:Gl X x:=by rfl)(hdb:(x==("__debug__":Str))=false:=by decide)
  (he:KQ e=true:=by rfl) (hpl:es.all KQ=true:=by rfl):WE X (.Call (.Name x p) (e :: es) [] pos) (lift K (Dz con as)):=⟨oE (lz C hr ha.h hg hdb (rQ he) (qX hpl))⟩
theorem NQ{k i:Nat}{ps:List Str}{con:Con}(C:Cal X.prog X.w X.K X.mg X.base k x ps (lQ K con))(hr:Room k X.A)(ha:WA X (e :: es) (DQ ((Sum.inl i :: as).map (qQ K))))(hg:Gl X x:=by rfl)(hdb:(x==("__debug__":Str))=false:=by decide)
  (he:KQ e=true:=by rfl) (hpl:es.all KQ=true:=by rfl):WE X (.Call (.Name x p) (e :: es) [] pos) (lift K (vV con i as)):=⟨Q9 (lz C hr ha.h hg hdb (rQ he) (qX hpl))⟩
theorem mQ{id:String}{r:List V->Hp->VK->Prop}{f:List D->(Sl->Prop)->Prop}(ok:WQ K r f)(hc:TQ X (.builtin id) r)(hm:X.mg x=none)(hv:bootBuiltins x=some (.builtin id))(ha:WA X (e :: es) (DQ (as.map (qQ K))))(hg:Gl X x:=by rfl)(hn:x ≠ "__name__":=by decide)(hdb:(x==("__debug__":Str))=false:=by decide)
  (he:KQ e=true:=by rfl) (hpl:es.all KQ=true:=by rfl):WE X (.Call (.Name x p) (e :: es) [] pos) (lift K (fY as f)):=⟨NM ok (rY hc hg hm hv ha.h hn hdb (rQ he) (qX hpl))⟩
theorem cX{T:String}{r:List V->Hp->VK->Prop}{f:List D->(Sl->Prop)->Prop}(ok:WQ K r f)(hc:TQ X (.type T) r)(hm:X.mg x=none)(hv:bootBuiltins x=some (.type T))(ha:WA X (e :: es) (DQ (as.map (qQ K))))(hg:Gl X x:=by rfl)(hn:x ≠ "__name__":=by decide)(hdb:(x==("__debug__":Str))=false:=by decide)
  (he:KQ e=true:=by rfl) (hpl:es.all KQ=true:=by rfl):WE X (.Call (.Name x p) (e :: es) [] pos) (lift K (fY as f)):=⟨NM ok (xJ hc hg hm hv ha.h hn hdb (rQ he) (qX hpl))⟩
theorem GQ(hK:X.K=K)(ha:WE X e1 (qQ K a))(hb:WE X e2 (qQ K b))(hs:bF e2:=by exact λ_ _=>rfl):WE X (.Subscript e1 e2 pos) (lift K (fY [a,b] (o2 LM))):=⟨pL dE (Oq (AV hK) ha.h hb.h hs)⟩
theorem bB(hu:X.A.units+1 < cLine)(ha:WE X e1 (qQ K a))(hb:WE X e2 (qQ K b))(hs:Gu e2:=by exact λ_ _=>rfl):WE X (.Subscript e1 e2 pos) (lift K (fY [a,b] (o2 Sv))):=⟨pL Yk (mk hu ha.h hb.h hs)⟩
theorem zQ{k:Nat}(h:WA X es (DQ (as.map (qQ K))))(hl:as.length<=1000:=by decide):WE X (.Tuple es k pos) (lift K (ED as Iz)):=⟨M9 hl (su h.h)⟩
theorem RQ(h:WA X es (DQ (as.map (qQ K))))(hl:as.length<=1000:=by decide):WE X (.List es pos) (lift K (ED as Jz)):=⟨N9 hl (tu h.h)⟩
theorem xZ{elt iter:Expr}{ifs:List Expr}{sc:Scope}{own:List Str}{fr:List Nat}{ti:pF}{g:HZ}(hc:X.calm=true)(S:uV X.env.scope X.N fr sc=true)(hi:WI X tg iter (FX K ti))(hg:∀C s H ex,WG (EQ X own fr sc C s H ex) tg (ZQ K g))
  (hif:∀C s H ex,WIf (EQ X own fr sc C s H ex) ifs (yQ K tc)) (he:∀C s H ex,WE (EQ X own fr sc C s H ex) elt (lift K te)) (nd:fr.Nodup:=by decide) (hs:yV iter=true:=by rfl):WE X (.ListComp elt [⟨tg,iter,ifs,0⟩] sc pos) (lift K (LY ti own fr g tc te)) :=
 ⟨Uz nd (mz hc (LW S) hi.h (λC s H ex=>(hg C s H ex).h) (λC s H ex=>(hif C s H ex).h) (λC s H ex=>(he C s H ex).h) (FK hs))⟩
theorem zF{name:Str}{id:String}{i:Nat}{r:V->List V->Hp->VK->Prop}{f:List D->List D->(D->D->Prop)->Prop}(ok:Dx K r f)(hK:X.K=K)(slot:Slot "list" name id)(hty:typeOf (.builtin id)=pure (.type "method_descriptor"))(hm:fL X id r)(ho:WE X (.Name x p) (qQ K (.inl i)))(ha:WA X (e :: es) (DQ (as.map (qQ K))))
  (hbase:attributeBase (.Name x p) name X.env (eval (.Name x p) X.env)=eval (.Name x p) X.env:=by rfl)
  (hfew:((backTo cpos (starEach (e :: es) X.env)).all (λx=>!x.1)&&(backToKw cpos (keywordEach [] X.env)).all (λx=>x.1.isSome)&&decide ((e :: es).length+([]:List Keyword).length+(if ([]:List Keyword).isEmpty then 0 else 1) < 30))=true:=by rfl)
  (hline:(apos.endLine==cpos.line)=true:=by rfl) (he:KQ e=true:=by rfl) (hpl:es.all KQ=true:=by rfl):WE X (.Call (.Attribute (.Name x p) name apos) (e :: es) [] cpos) (lift K (NW i as f)):=by
 subst hK
 exact ⟨lM ok (IC PySem.F.plainAttrs_list slot hty hm ho.h ha.h hbase hfew hline (rQ he) (qX hpl))⟩
theorem yE{name:Str}{id:String}{i:Nat}{r:V->List V->Hp->VK->Prop}{f:List D->List D->(D->D->Prop)->Prop}(ok:Dx K r f)(hK:X.K=K)(slot:Slot "list" name id)(hty:typeOf (.builtin id)=pure (.type "method_descriptor"))(hm:fL X id r)(ho:WE X (.Name x p) (qQ K (.inl i)))
  (hbase:attributeBase (.Name x p) name X.env (eval (.Name x p) X.env)=eval (.Name x p) X.env:=by rfl) (hline:(apos.endLine==cpos.line)=true:=by rfl):WE X (.Call (.Attribute (.Name x p) name apos) [] [] cpos) (lift K (NW i [] f)):=by
 subst hK
 exact ⟨pE ok (Au PySem.F.plainAttrs_list slot hty hm ho.h hbase hline)⟩
theorem FQ{op:CmpOp}{r:R2}{f:D->D->(Sl->Prop)->Prop}(ok:WQ K (uK r) (o2 f))(ho:OpR X (compareOp op) r)(ha:WE X e1 (qQ K a))(hb:WE X e2 (qQ K b))(hm:op≠.In:=by decide)(hm2:op≠.NotIn:=by decide):WT X (.Compare e1 [op] [e2] pos) (yQ K (WH (fY [a,b] (o2 f)))):=⟨iN ok (Zx ho ha.h hb.h (Hq _ hm hm2))⟩
theorem AF{op op':CmpOp}{p q:Int->Int->Bool}(ho:OpR X (compareOp op) (aY λi j=>.bl (p i j)))(ho':OpR X (compareOp op') (aY λi j=>.bl (q i j)))(ha:WE X e1 (qQ K a))(hb:WE X e2 (qQ K b))(hc:WE X e3 (qQ K c))
  (hm:lastMarks [op,op'] [e2,e3]=false:=by with_unfolding_all rfl):WT X (.Compare e1 [op,op'] [e2,e3] pos) (yQ K (WH (cG p q a b c))):=⟨Oz (Iq ho ho' ha.h hb.h hc.h hm)⟩
theorem TW(h:WT X e (yQ K tc)):WT X (.UnaryOp .Not e pos) (yQ K (Ru tc)):=⟨S9 (Ty h.h)⟩
theorem Yz(h:WT X e (yQ K tc)):WW X (.BoolOp .And [e] pos) (yQ K tc):=⟨Nx h.h⟩
theorem NY(h:WT X e (yQ K tc)):WW X (.BoolOp .Or [e] pos) (yQ K tc):=⟨Qy h.h⟩
theorem Xv{rest:List Expr}(ha:WT X e1 (yQ K tc))(hb:WW X (.BoolOp .And (e2 :: rest) pos) (yQ K tc')):WW X (.BoolOp .And (e1 :: e2 :: rest) pos) (yQ K (Su tc tc')):=⟨T9 (Ry ha.h hb.h)⟩
theorem lG{rest:List Expr}(ha:WT X e1 (yQ K tc))(hb:WW X (.BoolOp .Or (e2 :: rest) pos) (yQ K tc')):WW X (.BoolOp .Or (e1 :: e2 :: rest) pos) (yQ K (XL tc tc')):=⟨qE (vC ha.h hb.h)⟩
theorem ww{tt:TT}(h:WW X e tt):WT X e tt:=⟨h.h.pt⟩
theorem UW(h:WE X e (lift K td))(he:∀whole,isTrue e X.env whole=(do let v<-whole;standAt e.pos;holding [v] (truthy v)):=by intro _;rfl):WT X e (yQ K (WH td)):=⟨R9 (Ny h.h he)⟩
theorem wQ{i:Nat}(hN:X.N.Nodup)(hi:X.N[i]?=some x)(hx:nC X.env.scope x)(hf:X.fn x=true\/X.env.scope.names.lookup x=some .local:=by first|exact .inl rfl|exact .inr rfl|assumption):WG X (.Name x pos) (ZQ K (t9 i)):=⟨gw (Ux hN hi hx hf)⟩
theorem kZ:WGs X [] (WK (([]:List HZ).map (ZQ K))):=⟨Vx⟩
theorem QQ{g:HZ}{gs:List HZ}(h1:WG X e (ZQ K g))(h2:WGs X es (WK (gs.map (ZQ K))))(hs:(assignEach (e :: es) X.env).map (·.2)=assign e X.env :: (assignEach es X.env).map (·.2):=by rfl):WGs X (e :: es) (WK ((g :: gs).map (ZQ K))):=⟨Rz h1.h h2.h hs⟩
theorem BJ{gs:List HZ}{k:Nat}(hK:X.K=K)(hc:X.calm=true)(hh:WGs X es (WK (gs.map (ZQ K))))(hn:(assignEach es X.env).length=gs.length:=by rfl)(hst:(assignEach es X.env).findIdx? (·.1)=none:=by rfl):WG X (.Tuple es k pos) (ZQ K (kL gs)):=⟨Y9 (Ek hK hc hh.h hn hst) rfl⟩
theorem Fx:WIf X [] (yQ K vD):=⟨iw⟩
theorem qL(h:WT X e (yQ K tc)):WIf X [e] (yQ K tc):=⟨Mu h.h⟩
theorem DZ(hK:X.K=K)(hl:WE X e (lift K td)):WI X tg e (FX K (DU td)):=⟨Z9 hK hl.h⟩
theorem nJ(hm:X.mg "range"=none)(ha:WA X [e1] (DQ ([a].map (qQ K))))(hg:Gl X "range":=by rfl)(he:KQ e1=true:=by rfl):WI X tg (.Call (.Name "range" p) [e1] [] pos) (FX K (fG a)):=⟨kw (iD hg hm ha.h (by rw[rQ he];rfl))⟩
theorem cB{ts:List Expr}{kk:Nat}(hK:X.K=K)(hm:X.mg "zip"=none)(ha:WA X [e1,e2] (DQ ([a,b].map (qQ K))))(hg:Gl X "zip":=by rfl)(he:KQ e1=true:=by rfl)(hpl:[e2].all KQ=true:=by rfl):WI X (.Tuple ts kk tpos) (.Call (.Name "zip" p) [e1,e2] [] pos) (FX K (hG a b)):=⟨lw (oz hK hg hm ha.h (rQ he) (qX hpl))⟩
theorem UQ:WSs X [] (vQ K xz):=⟨bw Ox⟩
theorem nQ{tr:TS}(h:WS X st tr):WSs X [st] tr:=⟨Px h.h⟩
theorem dQ(h:WS X st (vQ K t))(h2:WSs X sts (vQ K u)):WSs X (st :: sts) (vQ K (yz t u)):=⟨U9 (uq h.h h2.h)⟩
theorem AQ(h:WE X e (lift K td)):WS X (.Return (some e) pos) (vQ K (Vu td)):=⟨V9 (xq h.h)⟩
theorem BV{i:Nat}(h:WE X e (qQ K (.inl i))):WS X (.Return (some e) pos) (vQ K (oF i)):=⟨cw (xq h.h)⟩
theorem LX(h:WE X e (lift K td))(hs:zV e=true:=by rfl):WS X (.Expr e pos) (vQ K (zz td)):=⟨dw (Qx h.h (IU hs))⟩
theorem tX{sa sb:List Stmt}(hc:WT X e (yQ K tc))(ha:WSs X sa (vQ K t))(hb:WSs X sb (vQ K u)):WS X (.If e sa sb pos) (vQ K (Wu tc t u)):=⟨rE (wC hc.h ha.h hb.h)⟩
theorem CJ{iter:Expr}{body:List Stmt}(ks:List Nat){ti:pF}{g:HZ}(hp:PassesOwn (model X.prog X.w) X.A X.env X.xe)(hc:X.calm=true)(hi:WI X tg iter (FX K ti))(hg:WG X tg (ZQ K g))(hb:WSs X body (vQ K t))(hs:yV iter=true:=by rfl):WS X (.For tg iter body [] pos) (vQ K (KU ks ti g t)):=⟨uw ks (gu hp hc hi.h hg.h hb.h (FK hs))⟩
theorem BF{body:List Stmt}(hp:PassesOwn (model X.prog X.w) X.A X.env X.xe)(hc:WT X e (yQ K tc))(hb:WSs X body (vQ K t)):WS X (.While e body [] pos) (vQ K (XH tc t)):=⟨Pz (Aq hp hc.h hb.h)⟩
theorem xQ{i:Nat}(hN:X.N.Nodup)(hi:X.N[i]?=some x)(hx:nC X.env.scope x)(he:WE X e (lift K td))(hs:zV e=true:=by rfl)(hf:X.fn x=true\/X.env.scope.names.lookup x=some .local:=by first|exact .inl rfl|exact .inr rfl|assumption):WS X (.Assign [.Name x pos'] e pos) (vQ K (wD i td)):=⟨W9 (du hN hi hx he.h (IU hs) hf)⟩
theorem CV{elt iter:Expr}{ifs:List Expr}{sc:Scope}{own:List Str}{fr:List Nat}{ti:pF}{g:HZ}{i:Nat}(hN:X.N.Nodup)(hy:X.N[i]?=some x)(hl:X.env.scope.names.lookup x=some .local)(hc:X.calm=true)(S:uV X.env.scope X.N fr sc=true)(hi:WI X tg iter (FX K ti))(hg:∀C s H ex,WG (EQ X own fr sc C s H ex) tg (ZQ K g))
  (hif:∀C s H ex,WIf (EQ X own fr sc C s H ex) ifs (yQ K tc)) (he:∀C s H ex,WE (EQ X own fr sc C s H ex) elt (lift K te)) (nd:fr.Nodup:=by decide) (hs:yV iter=true:=by rfl) (hsw:swapsWith (.ListComp elt [⟨tg,iter,ifs,0⟩] sc p) (some (.Name x pos')) pos.line X.env=pure true:=by rfl) :
  WS X (.Assign [.Name x pos'] (.ListComp elt [⟨tg,iter,ifs,0⟩] sc p) pos) (vQ K (wD i (LY ti own fr g tc te))) :=
 ⟨Vz nd (vU hN hy hl hc (LW S) hi.h (λC s H ex=>(hg C s H ex).h) (λC s H ex=>(hif C s H ex).h) (λC s H ex=>(he C s H ex).h) hsw (FK hs))⟩
theorem dB{j:Nat}(he:WE X e (lift K td))(ho:WE X e1 (qQ K (.inl j)))(hi:WE X e2 (qQ K a))(hs:swapsWithSole [.Subscript e1 e2 pos'] e pos.line X.env=pure false:=by rfl)(hw:swappedStores [.Subscript e1 e2 pos'] e X.env=pure none:=by rfl)
  (ha:∀v,assign (.Subscript e1 e2 pos') X.env v=(do
    let ov<-holding [v] (eval e1 X.env)
    let iv<-holding [v,ov] (eval e2 X.env)
    standAt pos'
    holding [v,ov,iv] (setItem ov iv v)
    release [v,ov,iv] []):=by intro _;rfl) (h1:(assignEach [.Subscript e1 e2 pos'] X.env).map (·.2)=[assign (.Subscript e1 e2 pos') X.env]:=by rfl):WS X (.Assign [.Subscript e1 e2 pos'] e pos) (vQ K (dG j a td)):=⟨sE (zq he.h (cu ho.h hi.h Pq ha) hs hw h1)⟩
theorem MJ{g:HZ}(he:WE X e (lift K td))(hg:WG X tg (ZQ K g))(hs:swapsWithSole [tg] e pos.line X.env=pure false:=by rfl)(hw:swappedStores [tg] e X.env=pure none:=by rfl)(h1:(assignEach [tg] X.env).map (·.2)=[assign tg X.env]:=by rfl):WS X (.Assign [tg] e pos) (vQ K (Qz g td)):=⟨fw (zq he.h hg.h hs hw h1)⟩
end
section
variable {P:Program}{w:World}{K:Fg}{mg:Str->Option Value}{base:Heap}
theorem OK{x qual:Str}{st:Stmt}{f:Addr}{fd:FuncData}{N ps:List Str}{k:Nat}{con:Con}{ts:HJ}(F:Fun K x qual st f fd)(S:FnScope N ps (jQ st))
  (hb:∀(cdv:Value) (A:Around) (outer:List Env) (s:Shared) (H:Hp) (E:XK),Room k (A.deeper (envOfC qual (jQ st) s.heap.objs.size f cdv))->WSs (jU WZ P w K mg base N qual (jQ st) f cdv A outer s H E).nox (TX st) (vQ K ts))
  (hl:∀args Qd,con args Qd->args.length=ps.length) (hc:∀args Qd,con args Qd->(∀s∈args,∀d,s≠.ow d)/\ts (aG args Qd) (IY N.length args)):FnOk P w K mg base WZ (k+1) f fd ps (lQ K con) :=
 jN F S (λcdv A outer s H E hr=>(hb cdv A outer s H E hr).h) hl hc
end
end L3
namespace L2
open PySem PySem.Spec PyProof.Rows
theorem OY:typeLookup (.type "list") "keys"=pure none:=by rw[typeLookup_type,builtinLookup_eq_fast];kernel_rfl
theorem MX:plainId "dict.update.loop"=true:=by decide +kernel
theorem oJ:entryFor table "dict.update.loop"=some Builtin.«dict.update.loop»:=entryFor_of_tree (by kernel_rfl)
section
variable {prog:Program}{w:World}{A:Around}{E:Value->Shared->Prop}{s:Shared}
theorem KD{a:Addr}{o:Obj}{xs:Array Value}{k:Nat}{Q:Option Value->Shared->Prop}(hx:s.heap.get? a=some o)(hc:o.cls=.type "list")(hdat:o.data=.seq xs k)(hd:o.dict=none)(hA:A.handled=none)
  (h:∀h' tk,(∀b o,s.heap.get? b=some o->h'.get? b=some o)->Q none { s with heap:=h',toks:=tk }) :
  wpAny (model prog w) A (getAttr? (.ref a) "keys") Q E s:=by
 obtain⟨c,dct,dat,sl⟩:=o
 simp only at hc hdat hd
 subst hc hdat hd
 obtain⟨hp,g,d,tk,os⟩:=s
 have hT:∀tk',(⟨hp,g,d,tk',os⟩:Shared).TypeIs (.ref a) "list":=λ_=>⟨_,hx,rfl⟩
 have f1:=sub_AttributeError
 have f3:=F.slot_list_getattribute.lookup
 have f4:=F.slot_list_getattribute.bind (.ref a)
 have f5:=am_list_getattr_none
 unfold getAttr? getAttrBy? getAttrBy
 repeat (any_goals (first|assumption|exact hT _|((with_reducible show wpAny _ _ (call (Value.builtin "list.__getattribute__") _ _) _ _ _);refine call_meets F.slot_list_getattribute (hT _) am_entry_list_getattribute (F.args_list_getattribute_2 _ _) (meets_getattribute_miss_list a xs k sl "keys" _ OY (by decide +kernel) (by decide +kernel)) ⟨hx,hA,λh' tk' e hx'=>?_⟩)|wp_step))
 obtain⟨t',u',he⟩:=hx'.there
 show wpAny _ _ (getattributeRaised _ _ _ _ _ _ _) _ _ _
 unfold getattributeRaised
 repeat (any_goals (first|assumption|wp_step))
 exact h _ _ hx'.keeps
end
section
variable {prog:Program}{w:World}{A:Around}{R:Result->Shared->Prop}{I:Addr}{fp wr:List Addr}{n:Nat}{P:Nat->Value->Prop}{St:Nat->Heap->Prop}
theorem Zz(W:Walks prog w A.in1 I fp wr n P St)(d:Addr)(hdf:d∉fp)(J:Nat->Heap->Prop)
  (hfr:∀i h h',J i h->(∀b o,b∉wr->h.get? b=some o->h'.get? b=some o)->J i h')
  (step:∀(i:Nat) (v:Value) (s:Shared) (Q:Unit->Shared->Prop) (E:Value->Shared->Prop),i < n->P i v->J i s.heap ->
    (∀h' tk,J (i+1) h'->W3 d s.heap h'->Q () { s with heap:=h',toks:=tk }) ->
    ∃p x y,v=.ref p/\s.heap.IsTuple p #[x,y]/\wpAny (model prog w) A.in1 (dictSet d x y) Q E s) :
  ∀(k i:Nat) (s:Shared) (tA:Tok),n - i=k->i<=n->St i s.heap->J i s.heap ->
  (∀h' tk,J n h'->(∀b o,b∉wr->b≠d->s.heap.get? b=some o->h'.get? b=some o)->R (.ok (.ret .none)) { s with heap:=h',toks:=tk }) ->
  codeAny (model prog w) A (.builtin "dict.update.loop" ⟨[.ref d,.ref I,.int i tA,.none],[]⟩) R s:=by
 intro k
 induction k with
 | zero =>
  intro i s tA hk hi hst hJ hR
  have hin:i=n:=by omega
  subst hin
  refine codeAny_builtin oJ ?_
  rw[Around.under_plainId MX _]
  show wpAny _ A.in1 (pyNext (.ref I) >>= _) _ _ s
  refine wpAny_bind (W.done s _ _ hst λh' tk hk'=>?_)
  show wpAny _ _ (Builtin.Dict.addKeywords d [] >>= _) _ _ _
  exact wpAny_bind (wpAny_pure (wpAny_pure (hR h' tk (hfr _ _ _ hJ hk') λb o hbw _ e=>hk' b o hbw e)))
 | succ k ih =>
  intro i s tA hk hi hst hJ hR
  have hlt:i < n:=by omega
  refine codeAny_builtin oJ ?_
  rw[Around.under_plainId MX _]
  show wpAny _ A.in1 (pyNext (.ref I) >>= _) _ _ s
  refine wpAny_bind (W.item i s _ _ hlt hst λv h' tk hP hst' hk'=>?_)
  have hJ':=hfr _ _ _ hJ hk'
  obtain⟨p,x,y,rfl,⟨ob,ho,hc,m,hd⟩,hw⟩:=step i v { s with heap:=h',toks:=tk } (λ_ s''=>∃h'' tk',s''={ s with heap:=h'',toks:=tk' }/\J (i+1) h''/\W3 d h' h'') (λ_ _=>False) hlt hP hJ' λh'' tk' j sb=>⟨h'',tk',rfl,j,sb⟩
  show wpAny _ A.in1 (holding [.ref p] _ >>= _) _ _ _
  refine wpAny_bind (wpAny_holding ?_)
  refine wpAny_bind (wpAny_tryCatch ?_)
  unfold Builtin.Dict.pairItems
  refine wpAny_bind (wpAny_typeOf (T:="tuple") ⟨_,ho,hc⟩ ?_)
  rw[if_pos (by decide)]
  refine wpAny_bind (wpAny_seqItems ho hd (wpAny_pure ?_))
  show wpAny _ A.in1 (holding [x,y] (dictSet d x y)) _ _ _
  refine wpAny_holding (wpAny_mono hw (λ_ s'' z=>?_) λ_ _ z=>z.elim)
  obtain⟨h'',tk',rfl,j,sb⟩:=z
  refine wpAny_pure ⟨plainId_quiet MX _,?_⟩
  exact ih (i+1) { s with heap:=h'',toks:=tk' } 0 (by omega) hlt (W.frame _ _ _ hst' λb hb o e=>(sb.2 b λq=>hdf (q ▸ hb)).trans e) j λh3 tk3 j3 k3 =>
   hR h3 tk3 j3 λb o hbw hbd e=>k3 b o hbw hbd ((sb.2 b hbd).trans (hk' b o hbw e))
end
section
variable {prog:Program}{w:World}{A:Around}{E:Value->Shared->Prop}{s:Shared}
theorem XZ{a:Addr}{o:Obj}{xs:Array Value}{k:Nat}{Q:Value->Shared->Prop}(J:Nat->Heap->Prop)(hh:A.handled=none)
  (hx:s.heap.get? a=some o) (hc:o.cls=.type "list") (hdat:o.data=.seq xs k) (hd:o.dict=none)
  (h0:∀h',(∀b ob,s.heap.get? b=some ob->h'.get? b=some ob)->h'.get? s.heap.objs.size=some { cls:=.type "dict",data:=.dict #[] }->J 0 h')
  (hfr:∀i h h',J i h->(∀b ob,b < s.heap.objs.size+1->h.get? b=some ob->h'.get? b=some ob)->J i h')
  (step:∀(i:Nat) (v:Value) (s':Shared) (Q':Unit->Shared->Prop) (E':Value->Shared->Prop),xs[i]?=some v->J i s'.heap->(∀b ob,s.heap.get? b=some ob->s'.heap.get? b=some ob) ->
    (∀h' tk,J (i+1) h'->W3 s.heap.objs.size s'.heap h'->Q' () { s' with heap:=h',toks:=tk }) ->
    ∃p x y,v=.ref p/\s'.heap.IsTuple p #[x,y]/\wpAny (model prog w) A.in1.in1 (dictSet s.heap.objs.size x y) Q' E' s')
  (h:∀h' tk,J xs.size h'->(∀b ob,s.heap.get? b=some ob->h'.get? b=some ob)->Q (.ref s.heap.objs.size) { s with heap:=h',toks:=tk }) :
  wpAny (model prog w) A (call (.type "dict") [.ref a]) Q E s:=by
 refine callType_codes (Q₁:=λobj s₁=>obj=.ref s.heap.objs.size/\s₁={ s with heap:=s.heap.push { cls:=.type "dict",data:=.dict #[] } }) F.kt_called_dict (F.kt_typeCall_dict_1 _) F.entry_dict_init (kt_code_dict_new _ ⟨rfl,rfl⟩) ?_
 rintro obj s₁ ⟨rfl,rfl⟩
 have hnew:(s.heap.push { cls:=.type "dict",data:=.dict #[] }).get? s.heap.objs.size=some { cls:=.type "dict",data:=.dict #[] }:=L0 _ rfl
 have hkp:∀b ob,s.heap.get? b=some ob->(s.heap.push { cls:=.type "dict",data:=.dict #[] }).get? b=some ob:=λb ob e=>n0 _ e
 refine ⟨⟨_,hnew,rfl⟩,F.args_dict_init_2 _ _,?_⟩
 unfold Builtin.«dict.__init__»
 refine wpAny_bind ?_
 unfold Builtin.Dict.selfAndRest
 refine wpAny_bind (wpAny_notOrdered_dict ⟨_,hnew,rfl⟩ ?_)
 show wpAny _ _ (pure (s.heap.objs.size,[B5 a])) _ _ _
 refine wpAny_pure ?_
 show wpAny _ _ (g8 "dict.__init__" s.heap.objs.size (.ref a) [] .none) _ _ _
 unfold g8
 refine wpAny_bind (wpAny_typeOf (T:="list") ⟨_,hkp _ _ hx,hc⟩ ?_)
 rw[if_pos (by decide)]
 refine wpAny_bind (KD (hkp _ _ hx) hc hdat hd hh λh1 tk1 k1=>?_)
 simp only[Option.isNone_none,if_true]
 refine wpAny_bind (wpAny_rule ?_)
 refine wpAny_bind (wpAny_pyIter_list (s:={ s with heap:=h1,toks:=tk1 }) ⟨_,k1 _ _ (hkp _ _ hx),hc,k,hdat⟩ ?_)
 have hlt:s.heap.objs.size < h1.objs.size:=M0 (k1 _ _ hnew)
 have halt:a < s.heap.objs.size:=M0 hx
 have hnf:s.heap.objs.size∉[h1.objs.size,a]:=λhm=>by
  rcases K0.mp hm with q|q
  ·exact S0 hlt q
  ·exact W2 halt (Y0.mp q)
 refine wpAny_pure ⟨plainId_quiet MX _,Zz (Walks.list (A:=A.in1.in1) hh h1.objs.size a (S0 (Z8 halt hlt)) xs) s.heap.objs.size hnf (λi h'=>J i h'/\∀b ob,s.heap.get? b=some ob->h'.get? b=some ob) ?_ ?_ xs.size 0 _ 0 rfl (M4 _) ?_ ?_ ?_⟩
 ·rintro i hp hp' ⟨j,kk⟩ kp
  refine ⟨hfr _ _ _ j λb ob hb e=>kp b ob (λhm=>S0 (O2 (Nat.le_of_lt_succ hb) hlt) (Y0.mp hm)) e,λb ob e=>kp b ob ?_ (kk b ob e)⟩
  exact λhm=>S0 (Z8 (M0 e) hlt) (Y0.mp hm)
 ·rintro i v s' Q' E' hi hP ⟨j,kk⟩ hq
  refine step i v s' Q' E' hP j kk λh' tk j' sb=>hq h' tk ⟨j',λb ob e=>(sb.2 b ?_).trans (kk b ob e)⟩ sb
  exact S0 (M0 e)
 ·exact ⟨⟨_,L0 _ rfl,rfl,rfl⟩,⟨_,n0 _ (k1 _ _ (hkp _ _ hx)),hc,k,hdat⟩⟩
 ·exact ⟨hfr _ _ _ (h0 h1 (λb ob e=>k1 b ob (hkp b ob e)) (k1 _ _ hnew)) λb ob _ e=>n0 _ e,λb ob e=>n0 _ (k1 b ob (hkp b ob e))⟩
 ·rintro h' tk ⟨j,kk⟩ _
  exact ⟨rfl,h h' tk j kk⟩
end
noncomputable def zX{κ:Type}[DecidableEq κ](kvs:List (κ×V)):List (κ×V):=kvs.foldl (λm kv=>JZ m kv.1 kv.2) []
theorem MU{κ:Type}[DecidableEq κ](kvs:List (κ×V))(kv:κ×V):zX (kvs++[kv])=JZ (zX kvs) kv.1 kv.2:=by simp[zX]
theorem PK{κ:Type}[DecidableEq κ]{kvs:List (κ×V)}{kv:κ×V}{i:Nat}(h:kvs[i]?=some kv):zX (kvs.take (i+1))=JZ (zX (kvs.take i)) kv.1 kv.2:=by
 rw[<- MU,List.take_add_one,h];rfl
theorem QZ{κ:Type}[DecidableEq κ](kvs:List (κ×V)):(zX kvs).length<=kvs.length:=by
 have gen:∀(l m:List (κ×V)),(l.foldl (λm kv=>JZ m kv.1 kv.2) m).length<=m.length+l.length:=by
  intro l
  induction l with
  | nil=>intro m;simp
  | cons x l ih =>
   intro m
   have h1:=ih (JZ m x.1 x.2)
   have h2:=MK m x.1 x.2
   simp only[X6,V1]
   omega
 simpa [zX]using gen kvs []
theorem Vals.getV:∀{xs:List V}{us:List Value}{i:Nat}{u:Value},Vals xs us->us[i]?=some u->∃x,xs[i]?=some x/\RelV x u
 | _,_,0,_,.cons r _,e=>⟨_,rfl,by cases e;exact r⟩
 | _,_,i+1,_,.cons _ t,e=>Vals.getV (i:=i) t e
noncomputable def Yv(H:Hp)(y:V)(kv:HQ×V):Prop:=∃q,y=.ref q/\H q=some (.tup [kV kv.1,kv.2])
noncomputable def Zv(H:Hp)(y:V)(kv:List HQ×V):Prop:=∃q b,y=.ref q/\H q=some (.tup [.ref b,kv.2])/\H b=some (.tup (kv.1.map kV))
noncomputable def aj(K:q0):List V->Hp->VK->Prop:=λxs H Q=>∃(p:Addr) (ys:List V) (kvs:List (HQ×V)),xs=[.ref p]/\SqL K H p ys/\ys.length=kvs.length/\(∀(i:Nat) y,ys[i]?=some y->∃kv,kvs[i]?=some kv/\Yv H y kv) /\
 ∀l,H l=none->Q (.ref l) (dX H l (.dK (zX kvs)))
noncomputable def bj(K:q0):List V->Hp->VK->Prop:=λxs H Q=>∃(p:Addr) (ys:List V) (kvs:List (List HQ×V)),xs=[.ref p]/\SqL K H p ys/\ys.length=kvs.length/\(∀(i:Nat) y,ys[i]?=some y->∃kv,kvs[i]?=some kv/\Zv H y kv) /\
 ∀l,H l=none->Q (.ref l) (dX H l (.dT (zX kvs)))
section
variable {X:Cx}
theorem mG(hc:X.calm=true):TQ X (.type "dict") (aj X.K):=by
 intro pins s σ H xs us Q I r h
 obtain⟨p,ys,kvs,rfl,hq,hl,hp,q⟩:=h
 obtain⟨u,rfl,rx⟩:=XX r
 cases rx
 obtain⟨its,r',⟨o,n,e1,e2,e3,e4⟩,hz⟩:=I.list hq
 have hb:(s.heap.objs.size==sysModules)=false:=beq_eq_false_iff_ne.mpr (m4 (S0 I.big))
 have hk:=QZ kvs
 have hlen:=r'.length
 refine XZ (λi h=>∃vs,KV (zX (kvs.take i)) vs/\h.DictOf (OQ X.prog X.w) s.heap.objs.size vs) (I.ok.hd hc) e1 e2 e4 e3 ?_ ?_ ?_ ?_
 ·intro h' _ e
  obtain⟨o',es,ep,ho,rest⟩:=m9 (knd:=OQ X.prog X.w) s.heap
  rw[L0 _ rfl]at ho
  cases ho
  exact ⟨[],.nil,_,es,ep,e,rest⟩
 ·rintro i h1 h2 ⟨vs,rel,o',es,ep,ho,rest⟩ kp
  exact ⟨vs,rel,o',es,ep,kp _ _ (S4 _) ho,rest⟩
 ·rintro i v s' Q' E' hv ⟨vs,rel,dd⟩ kk hq'
  obtain⟨y,ey,ry⟩:=r'.getV (by simpa using hv)
  obtain⟨kv,ekv,qq,rfl,eq⟩:=hp i y ey
  cases ry
  obtain⟨_,its2,r2,ob,h1,h2,m,h3,_⟩:=(show ObjOk X.prog X.w H s.heap qq (.tup [kV kv.1,kv.2]) from I.hok qq _ eq)
  obtain⟨u1,u2,rfl,ru1,ru2⟩:=aJ r2
  have hz2:vs.length<=sizeLine:=by
   have a1:=rel.length
   have a2:=QZ (kvs.take i)
   have a3:(kvs.take i).length<=kvs.length:=by simp only[E1];omega
   omega
  refine ⟨qq,u1,u2,rfl,⟨ob,kk _ _ h1,h2,m,h3⟩,wpAny_dictSet_pairs (hsz:=hz2) (oU ru1) dd λh' dd' sb=>hq' h' _ ⟨_,?_,dd'⟩ sb⟩
  rw[PK ekv]
  exact rel.put kv.1 ru2
 ·rintro h' tk ⟨vs,rel,dd⟩ kp
  have et:kvs.take its.toArray.size=kvs:=by rw[Y1];simp only[P0];omega
  rw[et]at rel
  exact ⟨.ref s.heap.objs.size,_,I.laid (t':=tk) kp (B0 _) (show ObjOk X.prog X.w _ h' _ (.dK (zX kvs)) from ⟨by omega,hb,vs,rel,dd⟩),rfl,q _ (I.hok.fresh (B0 _))⟩
end
section
variable {X:Cx}
theorem nG(hc:X.calm=true)(hu:X.A.units+2 < cLine):TQ X (.type "dict") (bj X.K):=by
 intro pins s σ H xs us Q I r h
 obtain⟨p,ys,kvs,rfl,hq,hl,hp,q⟩:=h
 obtain⟨u,rfl,rx⟩:=XX r
 cases rx
 obtain⟨its,r',⟨o,n,e1,e2,e3,e4⟩,hz⟩:=I.list hq
 have hb:(s.heap.objs.size==sysModules)=false:=beq_eq_false_iff_ne.mpr (m4 (S0 I.big))
 have hk:=QZ kvs
 have hlen:=r'.length
 have keyAt:∀{ks:List HQ}{b:Addr}{h':Heap},(∀b ob,s.heap.get? b=some ob->h'.get? b=some ob)->H b=some (.tup (ks.map kV))->(tupleKind (OQ X.prog X.w)).is h' ks b:=by
  intro ks b h' kk e
  obtain⟨_,its,r,o,h1,h2,n,h3,_⟩:=(show ObjOk X.prog X.w H s.heap b (.tup (ks.map kV)) from I.hok b _ e)
  exact ⟨o,its.toArray,n,kk _ _ h1,h2,h3,by simpa using zK r⟩
 have all:∀{l:List (List HQ×V)}{m:List (List HQ×Addr×Value)}{h':Heap},(∀b ob,s.heap.get? b=some ob->h'.get? b=some ob)->KT H l m->∀x∈m,(tupleKind (OQ X.prog X.w)).is h' x.1 x.2.1:=by
  intro l m h' kk q
  induction q with
  | nil=>intro x hx;exact nomatch hx
  | @cons p q ps qs hq t ih =>
   intro x hx
   rcases K0.mp hx with e|hx
   ·subst e
    exact keyAt kk (by rw[<- hq.1];exact hq.2.1)
   ·exact ih x hx
 refine XZ (λi h=>∃vs,KT H (zX (kvs.take i)) vs/\∃o es ep,h.get? s.heap.objs.size=some o/\o.ExactDict/\o.data=.dict es ep/\es.toList=vs.map (entryOfKey (tupleKind (OQ X.prog X.w)))/\(vs.map (·.1)).Nodup) (I.ok.hd hc) e1 e2 e4 e3 ?_ ?_ ?_ ?_
 ·intro h' _ e
  exact ⟨[],.nil,_,#[],0,e,⟨rfl,rfl,rfl⟩,rfl,rfl,t7⟩
 ·rintro i h1 h2 ⟨vs,rel,o',es,ep,ho,rest⟩ kp
  exact ⟨vs,rel,o',es,ep,kp _ _ (S4 _) ho,rest⟩
 ·rintro i v s' Q' E' hv ⟨vs,rel,o',es,ep,ho,a1,a2,a3,a4⟩ kk hq'
  obtain⟨y,ey,ry⟩:=r'.getV (by simpa using hv)
  obtain⟨kv,ekv,qq,b,rfl,eq,eb⟩:=hp i y ey
  cases ry
  obtain⟨_,its2,r2,ob,h1,h2,m,h3,_⟩:=(show ObjOk X.prog X.w H s.heap qq (.tup [.ref b,kv.2]) from I.hok qq _ eq)
  obtain⟨u1,u2,rfl,ru1,ru2⟩:=aJ r2
  cases ru1
  have hz2:vs.length<=sizeLine:=by
   have a1:=Paired.length rel
   have a2:=QZ (kvs.take i)
   have a3:(kvs.take i).length<=kvs.length:=by simp only[E1];omega
   omega
  refine ⟨qq,.ref b,u2,rfl,⟨ob,kk _ _ h1,h2,m,h3⟩,wpAny_dictSet_heap (hsz:=hz2) (knd:=tupleKind (OQ X.prog X.w)) hu (keyAt kk eb) ⟨o',es,ep,ho,a1,a2,a3,all kk rel,a4⟩ λh' dd' sb=>hq' h' _ ⟨storedH vs kv.1 b u2,?_,?_⟩ sb⟩
  ·rw[PK ekv]
   exact rel.put kv.1 eb ru2
  ·obtain⟨q,es,ep,hq,h2,h3,h4,_,h5⟩:=dd'
   exact ⟨q,es,ep,hq,h2,h3,h4,h5⟩
 ·rintro h' tk ⟨vs,rel,rest⟩ kp
  have et:kvs.take its.toArray.size=kvs:=by rw[Y1];simp only[P0];omega
  rw[et]at rel
  have hfr:H s.heap.objs.size=none:=I.hok.fresh (B0 _)
  exact ⟨.ref s.heap.objs.size,_,I.laid (t':=tk) kp (B0 _) (show ObjOk X.prog X.w _ h' _ (.dT (zX kvs)) from ⟨by omega,hb,vs,rel.keeps λc zs ec=>by rw[oQ (pQ ec hfr)];exact ec,rest⟩),rfl,q _ hfr⟩
end
section
theorem mK{κ:Type}[DecidableEq κ](kvs:List (κ×V))(h:(kvs.map (·.1)).Nodup):zX kvs=kvs:=by
 have gen:∀(l m:List (κ×V)),((m++l).map (·.1)).Nodup->l.foldl (λm kv=>JZ m kv.1 kv.2) m=m++l:=by
  intro l
  induction l with
  | nil=>intro m _;simp
  | cons x l ih =>
   intro m hn
   have e:JZ m x.1 x.2=m++[x]:=by
    unfold JZ
    rw[if_neg]
    intro q
    obtain⟨y,hy,hyx⟩:=S6.mp q
    have hyx:y.1=x.1:=by simpa using hyx
    rw[E2,K7]at hn
    exact hn.2.2 y.1 (T0.mpr ⟨y,hy,rfl⟩) x.1 (by simp) hyx
   simp only[X6]
   rw[e,ih (m++[x]) (by simpa using hn)]
   simp
 simpa [zX]using gen kvs [] (by simpa using h)
end
end L2
namespace L3
open PySem PySem.Spec L2
noncomputable abbrev QM(p:List HQ×D):D:=.tuple [.tuple (p.1.map OX),p.2]
noncomputable abbrev rL(p:List HQ×D):D×D:=(.tuple (p.1.map OX),p.2)
noncomputable abbrev RM(p:HQ×D):D:=.tuple [OX p.1,p.2]
noncomputable abbrev eB(p:HQ×D):D×D:=(OX p.1,p.2)
section
variable {K:Fg}{F H:Hp}
theorem cj(s:Sub F H):∀{ps:List (List HQ×D)}{xs:List V},DaAll K F xs (ps.map QM)->∃vk:List (List HQ×V),vk.map (·.1)=ps.map (·.1)/\xs.length=vk.length/\(∀(i:Nat) y,xs[i]?=some y->∃kv,vk[i]?=some kv/\Zv H y kv)/\DaKT K F vk (ps.map rL)
 | [],_,.nil=>⟨[],rfl,rfl,λ_ _ e=>by simp at e,.nil⟩
 | p :: ps,_,.cons h t=>by
  obtain⟨vk,e1,e2,e3,e4⟩:=cj s t
  cases h with
  | tup q r =>
   cases r with
   | cons r1 r2 =>
    cases r2 with
    | cons r2 r3 =>
     cases r3
     cases r1 with
     | tup q1 r1 =>
      have:=r1.keys
      subst this
      refine ⟨(p.1,_) :: vk,by simp[e1],by simp[e2],λi y e=>?_,.cons r2 e4⟩
      cases i with
      | zero=>cases e;exact ⟨_,rfl,_,_,rfl,s _ _ q,s _ _ q1⟩
      | succ i=>exact e3 i y e
theorem dj(s:Sub F H):∀{ps:List (HQ×D)}{xs:List V},DaAll K F xs (ps.map RM)->∃vk:List (HQ×V),vk.map (·.1)=ps.map (·.1)/\xs.length=vk.length/\(∀(i:Nat) y,xs[i]?=some y->∃kv,vk[i]?=some kv/\Yv H y kv)/\DaKV K F vk (ps.map eB)
 | [],_,.nil=>⟨[],rfl,rfl,λ_ _ e=>by simp at e,.nil⟩
 | p :: ps,_,.cons h t=>by
  obtain⟨vk,e1,e2,e3,e4⟩:=dj s t
  cases h with
  | tup q r =>
   cases r with
   | @cons x _ _ _ r1 r2 =>
    cases r2 with
    | cons r2 r3 =>
     cases r3
     have hx:x=kV p.1:=by
      obtain⟨k,d⟩:=p
      cases k<;>(cases r1;rfl)
     subst hx
     refine ⟨(p.1,_) :: vk,by simp[e1],by simp[e2],λi y e=>?_,.cons r2 e4⟩
     cases i with
     | zero=>cases e;exact ⟨_,rfl,_,rfl,s _ _ q⟩
     | succ i=>exact e3 i y e
end
noncomputable def fj:D->(Sl->Prop)->Prop
 | .list ds,Q=>∃ps:List (List HQ×D),ds=ps.map QM/\(ps.map (·.1)).Nodup/\Q (.ow (.dict (ps.map rL)))
 | _,_=>False
noncomputable def gj:D->(Sl->Prop)->Prop
 | .list ds,Q=>∃ps:List (HQ×D),ds=ps.map RM/\(ps.map (·.1)).Nodup/\Q (.ow (.dict (ps.map eB)))
 | _,_=>False
theorem ij{K:Fg}:WQ K (bj K) (o1 fj):=xH λG F σ H ρ x d Q Qd R h1 w k=>by
 match d,h1,w with
 | .list ds,h1,⟨ps,e,nd,w⟩ =>
  subst e
  obtain⟨a,us,rfl,e1,d1⟩:=h1.list R.sub
  obtain⟨vk,g1,g2,g3,g4⟩:=cj R.sub d1
  refine ⟨a,us,vk,rfl,SqL.of e1,g2,g3,λp hp=>?_⟩
  rw[mK vk (by rw[g1];exact nd)]
  obtain⟨R',r'⟩:=R.newOw (o:=.dT vk) (d:=.dict (ps.map rL)) hp g4
  exact k _ _ F _ (Sub.refl _) R' r' w
theorem kj{K:Fg}:WQ K (aj K) (o1 gj):=xH λG F σ H ρ x d Q Qd R h1 w k=>by
 match d,h1,w with
 | .list ds,h1,⟨ps,e,nd,w⟩ =>
  subst e
  obtain⟨a,us,rfl,e1,d1⟩:=h1.list R.sub
  obtain⟨vk,g1,g2,g3,g4⟩:=dj R.sub d1
  refine ⟨a,us,vk,rfl,SqL.of e1,g2,g3,λp hp=>?_⟩
  rw[mK vk (by rw[g1];exact nd)]
  obtain⟨R',r'⟩:=R.newOw (o:=.dK vk) (d:=.dict (ps.map eB)) hp g4
  exact k _ _ F _ (Sub.refl _) R' r' w
section
variable {X:Cx}{K:Fg}{e1 e2:Expr}{a b:AD}{pos:Pos}
end
theorem lj{A:Around}{k:Nat}(hr:Room k A):A.units+2 < cLine:=O2 (M8 (by decide:2<=64) _) hr.units
section
variable {K:Fg}{F H:Hp}
end
section
variable {X:Cx}{K:Fg}{e e1 e2:Expr}{a b:AD}{p pos pos' p2:Pos}
theorem zw(hK:X.K=K)(hc:X.calm=true)(hu:X.A.units+2 < cLine)(hm:X.mg "dict"=none)(hv:bootBuiltins "dict"=some (.type "dict"))(ha:WA X [e] (DQ ([a].map (qQ K))))(hg:Gl X "dict":=by rfl)(he:KQ e=true:=by rfl) :
  WE X (.Call (.Name "dict" p) [e] [] pos) (lift K (fY [a] (o1 fj))):=by
 subst hK
 exact cX ij (nG hc hu) hm hv ha hg (by decide) (by decide) he rfl
theorem Aw(hK:X.K=K)(hc:X.calm=true)(hm:X.mg "dict"=none)(hv:bootBuiltins "dict"=some (.type "dict"))(ha:WA X [e] (DQ ([a].map (qQ K))))(hg:Gl X "dict":=by rfl)(he:KQ e=true:=by rfl) :
  WE X (.Call (.Name "dict" p) [e] [] pos) (lift K (fY [a] (o1 gj))):=by
 subst hK
 exact cX kj (mG hc) hm hv ha hg (by decide) (by decide) he rfl
end
mutual
theorem oG:∀d:D,IQ d=true->SeqAt.noMix d d=true
 | .none,_=>by simp[SeqAt.noMix]
 | .bool _,_=>by simp[SeqAt.noMix]
 | .int _,_=>by simp[SeqAt.noMix]
 | .str _,_=>by simp[SeqAt.noMix]
 | .list xs,h=>by simp[SeqAt.noMix];exact noMixAll_self xs (by simpa [IQ]using h)
 | .tuple xs,h=>by simp[SeqAt.noMix];exact noMixAll_self xs (by simpa [IQ]using h)
 | .dict _,h=>by simp[IQ]at h
theorem noMixAll_self:∀xs:List D,plainAll xs=true->SeqAt.noMixAll xs xs=true
 | [],_=>by simp[SeqAt.noMixAll]
 | x :: xs,h=>by
  simp[plainAll]at h
  simp[SeqAt.noMixAll]
  exact ⟨oG x h.1,noMixAll_self xs h.2⟩
end
structure Nice(n:Nat)(d:D):Prop where
 p:IQ d=true
 c:d.canLay0=true
 d:d.depth<=n
theorem Nice.mono{n m:Nat}{d:D}(h:Nice n d)(k:n<=m):Nice m d:=⟨h.p,h.c,Z0 h.d k⟩
theorem Nice.int(n:Nat)(i:Int):Nice n (.int i):=⟨rfl,by simp[Q5],by simp[U5]⟩
theorem Nice.bool(n:Nat)(i:Bool):Nice n (.bool i):=⟨rfl,by simp[Q5],by simp[U5]⟩
theorem Nice.none(n:Nat):Nice n .none:=⟨rfl,by simp[Q5],by simp[U5]⟩
theorem PY{n:Nat}:∀{l:List D},(∀d∈l,Nice n d)->plainAll l=true/\L7 l=true/\y8 l<=n
 | [],_=>⟨rfl,by simp[L7],by simp[y8]⟩
 | x :: l,h=>by
  have h1:=h x G0
  have h2:=PY (l:=l) λd hd=>h d (J0 _ hd)
  refine ⟨by simp[plainAll,h1.p,h2.1],by simp[L7,h1.c,h2.2.1],?_⟩
  have:=h1.d
  have:=h2.2.2
  simp[y8]
  omega
theorem Nice.list{n:Nat}{l:List D}(h:∀d∈l,Nice n d):Nice (n+1) (.list l):=by
 obtain⟨a,b,c⟩:=PY h
 exact ⟨by simp[IQ,a],by simp[Q5,b],by simp[U5];omega⟩
theorem Nice.tuple{n:Nat}{l:List D}(h:∀d∈l,Nice n d):Nice (n+1) (.tuple l):=by
 obtain⟨a,b,c⟩:=PY h
 exact ⟨by simp[IQ,a],by simp[Q5,b],by simp[U5];omega⟩
theorem Nice.ints(l:List Int):Nice 1 (.list (l.map j0)):=.list λd hd=>by
 obtain⟨i,_,rfl⟩:=T0.mp hd
 exact .int 0 i
theorem Nice.tup(l:List Int):Nice 1 (.tuple (l.map j0)):=.tuple λd hd=>by
 obtain⟨i,_,rfl⟩:=T0.mp hd
 exact .int 0 i
theorem Nice.sh{n:Nat}{d:D}(h:Nice n d)(k:n<=64):SeqAt.shaped d=true:=by
 have:=h.d
 unfold SeqAt.shaped
 rw[h.c]
 simp
 omega
end L3
namespace L2
open PySem PySem.Spec PyProof.Rows
noncomputable def CF(K:q0):List V->Hp->VK->Prop:=λxs H Q=>∃(x:V) (k:Ki) (T:Ki),xs=[x,.ty T.nm]/\(KiOf K H x k\/∃a,x=.ref a/\k=.dct/\iL H a)/\Q (.bl (k.sub T)) H
theorem LD{X:Cx}:TQ X (.builtin "isinstance") (CF X.K):=by
 intro pins s σ H xs us Q I r h
 obtain⟨x,k,T,rfl,hk,q⟩:=h
 rcases hk with hk|⟨a,rfl,rfl,hd⟩
 ·exact jz pins s σ H _ us Q I r ⟨x,k,T,rfl,hk,q⟩
 ·obtain⟨u,w',rfl,ru,rw'⟩:=aJ r
  obtain rfl:w'=.type T.nm:=rw'
  cases ru
  have ht:s.TypeIs (.ref a) Ki.dct.nm:=(az I hd).1
  cases hs:Ki.dct.sub T with
  | true =>
   rw[hs]at q
   exact call_isinstance (isinstance_true (Tx:=Ki.dct.nm) (UX T) (by rw[sV,hs])) ⟨ht,.bl true,H,I,rfl,q⟩
  | false =>
   rw[hs]at q
   have hsub:isSubtype (.type Ki.dct.nm) (.type T.nm)=pure false:=by rw[sV,hs]
   have hne:=Lv Ki.dct T hs
   have fin:EP X pins σ Q (.bool false) { s with toks:=s.toks+1 }:=⟨.bl false,H,I.tok _,rfl,q⟩
   exact call_isinstance (isinstance_false_dict hne (UX T) hsub) ⟨ht,fin⟩
inductive PrsT (H:Hp):List (V×V)->List (List HQ×V)->Prop
 | nil:PrsT H [] []
 | cons {b ks v ps kvs}:H b=some (.tup (ks.map kV))->PrsT H ps kvs->PrsT H ((.ref b,v) :: ps) ((ks,v) :: kvs)
section
variable {X:Cx}{pins:List (Addr×Obj)}{σ:St}{a:Addr}{E:Value->Shared->Prop}
end
end L2
namespace L3
open PySem PySem.Spec PyProof.Rows L2
noncomputable def QY:List (D×D)->Bool
 | (.none,_) :: _=>false
 | (.bool _,_) :: _=>false
 | _=>true
noncomputable def ay(T:Ki):D->(Sl->Prop)->Prop
 | .dict es,Q=>QY es=true/\Q (.fz (.bool (Ki.dct.sub T)))
 | d,Q=>Q (.fz (.bool ((dN d).sub T)))
theorem At.isD{K:Fg}{F H:Hp}{v:V}{es:List (D×D)}(s:Sub F H)(h:At K F H v (.dict es))(hn:QY es=true):∃a,v=.ref a/\iL H a:=by
 rcases h with h|⟨a,o,rfl,_,e,h⟩
 ·cases h with
  | dk r t=>exact ⟨_,rfl,.inl ⟨_,s.rd r⟩⟩
  | dt r t=>exact ⟨_,rfl,.inr ⟨_,s.rd r⟩⟩
  | scr q=>simp[QY]at hn
  | exc q=>simp[QY]at hn
 ·cases o<;>first|exact h.elim|exact ⟨_,rfl,.inl ⟨_,.inl e⟩⟩|exact ⟨_,rfl,.inr ⟨_,.inl e⟩⟩
theorem Bw{K:Fg}{T:Ki}:WQ K (λvs H Q=>∃x,vs=[x]/\CF K [x,.ty T.nm] H Q) (o1 (ay T)):=xH λG F σ H ρ x d Q Qd R h1 w k=>by
 have go:∀(ki:Ki),KiOf K H x ki->Qd (.fz (.bool (ki.sub T)))->∃x',[x]=[x']/\CF K [x',.ty T.nm] H Q:=λki h w=>⟨x,rfl,x,ki,T,rfl,.inl h,k _ H F (.fz _) (Sub.refl _) R (Da.bl _) w⟩
 match d,h1,w with
 | .none,h1,w=>cases h1.none;exact go .non rfl w
 | .bool b,h1,w=>cases h1.bool;exact go .bl rfl w
 | .int i,h1,w=>cases h1.int;exact go .int rfl w
 | .str z,h1,w=>cases h1.str;exact go .str rfl w
 | .list ds,h1,w =>
  obtain⟨a,us,rfl,e1,d1⟩:=h1.list R.sub
  exact go .lst (.inl ⟨rfl,us,SqL.of e1⟩) w
 | .tuple ds,h1,w =>
  obtain⟨a,us,rfl,_,e1,d1⟩:=h1.tuple R.sub
  exact go .tup (.inr (.inl ⟨rfl,us,SqT.of e1⟩)) w
 | .dict es,h1,w =>
  obtain⟨a,rfl,hd⟩:=h1.isD R.sub w.1
  exact ⟨_,rfl,_,.dct,T,rfl,.inr ⟨a,rfl,rfl,hd⟩,k _ H F (.fz _) (Sub.refl _) R (Da.bl _) w.2⟩
noncomputable def cy:TD:=λρ Q=>Q (.ow (.dict [])) ρ
theorem fB{K:Fg}{σ:L2.St}{H:Hp}{Q:VK}(h:lift K cy σ H Q):Xq σ H Q:=by
 obtain⟨G,F,ρ,Qd,R,w,k⟩:=h
 intro p hp
 obtain⟨R',r'⟩:=R.newOw (o:=.dT []) (d:=.dict []) hp DaKT.nil
 exact k _ _ F _ ρ (Sub.refl _) R' r' w
section
variable {X:Cx}{K:Fg}{e e1 e2:Expr}{a b:AD}{ta tb:TD}{st:Stmt}{p pos p2 pos' px py pt:Pos}{x y:Str}
theorem RY(T:Ki)(hK:X.K=K)(hm:X.mg "isinstance"=none){y:Str}(hm2:X.mg y=none)(hv2:bootBuiltins y=some (.type T.nm))(ha:WE X e1 (qQ K a))(hg:Gl X "isinstance":=by rfl)(hg2:Gl X y:=by rfl)(hy:y ≠ "__name__":=by decide)(hy2:(y==("__debug__":Str))=false:=by decide)(he:KQ e1=true:=by rfl) :
  WE X (.Call (.Name "isinstance" p) [e1,.Name y p2] [] pos) (lift K (fY [a] (o1 (ay T)))):=by
 subst hK
 exact ⟨NK (rY LD hg hm boot_isinstance (WJ ha.h (WJ (Mx hg2 hm2 hv2 (v:=.ty T.nm) rfl hy hy2) oV (rQ rfl)) (rQ he)) (by decide) (by decide) (rQ he) (qX rfl)) λq=>Fk (P:=λx H1=>CF X.K [x,.ty T.nm] H1 _) (CY Bw q)⟩
theorem gB:WE X (.Dict [] [] pos) (lift K cy):=⟨NK Yq λq=>fB q⟩
end
end L3
namespace L2
open PySem PySem.Spec PyProof.Rows
section
variable {X:Cx}
theorem mj:OpR X (compareOp .Is) (λx y H Q=>∃c d,x=.bl c/\y=.bl d/\Q (.bl (c==d)) H):=by
 intro pins s σ H x y v u Q I rx ry h
 obtain⟨c,d,rfl,rfl,q⟩:=h
 cases rx
 cases ry
 exact is_bool ⟨.bl _,H,I,rfl,q⟩
theorem hZ:OpR X (compareOp .IsNot) (λx y H Q=>∃c d,x=.bl c/\y=.bl d/\Q (.bl (!(c==d))) H):=by
 intro pins s σ H x y v u Q I rx ry h
 obtain⟨c,d,rfl,rfl,q⟩:=h
 cases rx
 cases ry
 exact isnot_bool ⟨.bl _,H,I,rfl,q⟩
end
end L2
namespace L3
open PySem PySem.Spec PyProof.Rows L2
noncomputable def mM:D->D->(Sl->Prop)->Prop
 | .bool c,.bool d,Q=>Q (.fz (.bool (c==d)))
 | _,_,_=>False
noncomputable def zE:D->D->(Sl->Prop)->Prop
 | .bool c,.bool d,Q=>Q (.fz (.bool (!(c==d))))
 | _,_,_=>False
theorem nj{K:Fg}:WQ K (uK λx y H Q=>∃c d,x=.bl c/\y=.bl d/\Q (.bl (c==d)) H) (o2 mM):=bG λG F σ H ρ x y d e Q Qd R h1 h2 w k=>by
 cases d<;>first|exact w.elim|skip
 cases e<;>first|exact w.elim|skip
 case bool.bool c d =>
  cases h1.bool
  cases h2.bool
  exact ⟨c,d,rfl,rfl,k _ H F (.fz _) (Sub.refl _) R (Da.bl _) w⟩
theorem yJ{K:Fg}:WQ K (uK λx y H Q=>∃c d,x=.bl c/\y=.bl d/\Q (.bl (!(c==d))) H) (o2 zE):=bG λG F σ H ρ x y d e Q Qd R h1 h2 w k=>by
 cases d<;>first|exact w.elim|skip
 cases e<;>first|exact w.elim|skip
 case bool.bool c d =>
  cases h1.bool
  cases h2.bool
  exact ⟨c,d,rfl,rfl,k _ H F (.fz _) (Sub.refl _) R (Da.bl _) w⟩
section
variable {X:Cx}{K:Fg}{x:Str}{pos:Pos}
end
theorem oX(s:String):(Str.ofString s).length=s.length:=by
 rw[Str.ofString_eq_toList]
 simp only[Str.length,P0,p0]
 first|rfl|exact String.length_toList|exact String.length_toList _|simp
theorem MD{i:Int}{k:Nat}(hk:0 < k)(h:i.natAbs < 10 ^ k):(j0 i).shown.length<=k+1:=by
 show (Str.ofString (toString i)).length<=k+1
 rw[oX]
 cases i with
 | ofNat n =>
  show (Nat.repr n).length<=k+1
  have:=(r8 (n:=n) hk).mpr h
  omega
 | negSucc m =>
  show ("-"++Nat.repr (m+1)).length<=k+1
  have h1:m+1 < 10 ^ k:=by simpa using h
  have:=(r8 (n:=m+1) hk).mpr h1
  rw[String.length_append]
  have e:("-":String).length=1:=by decide
  omega
theorem NU(sep:Str)(b:Nat):∀ts:List Str,(∀t∈ts,t.length<=b)->(Str.join sep ts).length<=ts.length * (b+sep.length)
 | [],_=>by simp[Str.join,Str.length,Str.empty]
 | [x],h=>by
  have:=h x G0
  show x.length<=_
  simp
  omega
 | x :: y :: r,h=>by
  have h1:=h x G0
  have h2:=NU sep b (y :: r) λt ht=>h t (J0 _ ht)
  show (x++sep++Str.join sep (y :: r)).length<=_
  rw[Str.length_append,Str.length_append,V1,i8]
  omega
theorem RZ:∀l:List D,Y6 l=l.map j8
 | []=>rfl
 | x :: l=>by simp[Y6,RZ l]
theorem OU{b:Nat}{l:List D}(h:∀d∈l,d.shown.length<=b):(W1 l).shown.length<=l.length * (b+2)+3:=by
 show (tupleText (Y6 l)).length<=_
 rw[RZ]
 have hj:=NU (Str.ofString ", ") b (l.map j8) λt ht=>by
  obtain⟨d,hd,rfl⟩:=T0.mp ht
  exact h d hd
 rw[p0,oX]at hj
 have e2:(", ":String).length=2:=by decide
 rw[e2]at hj
 unfold tupleText
 rw[Str.length_append,Str.length_append,oX,oX]
 have e1:("(":String).length=1:=by decide
 have e3:(if (((l.map j8).length==1)=true) then ",)" else ")":String).length<=2:=by split<;>decide
 omega
theorem pG{b:Nat}{l:List D}(h:∀d∈l,d.shown.length<=b):(P3 l).shown.length<=l.length * (b+2)+3:=by
 have gen:∀(ts:List Str) (k:Nat) (acc:Str),(∀t∈ts,t.length<=b)->(textFrom k acc ts).length<=acc.length+ts.length * (b+2):=by
  intro ts
  induction ts with
  | nil=>intro k acc _;simp[textFrom]
  | cons t ts ih =>
   intro k acc ht
   have h1:=ht t G0
   have h2:=ih (k+1) (acc++Str.ofString (if k > 0 then ", " else "")++t) λx hx=>ht x (J0 _ hx)
   rw[Str.length_append,Str.length_append,oX]at h2
   have e3:(if k > 0 then ", " else "":String).length<=2:=by split<;>decide
   show (textFrom (k+1) (acc++Str.ofString (if k > 0 then ", " else "")++t) ts).length<=_
   rw[V1,i8]
   omega
 show (listText (Y6 l)).length<=_
 rw[RZ]
 have hg:=gen (l.map j8) 0 (Str.ofString "[") λt ht=>by
  obtain⟨d,hd,rfl⟩:=T0.mp ht
  exact h d hd
 unfold listText
 rw[Str.length_append,oX]
 rw[oX,p0]at hg
 have e1:("[":String).length=1:=by decide
 have e2:("]":String).length=1:=by decide
 omega
theorem showableAll_of:∀{l:List D},(∀d∈l,d.showable=true)->V8 l=true
 | [],_=>rfl
 | x :: l,h=>by
  simp[V8,h x G0]
  exact showableAll_of λd hd=>h d (J0 _ hd)
theorem DV{i:Int}{k:Nat}(h:i.natAbs < 2 ^ k)(hk:k<=1920):(j0 i).showable=true:=by
 show decide (i.natAbs.log2 < 1920)=true
 refine decide_eq_true ?_
 by_cases h0:i.natAbs=0
 ·rw[h0];decide
 ·exact U0 ((Nat.log2_lt h0).mpr h) hk
end L3
namespace L2
open PySem PySem.Spec PyProof.Rows
noncomputable def AE:V->Int
 | .int i=>i
 | _=>0
theorem pJ(l:List Int):(l.map V.int).map AE=l:=by rw[B1];exact B8 l
theorem oj{l m:List Int}(e:l.map V.int=m.map V.int):l=m:=by rw[<- pJ l,<- pJ m,e]
noncomputable def mN(H:Hp)(p:List Int)(y:Value):Bool:=@decide (∃c,y=.ref c/\H c=some (.tup (p.map V.int))) (Classical.propDecidable _)
theorem QK{ns:List Int}{us:List Value}(r:Vals (ns.map V.int) us){k:Nat}(h:k < us.length):∃t,us[k]=.int (ns.getD k 0) t:=by
 have hl:=r.length
 rw[p0]at hl
 have hk:k < ns.length:=by omega
 obtain⟨u,hu,ru⟩:=r.get (i:=k) (x:=.int ns[k]) (by rw[R0,A0 hk];rfl)
 obtain⟨t,e⟩:=ru
 rw[A0 h]at hu
 have hu:=Q1 hu
 refine ⟨t,?_⟩
 rw[hu,e,Z2,A0 hk]
 rfl
end L2
namespace L3
open PySem PySem.Spec PyProof.Rows L2
theorem DaAll.ints_of{K:Fg}{F:Hp}{ys:List V}{p:List Int}(h:DaAll K F ys (p.map j0)):ys=p.map V.int:=by
 have e:p.map j0=(p.map λn=>(.inl n:HQ)).map OX:=by rw[B1];rfl
 rw[e]at h
 have:=h.keys
 rw[this,B1];rfl
noncomputable def qj(K:Fg):R2:=λx y H Q=>∃j,y=.int j/\zu K x none (some j) H Q
noncomputable def rj(K:Fg):R2:=λx y H Q=>∃j,y=.int j/\zu K x (some j) none H Q
noncomputable def sj:D->D->(Sl->Prop)->Prop
 | .list ds,.int j,Q=>Q (.ow (.list (ds.take (if j < 0 then (j+ds.length).toNat else j.toNat))))
 | _,_,_=>False
noncomputable def tj:D->D->(Sl->Prop)->Prop
 | .list ds,.int j,Q=>Q (.ow (.list (ds.drop (if j < 0 then (j+ds.length).toNat else j.toNat))))
 | _,_,_=>False
theorem uj{α:Type}(us:List α)(j:Int):us.take (HT.sIx us.length us.length (some j))=us.take (if j < 0 then (j+us.length).toNat else j.toNat):=by
 show us.take (if j < 0 then (j+(us.length:Int)).toNat else min j.toNat us.length)=_
 split
 ·rfl
 ·by_cases h:j.toNat<=us.length
  ·rw[W5 h]
  ·rw[Y1 (by omega),Y1 (by omega)]
theorem vj{K:Fg}:WQ K (uK (qj K)) (o2 sj):=bG λG F σ H ρ x y d e Q Qd R h1 h2 w k=>by
 match d,e,h1,h2,w with
 | .list ds,.int j,h1,h2,w =>
  cases h2.int
  obtain⟨a,us,rfl,e1,d1⟩:=h1.list R.sub
  refine ⟨j,rfl,a,us,rfl,SqL.of e1,λp hp=>?_⟩
  have e3:zJ us none (some j)=us.take (if j < 0 then (j+ds.length).toNat else j.toNat):=by
   rw[<- d1.length,<- uj]
   rfl
  rw[e3]
  obtain⟨R',r'⟩:=R.newOw (o:=.lst (us.take (if j < 0 then (j+ds.length).toNat else j.toNat))) (d:=.list (ds.take (if j < 0 then (j+ds.length).toNat else j.toNat))) hp (d1.take _)
  exact k _ _ F _ (Sub.refl _) R' r' w
theorem wj{K:Fg}:WQ K (uK (rj K)) (o2 tj):=bG λG F σ H ρ x y d e Q Qd R h1 h2 w k=>by
 match d,e,h1,h2,w with
 | .list ds,.int j,h1,h2,w =>
  cases h2.int
  obtain⟨a,us,rfl,e1,d1⟩:=h1.list R.sub
  refine ⟨j,rfl,a,us,rfl,SqL.of e1,λp hp=>?_⟩
  have hl:=d1.length
  have e3:zJ us (some j) none=us.drop (if j < 0 then (j+ds.length).toNat else j.toNat):=by
   unfold zJ
   show (us.drop (if j < 0 then (j+(us.length:Int)).toNat else min j.toNat us.length)).take (us.length - (if j < 0 then (j+(us.length:Int)).toNat else min j.toNat us.length))=_
   rw[Y1 (by rw[P1];omega),hl]
   split
   ·rfl
   ·by_cases h:j.toNat<=us.length
    ·rw[W5 (by omega)]
    ·rw[J4 (by omega),J4 (by omega)]
  rw[e3]
  obtain⟨R',r'⟩:=R.newOw (o:=.lst (us.drop (if j < 0 then (j+ds.length).toNat else j.toNat))) (d:=.list (ds.drop (if j < 0 then (j+ds.length).toNat else j.toNat))) hp (d1.drop _)
  exact k _ _ F _ (Sub.refl _) R' r' w
section
variable {X:Cx}{K:Fg}{e1 e2:Expr}{a b:AD}{pos p2:Pos}
theorem rX(hK:X.K=K)(ha:WE X e1 (qQ K a))(hb:WE X e2 (qQ K b)):WE X (.Subscript e1 (.Slice none (some e2) none p2) pos) (lift K (fY [a,b] (o2 sj))):=by
 subst hK
 exact ⟨NK (YJ dF ha.h dY (eY hb.h)) λq=>VH (P:=λx y H=>qj X.K x y H _) (CY vj q)⟩
theorem sX(hK:X.K=K)(ha:WE X e1 (qQ K a))(hb:WE X e2 (qQ K b)):WE X (.Subscript e1 (.Slice (some e2) none none p2) pos) (lift K (fY [a,b] (o2 tj))):=by
 subst hK
 exact ⟨NK (YJ dF ha.h (eY hb.h) dY) λq=>VH (P:=λx y H=>rj X.K x y H _) (CY wj q)⟩
end
end L3
namespace L2
open PySem PySem.Spec PyProof.Rows
theorem SZ:∀{vs:List Value}{ns:List Int},IntsAre vs ns->Vals (ns.map V.int) vs
 | _,_,.nil=>.nil
 | _,_,.cons n t r=>.cons ⟨t,rfl⟩ (SZ r)
end L2
namespace L3
open PySem PySem.Spec PyProof.Rows L2
end L3
namespace L2
open PySem PySem.Spec PyProof.Rows
section
variable {prog:Program}{w:World}{A:Around}{E:Value->Shared->Prop}{s:Shared}
theorem SY{it t:Addr}{items:Array Value}(hne:t≠it):∀(n i:Nat) (s:Shared) (Q:List Value->Shared->Prop),s.heap.IsListIter it t i->s.heap.IsList t items->i+n<=items.size ->
  (∀h',h'.IsListIter it t (i+n)->h'.IsList t items->F7 it s.heap h'->Q ((items.toList.drop i).take n) { s with heap:=h' })->wpAny (model prog w) A (draw (.ref it) n) Q E s
 | 0,i,s,Q,hit,ht,_,hQ=>by
  show wpAny _ _ (pure []) Q E s
  exact wpAny_pure (by simpa using hQ s.heap hit ht (λ_ _ _ e=>e))
 | n+1,i,s,Q,hit,ht,hle,hQ=>by
  have hlt:i < items.size:=by omega
  show wpAny _ _ (pyNext (.ref it) >>= _) Q E s
  refine wpAny_bind (wpAny_pyNext_list_item hit ht (x:=items[i]) (by simp[hlt]) λh₁ hit₁ hs₁=>?_)
  have ht1:=ht.extBut hs₁.extBut hne
  refine wpAny_bind (wpAny_holding (SY hne n (i+1) _ _ hit₁ ht1 (by omega) λh₂ hit₂ ht2 hs₂=>wpAny_pure ?_))
  have hd:items.toList.drop i=items[i] :: items.toList.drop (i+1):=by simp[Z3,hlt]
  have:=hQ h₂ (by rw[show i+(n+1)=i+1+n by omega];exact hit₂) ht2 (λb o hb e=>hs₂ b o hb (hs₁.extBut b o hb e))
  rw[hd,N8]at this
  exact this
theorem nK{t:Addr}{items:Array Value}{Q:List Value->Shared->Prop}(hh:A.handled=none)(ht:s.heap.IsList t items)
  (hQ:∀h',F7 s.heap.objs.size s.heap h'->Q items.toList { s with heap:=h' }):wpAny (model prog w) A (unpackItems (.ref t) items.size none) Q E s:=by
 have hlt:t≠s.heap.objs.size:=by obtain⟨o,ho,_⟩:=ht;exact S0 (M0 ho)
 unfold unpackItems
 refine wpAny_bind ?_
 ·unfold notIterableAtAll
  refine wpAny_bind (wpAny_specialOf ht.typeIs slot_list_iter.lookup ?_)
  refine wpAny_pure ?_
  simp only[S3,if_false]
  refine wpAny_bind (wpAny_holding (wpAny_pyIter_list ht ?_))
  refine wpAny_bind (wpAny_holding (SY hlt items.size 0 _ _ ⟨_,L0 _ rfl,rfl,rfl⟩ (ht.push _) (by omega) λh₁ hit₁ ht₁ hs₁=>?_))
  have hall:List.take items.size (List.drop 0 items.toList)=items.toList:=by
   rw[F8];exact Y1 (by simp)
  rw[hall]
  rw[if_neg (by simp)]
  refine wpAny_bind (wpAny_holding (wpAny_pyNext_list_end hh hit₁ ht₁ (by simp) λh₂ he₂=>?_))
  simp only[Option.isSome_none,S3,if_false]
  refine wpAny_pure (hQ h₂ λb o hb e=>he₂ b o hb (hs₁ b o hb (n0 _ e)))
theorem NJ{env:Env}{elts:List Expr}{x1}{pos:Pos}{t:Addr}{items:Array Value}{Q:Unit->Shared->Prop}(hh:A.handled=none)(ht:s.heap.IsList t items)
  (hn:(assignEach elts env).length=items.size) (hstar:(assignEach elts env).findIdx? (·.1)=none)
  (h:∀h',F7 s.heap.objs.size s.heap h'->wpAny (model prog w) A (assignInOrder ((assignEach elts env).map (·.2)) items.toList) Q E { s with heap:=h' }) :
  wpAny (model prog w) A (assign (.Tuple elts x1 pos) env (.ref t)) Q E s:=by
 rw[arm_assign_Tuple]
 refine wpAny_bind (wpAny_standAt ?_)
 unfold unpack
 rw[hn,hstar]
 exact wpAny_bind (wpAny_holding (nK hh ht h))
theorem xj{l:Addr}{xs:Array (Int×Tok)}{Q:Value->Shared->Prop}(hh:A.handled=none)(ht:s.heap.IsTuple l (intItems xs))(hne:0 < xs.size)
  (h:∀v h' tk,(intItems xs)[argBest (λi j=>decide (numAt xs i > numAt xs j)) (xs.size - 1)]?=some v->(∀b o,s.heap.get? b=some o->h'.get? b=some o)->Q v { s with heap:=h',toks:=tk }) :
  wpAny (model prog w) A (call (.builtin "max") [.ref l]) Q E s:=by
 obtain⟨o,ho,hc,n,hd⟩:=id ht
 have hn:l≠s.heap.objs.size:=S0 (M0 ho)
 refine call_max_walk (wpAny_pyIter_tuple ht ?_)
 refine ⟨s.heap.objs.size,_,_,_,_,_,_,rfl,Walks.tuple (A:=A.in1) hh _ l hn (intItems xs),⟨⟨_,L0 _ rfl,rfl,rfl⟩,ht.push _⟩,λb hb=>?_,by simpa [intItems]using hne,CmpOf.ints_gt (numAt xs) (λ_ _=>intItems_at),λv h' tk hP hk=>?_⟩
 ·rcases K0.mp hb with rfl|hb
  ·exact M0 (L0 _ rfl)
  ·obtain rfl:=Y0.mp hb
   exact M0 (n0 _ ho)
 ·exact h v h' tk (by simpa [intItems]using hP) λb o e=>hk b o (λhb=>absurd (M0 e) ((Y0.mp hb) ▸ G3 _)) (n0 _ e)
end
noncomputable def BE(K:q0)(n:Nat)(t:gq):TG:=λv σ H Q=>∃a xs,v=.ref a/\SqL K H a xs/\xs.length=n/\t xs σ H Q
theorem iB{X:Cx}{pos:Pos}{es:List Expr}{k:Nat}{t:gq}{n:Nat}(hc:X.calm=true)(h:Rx X es t)
  (hn:(assignEach es X.env).length=n:=by rfl) (hst:(assignEach es X.env).findIdx? (·.1)=none:=by rfl):PG X (.Tuple es k pos) (BE X.K n t):=by
 intro pins s σ H v u Q I r hw
 obtain⟨a,xs,e1,hq,hl,hw⟩:=hw
 subst e1
 cases r
 obtain⟨its,rv,p,hz⟩:=I.list hq
 refine NJ (I.ok.hd hc) p.isList (by simp[hn,<- hl,rv.length]) hst λh' hx=>?_
 have I1:Inv X pins σ H { s with heap:=h' }:=I.kept (t':=s.toks) λb o e=>hx b o (S0 (M0 e)) e
 exact h pins _ σ H xs _ Q I1 (by simpa using rv) hw
noncomputable def EE(K:q0):List V->Hp->VK->Prop:=λxs H Q=>∃(a:Addr) (ns:List Int),xs=[.ref a]/\(SqL K H a (ns.map V.int)\/SqT K H a (ns.map V.int))/\0 < ns.length/\∀M,M∈ns->(∀y∈ns,y<=M)->Q (.int M) H
theorem PU{X:Cx}{K:q0}(hK:X.K=K)(hc:X.calm=true):TQ X (.builtin "max") (EE K):=by
 subst hK
 intro pins s σ H xs us Q I r h
 obtain⟨a,ns,rfl,hq,hp,q⟩:=h
 obtain⟨u,rfl,ru⟩:=XX r
 cases ru
 have hh:=I.ok.hd hc
 have fin:∀{its:List Value}{zs:Array (Int×Tok)},Vals (ns.map V.int) its->its.toArray=intItems zs->0 < zs.size/\∀(v:Value) (h':Heap) (tk:Nat),(intItems zs)[argBest (λi j=>decide (numAt zs i > numAt zs j)) (zs.size - 1)]?=some v->(∀b o,s.heap.get? b=some o->h'.get? b=some o)->EP X pins σ Q v { s with heap:=h',toks:=tk }:=by
  intro its zs rv e
  have hi:IntsAre its ns:=lX rv
  have hns:ns=zs.toList.map (·.1):=by rw[<- nums_intItems,<- e];exact (show numsOf its.toArray.toList=ns from hi.numsOf).symm
  have hsz:0 < zs.size:=by have h3:=hp;rw[hns,p0,W0]at h3;exact h3
  refine ⟨hsz,λv h' tk hv hk=>?_⟩
  obtain⟨t,rfl⟩:=intItems_at hv
  obtain⟨h1,h2⟩:=argBest_gt (numAt zs) (zs.size - 1)
  refine ⟨.int _,H,I.kept hk,⟨t,rfl⟩,q _ ?_ λy hy=>?_⟩
  ·rw[hns,numAt_eq];exact getD_mem (by rw[p0,W0];omega)
  ·rw[hns]at hy
   obtain⟨j,hj,rfl⟩:=mem_getD hy
   rw[p0,W0]at hj
   rw[<- numAt_eq];exact h2 j (by omega)
 rcases hq with hq|hq
 ·obtain⟨its,rv,p,hz⟩:=I.list hq
  obtain⟨zs,hx⟩:=(lX rv).allInts.items
  obtain⟨hs,f⟩:=fin rv hx
  exact max_intList hh (hx ▸ p.isList) hs f
 ·obtain⟨its,rv,p,hz⟩:=I.tuple hq
  obtain⟨zs,hx⟩:=(lX rv).allInts.items
  obtain⟨hs,f⟩:=fin rv hx
  exact xj hh (show s.heap.IsTuple a (intItems zs) from hx ▸ p) hs f
end L2
namespace L3
open PySem PySem.Spec PyProof.Rows L2
noncomputable def sL(gs:List HZ):HZ:=λd ρ Q=>match d with
 | .list ds=>ds.length=gs.length/\jL gs ds ρ Q
 | _=>False
section
variable {K:Fg}{σ:L2.St}{H:Hp}{v:V}{Q:L2.St->Hp->Prop}
theorem nM{gs:List HZ}{n:Nat}(hn:gs.length=n)(h:ZQ K (sL gs) v σ H Q):BE K n (WK (gs.map (ZQ K))) v σ H Q:=by
 obtain⟨G,F,ρ,d,Qd,R,hd,w,k⟩:=h
 unfold sL at w
 split at w
 ·cases hd with
  | lst e t=>exact ⟨_,_,rfl,SqL.of (R.sub _ _ e),by rw[t.length,w.1,hn],u9 R t w.2 k⟩
 ·exact w.elim
end
theorem FE{X:Cx}{K:Fg}{es:List Expr}{pos:Pos}{gs:List HZ}{k:Nat}(hK:X.K=K)(hc:X.calm=true)(hh:WGs X es (WK (gs.map (ZQ K))))(hn:(assignEach es X.env).length=gs.length:=by rfl)(hst:(assignEach es X.env).findIdx? (·.1)=none:=by rfl):WG X (.Tuple es k pos) (ZQ K (sL gs)):=by
 subst hK
 exact ⟨jM (iB hc hh.h hn hst) (nM rfl)⟩
noncomputable def kN:D->(Sl->Prop)->Prop
 | .list ds,Q=>∃ns:List Int,ds=ns.map j0/\0 < ns.length/\∀M,M∈ns->(∀y∈ns,M<=y)->Q (.fz (.int M))
 | .tuple ds,Q=>∃ns:List Int,ds=ns.map j0/\0 < ns.length/\∀M,M∈ns->(∀y∈ns,M<=y)->Q (.fz (.int M))
 | _,_=>False
noncomputable def oM:D->(Sl->Prop)->Prop
 | .list ds,Q=>∃ns:List Int,ds=ns.map j0/\0 < ns.length/\∀M,M∈ns->(∀y∈ns,y<=M)->Q (.fz (.int M))
 | .tuple ds,Q=>∃ns:List Int,ds=ns.map j0/\0 < ns.length/\∀M,M∈ns->(∀y∈ns,y<=M)->Q (.fz (.int M))
 | _,_=>False
theorem yj{K:Fg}:WQ K (EE K) (o1 oM):=xH λG F σ H ρ x d Q Qd R h1 w k=>by
 match d,h1,w with
 | .list ds,h1,⟨ns,e,hp,w⟩ =>
  subst e
  obtain⟨a,us,rfl,e1,d1⟩:=h1.list R.sub
  have:=d1.intsV
  subst this
  exact ⟨a,ns,rfl,.inl (SqL.of e1),hp,λM m1 m2=>k _ H F (.fz _) (Sub.refl _) R (Da.int _) (w M m1 m2)⟩
 | .tuple ds,h1,⟨ns,e,hp,w⟩ =>
  subst e
  obtain⟨a,us,rfl,_,e1,d1⟩:=h1.tuple R.sub
  have:=d1.intsV
  subst this
  exact ⟨a,ns,rfl,.inr (SqT.of e1),hp,λM m1 m2=>k _ H F (.fz _) (Sub.refl _) R (Da.int _) (w M m1 m2)⟩
open PySem PySem.Spec L2
section
variable {K:Fg}{G:Gh}{F F' H H':Hp}{σ:L2.St}{ρ:Ev}
noncomputable def dy:Sl->Bool
 | .fz d=>noMut d
 | .ow (.list ds)=>noMutAll ds
 | _=>false
noncomputable def zj(con:Con)(as:List AD):TD:=λρ Q=>AX as ρ λxs ρ1=>gX ρ1 xs λds=>con (ds.map Sl.fz) λr _=>dy r=true/\Q r ρ1
theorem Res.calledL{xs:List ZV}(R:Rel K G F σ H ρ){σ1:L2.St}{ρ1:Ev}{v:V}{r:Sl}(R':Rel K ⟨H,kJ σ ρ xs F H,λ_=>none⟩ F' σ1 H' ρ1)(q:Res K ⟨H,kJ σ ρ xs F H,λ_=>none⟩ F' H' σ1 ρ1 v r)
  (hl:dy r=true):Res K G (GX σ ρ xs F') H' σ ρ v r:=by
 have tp:∀b ys,F' b=some (.tup ys)->GX σ ρ xs F' b=some (.tup ys):=λb ys e=>by
  have n:¬LentA σ ρ xs b:=λz=>by
   obtain⟨_,_,o,_,_,_,_,h,w⟩:=z.own R
   have e2:=R'.sub0 b o (by show kJ σ ρ xs F H b=some o;rw[gY z];exact h)
   rw[e]at e2;cases e2
   exact w
  rw[RX n];exact e
 cases r with
 | fz d=>exact Da.noMut tp q hl
 | io d=>exact q.elim
 | ow d =>
  obtain⟨a,o,h1,h2,h3,h4,h5,_⟩:=q
  have h5:H a=none:=h5
  have nl:¬LentA σ ρ xs a:=λz=>by
   obtain⟨_,_,o,_,_,_,_,h,w⟩:=z.own R
   rw[h5]at h;cases h
  refine ⟨a,o,h1,by rw[RX nl];exact h2,h3,?_,R.h0 h5,λi s es w z=>?_⟩
  ·cases d with
   | list ds =>
    cases o with
    | lst ys=>exact DaAll.noMut tp h4 hl
    | _=>exact h4.elim
   | _=>cases hl
  ·obtain⟨a',o',g1,_,g3,_⟩:=R.ow i s es w
   rw[z]at g1;cases g1
   rw[h5]at g3;cases g3
theorem Cw{con:Con}{as:List AD}{E:XK}{Q:VK}(h:lift K (zj con as) σ H Q):qY (lQ K con) [] E (DQ (as.map (qQ K))) σ H Q:=by
 obtain⟨G,F,ρ,Qd,R,w,k⟩:=h
 refine EX R w λvs H1 F1 xs ρ1 s1 R1 o w1=>?_
 obtain⟨ds,da,w1⟩:=HY (xs:=xs) R1 (λy hy=>hy) o w1
 rw[u4]
 refine ⟨_,_,ds.map Sl.fz,_,AU (qF R1) da,w1,λv H' F' r ρ' s' R' r' q=>?_⟩
 obtain⟨sb,R2⟩:=R1.called R'
 exact k v H' _ r ρ1 (s1.trans sb) R2 (Res.calledL R1 R' r' q.1) q.2
end
section
variable {X:Cx}{K:Fg}{e:Expr}{es:List Expr}{as:List AD}{x:Str}{p pos:Pos}
theorem DF{k:Nat}{ps:List Str}{con:Con}(C:Cal X.prog X.w X.K X.mg X.base k x ps (lQ K con))(hr:Room k X.A)(ha:WA X (e :: es) (DQ (as.map (qQ K))))(hg:Gl X x:=by rfl)(hdb:(x==("__debug__":Str))=false:=by decide)
  (he:KQ e=true:=by rfl) (hpl:es.all KQ=true:=by rfl):WE X (.Call (.Name x p) (e :: es) [] pos) (lift K (zj con as)):=⟨NK (lz C hr ha.h hg hdb (rQ he) (qX hpl)) Cw⟩
end
end L3
namespace SG
open PySem PyProof.Rows
noncomputable def ND:Bool->Keyed->Array Keyed->Nat->Nat->Nat->StateT SortSt Sem (Option Nat):=sortPriv% PySem.Builtin.gallop
noncomputable def tL:Array Keyed->Array Keyed->StateT SortSt Sem (Array Keyed):=sortPriv% PySem.Builtin.mergeLo
noncomputable def uL:Array Keyed->Array Keyed->StateT SortSt Sem (Array Keyed):=sortPriv% PySem.Builtin.mergeHi
noncomputable abbrev oK(z:SortSt)(g:Nat):SortSt:=SortSt.mk' (kindOf z) (arrOf z) (pendingOf z) g (failedOf z)
theorem jB(lf:Bool)(ky:Keyed)(xs:Array Keyed)(bs n ht:Nat):ND lf ky xs bs n ht=(do
    let ov (i:Nat):StateT SortSt Sem (Option Bool):=do
      let z<-elem' xs (bs+i)
      if lf then lt' z ky else return (<- lt' ky z).map (!·)
    let mut la:=0
    let mut o:=1
    let mut l:=0
    let mut h:=0
    let some rt<-ov ht|return none
    if rt then
      let mx:=n - ht
      for _ in [0:n] do
        if o ≥ mx then break
        let some mo<-ov (ht+o)|return none
        if !mo then break
        la:=o
        o:=2 * o+1
      l:=ht+la+1
      h:=ht+min o mx
    else
      let mx:=ht+1
      for _ in [0:n] do
        if o ≥ mx then break
        let some fo<-ov (ht - o)|return none
        if fo then break
        la:=o
        o:=2 * o+1
      l:=ht+1 - min o mx
      h:=ht - la
    for _ in [0:n] do
      if l ≥ h then break
      let m:=l+(h - l) / 2
      let some mo<-ov m|return none
      if mo then l:=m+1 else h:=m
    return some h):=rfl
section
variable {prog:Program}{w:World}{A:Around}{E:Value->Shared->Prop}{s:Shared}{κ:SortKind}{rk:Keyed->Nat}{S:Keyed->Prop}
noncomputable def eZ(prog:Program)(w:World)(A:Around)(s:Shared)(κ:SortKind)(rk:Keyed->Nat)(S:Keyed->Prop):Prop :=
 ∀x y:Keyed,S x->S y->∀Q:Bool->Shared->Prop,Q (decide (rk x < rk y)) s->wpAny (model prog w) A (keyLt' κ x.1 y.1) Q (λ_ _=>False) s
theorem w_lt(q:eZ prog w A s κ rk S){x y:Keyed}{st:SortSt}{Q:Option Bool->SortSt->Prop}(hk:kindOf st=κ)(hx:S x)(hy:S y)(h:Q (some (decide (rk x < rk y))) st) :
  wpS (model prog w) A E s (lt' x y) Q st:=by
 rw[lt'_eq]
 refine wpS_bind (wpS_get ?_)
 rw[hk]
 refine wpS_bind (wpS_lift (wpAny_attempt (wpAny_mono (q x y hx hy (λb s'=>b=decide (rk x < rk y)/\s'=s) ⟨rfl,rfl⟩) (λb s' e=>?_) λ_ _ e=>e.elim)))
 obtain⟨rfl,rfl⟩:=e
 exact ⟨rfl,wpS_pure h⟩
theorem bX{xs:Array Keyed}{i:Nat}{st:SortSt}{Q:Keyed->SortSt->Prop}(hi:i < xs.size)(h:Q xs[i] st):wpS (model prog w) A E s (elem' xs i) Q st:=by
 rw[elem'_eq,getElem?_pos xs i hi]
 exact wpS_pure h
noncomputable def Ov(prog:Program)(w:World)(A:Around)(E:Value->Shared->Prop)(s:Shared)(n:Nat)(b:Nat->Bool)(st:SortSt)(ov:Nat->StateT SortSt Sem (Option Bool)):Prop :=
 ∀i,i < n->∀Q:Option Bool->SortSt->Prop,Q (some (b i)) st->wpS (model prog w) A E s (ov i) Q st
noncomputable def GE(ov:Nat->StateT SortSt Sem (Option Bool))(n l₀ h₀:Nat):StateT SortSt Sem (Option Nat):=do
 let mut l:=l₀
 let mut h:=h₀
 for _ in [0:n] do
  if l ≥ h then break
  let m:=l+(h - l) / 2
  let some mo<-ov m|return none
  if mo then l:=m+1 else h:=m
 return some h
theorem w_bin{ov:Nat->StateT SortSt Sem (Option Bool)}{n l h':Nat}{b:Nat->Bool}{st:SortSt}{Q:Option Nat->SortSt->Prop}(hO:Ov prog w A E s n b st ov)
  (hm:∀i j,i<=j->j < n->b j=true->b i=true) (h1:l<=h') (h2:h'<=n) (h3:∀i,i < l->b i=true) (h4:∀i,h'<=i->i < n->b i=false)
  (h:∀k,k<=n->(∀i,i < k->b i=true)->(∀i,k<=i->i < n->b i=false)->Q (some k) st):wpS (model prog w) A E s (GE ov n l h') Q st:=by
 unfold GE
 refine wpS_bind (wpS_mono (wpS_forRange (I:=λx c st'=>st'=st/\∃l h',c=(none,l,h')/\l<=h'/\h'<=n/\h' - l<=n - x/\(∀i,i < l->b i=true)/\∀i,h'<=i->i < n->b i=false)
   (Q:=λc st'=>st'=st/\∃k,c=(none,k,k)/\k<=n/\(∀i,i < k->b i=true)/\∀i,k<=i->i < n->b i=false) ?step ?fin ⟨rfl,l,h',rfl,h1,h2,by omega,h3,h4⟩) ?post)
 case fin =>
  rintro c st' ⟨rfl,l,h',rfl,a1,a2,a3,a4,a5⟩
  have:l=h':=by omega
  subst this
  exact ⟨rfl,l,rfl,a2,a4,a5⟩
 case post =>
  rintro c st' ⟨rfl,k,rfl,a1,a2,a3⟩
  exact wpS_pure (h k a1 a2 a3)
 case step =>
  rintro x c st' _ hx ⟨rfl,l,h',rfl,a1,a2,a3,a4,a5⟩
  dsimp only
  by_cases hge:l ≥ h'
  ·rw[if_pos hge]
   have:l=h':=by omega
   subst this
   exact wpS_pure ⟨rfl,l,rfl,a2,a4,a5⟩
  ·rw[if_neg hge]
   refine wpS_bind (hO _ (by omega) _ ?_)
   cases hb:b (l+(h' - l) / 2) with
   | true =>
    refine wpS_pure ⟨rfl,_,_,rfl,by omega,a2,by omega,λi hi=>hm _ _ (by omega) (by omega) hb,a5⟩
   | false =>
    refine wpS_pure ⟨rfl,_,_,rfl,by omega,by omega,by omega,a4,λi i1 i2=>?_⟩
    cases hbi:b i with
    | false=>rfl
    | true=>rw[hm _ _ i1 i2 hbi]at hb;cases hb
theorem HE{lf:Bool}{ky:Keyed}{xs:Array Keyed}{bs n ht:Nat}{st:SortSt}{Q:Option Nat->SortSt->Prop}{b:Nat->Bool}
  (hO:Ov prog w A E s n b st (λi=>do
    let z<-elem' xs (bs+i)
    if lf then lt' z ky else return (<- lt' ky z).map (!·)))
  (hm:∀i j,i<=j->j < n->b j=true->b i=true) (hh:ht < n)
  (h:∀k,k<=n->(∀i,i < k->b i=true)->(∀i,k<=i->i < n->b i=false)->Q (some k) st):wpS (model prog w) A E s (ND lf ky xs bs n ht) Q st:=by
 rw[jB]
 generalize hov:(λi=>(do
     let z<-elem' xs (bs+i)
     if lf then lt' z ky else return (<- lt' ky z).map (!·):StateT SortSt Sem (Option Bool)))=ov at hO
 dsimp only
 clear hov
 refine wpS_bind (hO ht hh _ ?_)
 cases hb:b ht with
 | true =>
  dsimp only
  rw[if_pos rfl]
  refine wpS_bind (wpS_mono (wpS_forRange (I:=λx c st'=>st'=st/\∃la o:Nat,c=(none,la,o)/\la < o/\x+1<=o/\ht+la < n/\b (ht+la)=true)
    (Q:=λc st'=>st'=st/\∃la o:Nat,c=(none,la,o)/\la < o/\ht+la < n/\b (ht+la)=true/\(n - ht<=o\/b (ht+o)=false)) ?step ?fin ⟨rfl,0,1,rfl,by omega,by omega,by omega,hb⟩) ?post)
  case fin =>
   rintro c st' ⟨rfl,la,o,rfl,a1,a2,a3,a4⟩
   exact ⟨rfl,la,o,rfl,a1,a3,a4,.inl (by omega)⟩
  case step =>
   rintro x c st' _ hx ⟨rfl,la,o,rfl,a1,a2,a3,a4⟩
   dsimp only
   by_cases hge:o ≥ n - ht
   ·rw[if_pos hge]
    exact wpS_pure ⟨rfl,la,o,rfl,a1,a3,a4,.inl hge⟩
   ·rw[if_neg hge]
    refine wpS_bind (hO _ (by omega) _ ?_)
    cases hbo:b (ht+o) with
    | true=>exact wpS_pure ⟨rfl,o,2 * o+1,rfl,by omega,by omega,by omega,hbo⟩
    | false=>exact wpS_pure ⟨rfl,la,o,rfl,a1,a3,a4,.inr hbo⟩
  case post =>
   rintro c st' ⟨rfl,la,o,rfl,a1,a3,a4,a5⟩
   refine w_bin hO hm (l:=ht+la+1) (h':=ht+min o (n - ht)) (by omega) (by omega) (λi hi=>hm _ _ (by omega) a3 a4) (λi i1 i2=>?_) h
   rcases a5 with a5|a5
   ·omega
   ·cases hbi:b i with
    | false=>rfl
    | true=>rw[hm (ht+o) i (by omega) i2 hbi]at a5;cases a5
 | false =>
  dsimp only
  rw[if_neg (by decide)]
  refine wpS_bind (wpS_mono (wpS_forRange (I:=λx c st'=>st'=st/\∃la o:Nat,c=(none,la,o)/\la < o/\x+1<=o/\la<=ht/\b (ht - la)=false)
    (Q:=λc st'=>st'=st/\∃la o:Nat,c=(none,la,o)/\la < o/\la<=ht/\b (ht - la)=false/\(ht+1<=o\/b (ht - o)=true)) ?step2 ?fin2 ⟨rfl,0,1,rfl,by omega,by omega,by omega,hb⟩) ?post2)
  case fin2 =>
   rintro c st' ⟨rfl,la,o,rfl,a1,a2,a3,a4⟩
   exact ⟨rfl,la,o,rfl,a1,a3,a4,.inl (by omega)⟩
  case step2 =>
   rintro x c st' _ hx ⟨rfl,la,o,rfl,a1,a2,a3,a4⟩
   dsimp only
   by_cases hge:o ≥ ht+1
   ·rw[if_pos hge]
    exact wpS_pure ⟨rfl,la,o,rfl,a1,a3,a4,.inl hge⟩
   ·rw[if_neg hge]
    refine wpS_bind (hO _ (by omega) _ ?_)
    cases hbo:b (ht - o) with
    | false=>exact wpS_pure ⟨rfl,o,2 * o+1,rfl,by omega,by omega,by omega,hbo⟩
    | true=>exact wpS_pure ⟨rfl,la,o,rfl,a1,a3,a4,.inr hbo⟩
  case post2 =>
   rintro c st' ⟨rfl,la,o,rfl,a1,a3,a4,a5⟩
   have up:∀i,ht - la<=i->i < n->b i=false:=λi i1 i2=>by
    cases hbi:b i with
    | false=>rfl
    | true=>rw[hm (ht - la) i i1 i2 hbi]at a4;cases a4
   refine w_bin hO hm (l:=ht+1 - min o (ht+1)) (h':=ht - la) (by omega) (by omega) (λi hi=>?_) up h
   rcases a5 with a5|a5
   ·omega
   ·exact hm _ (ht - o) (by omega) (by omega) a5
theorem EZ(q:eZ prog w A s κ rk S){lf:Bool}{ky:Keyed}{xs:Array Keyed}{bs n ht:Nat}{st:SortSt}{Q:Option Nat->SortSt->Prop}(hk:kindOf st=κ)(hy:S ky)(hS:∀i (h:i < xs.size),S xs[i])
  (hn:bs+n<=xs.size) (hs:∀i j (h:j < xs.size) (h2:i<=j),bs<=i->j < bs+n->rk (xs[i]'(by omega))<=rk xs[j]) (hh:ht < n)
  (h:∀k,k<=n->(∀i (h:i < xs.size),bs<=i->i < bs+k->if lf=true then rk xs[i] < rk ky else rk xs[i]<=rk ky)->(∀i (h:i < xs.size),bs+k<=i->i < bs+n->if lf=true then rk ky<=rk xs[i] else rk ky < rk xs[i])->Q (some k) st) :
  wpS (model prog w) A E s (ND lf ky xs bs n ht) Q st:=by
 refine HE (b:=λi=>if hi:bs+i < xs.size then (if lf=true then decide (rk xs[bs+i] < rk ky) else !decide (rk ky < rk xs[bs+i])) else false) ?_ ?_ hh ?_
 ·intro i hi Q hQ
  have hi':bs+i < xs.size:=by omega
  simp only[dif_pos hi']at hQ
  refine wpS_bind (bX hi' ?_)
  cases lf with
  | true=>exact w_lt q hk (hS _ _) hy hQ
  | false=>exact wpS_bind (w_lt q hk hy (hS _ _) (wpS_pure hQ))
 ·intro i j hij hj hb
  have hj':bs+j < xs.size:=by omega
  have hi':bs+i < xs.size:=by omega
  have hle:=hs (bs+i) (bs+j) hj' (by omega) (by omega) (by omega)
  simp only[dif_pos hj']at hb
  simp only[dif_pos hi']
  cases lf with
  | true=>simp at hb ⊢;omega
  | false=>simp at hb ⊢;omega
 ·intro k hk h1 h2
  refine h k hk (λi hi i1 i2=>?_) (λi hi i1 i2=>?_)
  ·have:=h1 (i - bs) (by omega)
   have e:bs+(i - bs)=i:=by omega
   simp only[e,dif_pos hi]at this
   cases lf with
   | true=>simpa using this
   | false=>simpa using this
  ·have:=h2 (i - bs) (by omega) (by omega)
   have e:bs+(i - bs)=i:=by omega
   simp only[e,dif_pos hi]at this
   cases lf with
   | true=>simpa using this
   | false=>simpa using this
end
section
variable {α:Type}{le:α->α->Prop}{a b out:List α}{i j:Nat}
structure Mg(le:α->α->Prop)(a b out:List α)(i j:Nat):Prop where
 perm:out.Perm (a.take i++b.take j)
 srt:out.Pairwise le
 la:∀x∈out,∀y∈a.drop i,le x y
 lb:∀x∈out,∀y∈b.drop j,le x y
theorem Mg.comm(h:Mg le a b out i j):Mg le b a out j i:=⟨h.perm.trans O6,h.srt,h.lb,h.la⟩
theorem Mg.takeA(h:Mg le a b out i j)(ha:a.Pairwise le)(k:Nat)(hk:∀x∈(a.drop i).take k,∀y∈b.drop j,le x y):Mg le a b (out++(a.drop i).take k) (i+k) j where
 perm:=by
  rw[List.take_add]
  refine (h.perm.append_right _).trans ?_
  rw[T2,T2]
  exact List.Perm.append_left _ O6
 srt:=u3.mpr ⟨h.srt,(ha.sublist (K6 _ _)).sublist (List.take_sublist _ _),λx hx y hy=>h.la x hx y (T3 hy)⟩
 la:=λx hx y hy=>by
  rw[<- G8]at hy
  rcases V0.mp hx with hx|hx
  ·exact h.la x hx y (A3 hy)
  ·have p:=ha.sublist (K6 i _)
   rw[<- M3 k (a.drop i)]at p
   exact (u3.mp p).2.2 x hx y hy
 lb:=λx hx y hy=>by
  rcases V0.mp hx with hx|hx
  ·exact h.lb x hx y hy
  ·exact hk x hx y hy
theorem Mg.oneA(h:Mg le a b out i j)(ha:a.Pairwise le)(hi:i < a.length)(hk:∀y∈b.drop j,le a[i] y):Mg le a b (out++[a[i]]) (i+1) j:=by
 have e:(a.drop i).take 1=[a[i]]:=by rw[Z3 hi];rfl
 have:=h.takeA ha 1 (by rw[e];simpa using hk)
 rwa [e]at this
theorem Mg.fin(h:Mg le a b out i j)(ha:a.Pairwise le)(hb:b.Pairwise le)(hx:∀x∈a.drop i,∀y∈b.drop j,le x y):(out++a.drop i++b.drop j).Perm (a++b)/\(out++a.drop i++b.drop j).Pairwise le:=by
 constructor
 ·have e:(a.take i++b.take j++a.drop i++b.drop j).Perm (a.take i++a.drop i++(b.take j++b.drop j)):=by
   simp only[T2]
   refine List.Perm.append_left _ ?_
   rw[<- T2,<- T2]
   exact O6.append_right _
  rw[M3,M3]at e
  exact ((h.perm.append_right _).append_right _).trans e
 ·rw[T2]
  refine u3.mpr ⟨h.srt,u3.mpr ⟨ha.sublist (K6 _ _),hb.sublist (K6 _ _),hx⟩,λx hx y hy=>?_⟩
  rcases V0.mp hy with hy|hy
  ·exact h.la x hx y hy
  ·exact h.lb x hx y hy
theorem Mg.finC(h:Mg le a b out i j)(ha:a.Pairwise le)(hb:b.Pairwise le)(hx:∀x∈b.drop j,∀y∈a.drop i,le x y):(out++b.drop j++a.drop i).Perm (a++b)/\(out++b.drop j++a.drop i).Pairwise le:=by
 obtain⟨h1,h2⟩:=h.comm.fin hb ha hx
 exact ⟨h1.trans O6,h2⟩
end
noncomputable abbrev Dw:=Option (Array Keyed)×Array Keyed×Nat×Nat×Nat×Nat×Nat
noncomputable abbrev vL:=Option (Array Keyed)×Array Keyed×Nat×Nat×Nat×Nat
noncomputable abbrev wL:=Option (Array Keyed)×Array Keyed×Nat×Nat×Nat
section
variable (x y:Array Keyed)
noncomputable def dn(o:Array Keyed)(i j:Nat):Array Keyed:=o++x.extract i x.size++y.extract j y.size
noncomputable def ls(o:Array Keyed)(i j:Nat):Array Keyed:=o++y.extract j y.size++x.extract i x.size
noncomputable def xL(o:Array Keyed)(i j g ac bc:Nat):StateT SortSt Sem (ForInStep Dw):=do
 let z<-elem' x i
 if (i+1+1==x.size)=true then pure (.done (some (ls x y (o.push z) (i+1) j),o.push z,i+1,j,g,ac,bc))
 else if (decide (ac < 7)&&decide (bc < 7))=true then pure (.done (none,o.push z,i+1,j,g,ac,bc))
 else pure (.yield (none,o.push z,i+1,j,g,ac,bc))
noncomputable def yL(o:Array Keyed)(i j g ac bc:Nat):StateT SortSt Sem (ForInStep Dw):=do
 let z<-elem' y j
 if (j+1==y.size)=true then pure (.done (some (dn x y (o.push z) i (j+1)),o.push z,i,j+1,g,ac,bc))
 else do
  let u<-elem' x i
  let some k<-ND true u y (j+1) (y.size - (j+1)) 0|pure (.done (some (dn x y (o.push z) i (j+1)),o.push z,i,j+1,g,ac,bc))
  if k > 0 then
   if (j+1+k==y.size)=true then pure (.done (some (dn x y (o.push z++y.extract (j+1) (j+1+k)) i (j+1+k)),o.push z++y.extract (j+1) (j+1+k),i,j+1+k,g,ac,k))
   else xL x y (o.push z++y.extract (j+1) (j+1+k)) i (j+1+k) g ac k
  else xL x y (o.push z) i (j+1) g ac k
noncomputable def zL(o:Array Keyed)(i j g ac bc:Nat):StateT SortSt Sem (ForInStep Dw):=do
 modify λv=>oK v g
 let z<-elem' y j
 let some k<-ND false z x i (x.size - i) 0|pure (.done (some (dn x y o i j),o,i,j,g,ac,bc))
 if k > 0 then
   if (i+k+1==x.size)=true then pure (.done (some (ls x y (o++x.extract i (i+k)) (i+k) j),o++x.extract i (i+k),i+k,j,g,k,bc))
   else if (i+k==x.size)=true then pure (.done (some (dn x y (o++x.extract i (i+k)) (i+k) j),o++x.extract i (i+k),i+k,j,g,k,bc))
   else yL x y (o++x.extract i (i+k)) (i+k) j g k bc
 else yL x y o i j g k bc
noncomputable def pM(t:Dw):StateT SortSt Sem (ForInStep Dw) :=
 if t.2.2.2.2.1 > 1 then zL x y t.2.1 t.2.2.1 t.2.2.2.1 (t.2.2.2.2.1 - 1) t.2.2.2.2.2.1 t.2.2.2.2.2.2
 else zL x y t.2.1 t.2.2.1 t.2.2.2.1 t.2.2.2.2.1 t.2.2.2.2.2.1 t.2.2.2.2.2.2
noncomputable def qM(g:Nat)(t:vL):StateT SortSt Sem (ForInStep vL):=do
 let z<-elem' y t.2.2.2.1
 let u<-elem' x t.2.2.1
 let some yw<-lt' z u|pure (.done (some (dn x y t.2.1 t.2.2.1 t.2.2.2.1),t.2.1,t.2.2.1,t.2.2.2.1,t.2.2.2.2.1,t.2.2.2.2.2))
 if yw=true then do
   let z<-elem' y t.2.2.2.1
   if (t.2.2.2.1+1==y.size)=true then pure (.done (some (dn x y (t.2.1.push z) t.2.2.1 (t.2.2.2.1+1)),t.2.1.push z,t.2.2.1,t.2.2.2.1+1,0,t.2.2.2.2.2+1))
   else if t.2.2.2.2.2+1 ≥ g then pure (.done (none,t.2.1.push z,t.2.2.1,t.2.2.2.1+1,0,t.2.2.2.2.2+1))
   else pure (.yield (none,t.2.1.push z,t.2.2.1,t.2.2.2.1+1,0,t.2.2.2.2.2+1))
 else do
   let z<-elem' x t.2.2.1
   if (t.2.2.1+1+1==x.size)=true then pure (.done (some (ls x y (t.2.1.push z) (t.2.2.1+1) t.2.2.2.1),t.2.1.push z,t.2.2.1+1,t.2.2.2.1,t.2.2.2.2.1+1,0))
   else if t.2.2.2.2.1+1 ≥ g then pure (.done (none,t.2.1.push z,t.2.2.1+1,t.2.2.2.1,t.2.2.2.2.1+1,0))
   else pure (.yield (none,t.2.1.push z,t.2.2.1+1,t.2.2.2.1,t.2.2.2.2.1+1,0))
noncomputable def AL(t:wL):StateT SortSt Sem (ForInStep wL):=do
 let v<-forIn [:x.size+y.size] ((none,t.2.1,t.2.2.1,t.2.2.2.1,0,0):vL) λ_ v=>qM x y t.2.2.2.2 v
 match v.1 with
 | some r=>pure (.done (some r,v.2.1,v.2.2.1,v.2.2.2.1,t.2.2.2.2))
 | none=>do
  liftM (rule "list.sort.gallop")
  let u<-forIn [:x.size+y.size] ((none,v.2.1,v.2.2.1,v.2.2.2.1,t.2.2.2.2+1,v.2.2.2.2.1,v.2.2.2.2.2):Dw) λ_ u=>pM x y u
  match u.1 with
  | some r=>pure (.done (some r,u.2.1,u.2.2.1,u.2.2.2.1,u.2.2.2.2.1))
  | none=>do
   modify λz=>oK z (u.2.2.2.2.1+1)
   pure (.yield (none,u.2.1,u.2.2.1,u.2.2.2.1,u.2.2.2.2.1+1))
end
theorem Ew(x y:Array Keyed):tL x y=(do
    rule "list.sort.merge-lo"
    let tt:=x.size+y.size
    let dn (o:Array Keyed) (i j:Nat):=o++x.extract i x.size++y.extract j y.size
    let ls (o:Array Keyed) (i j:Nat):=o++y.extract j y.size++x.extract i x.size
    let mut o:Array Keyed:=#[<- elem' y 0]
    let mut i:=0
    let mut j:=1
    if j==y.size then return dn o i j
    if i+1==x.size then return ls o i j
    let mut g:=gallopOf (<- get)
    for _ in [0:tt] do
      let mut ac:=0
      let mut bc:=0
      for _ in [0:tt] do
        let some yw<-lt' (<- elem' y j) (<- elem' x i)|return dn o i j
        if yw then
          o:=o.push (<- elem' y j);j:=j+1;bc:=bc+1;ac:=0
          if j==y.size then return dn o i j
          if bc ≥ g then break
        else
          o:=o.push (<- elem' x i);i:=i+1;ac:=ac+1;bc:=0
          if i+1==x.size then return ls o i j
          if ac ≥ g then break
      rule "list.sort.gallop"
      g:=g+1
      for _ in [0:tt] do
        if g > 1 then g:=g - 1
        modify (oK · g)
        let some k<-ND false (<- elem' y j) x i (x.size - i) 0|return dn o i j
        ac:=k
        if k > 0 then
          o:=o++x.extract i (i+k);i:=i+k
          if i+1==x.size then return ls o i j
          if i==x.size then return dn o i j
        o:=o.push (<- elem' y j);j:=j+1
        if j==y.size then return dn o i j
        let some k<-ND true (<- elem' x i) y j (y.size - j) 0|return dn o i j
        bc:=k
        if k > 0 then
          o:=o++y.extract j (j+k);j:=j+k
          if j==y.size then return dn o i j
        o:=o.push (<- elem' x i);i:=i+1
        if i+1==x.size then return ls o i j
        if ac < 7&&bc < 7 then break
      g:=g+1
      modify (oK · g)
    unsupported "internal:list.sort.merge-bound"):=rfl
theorem lB(x y:Array Keyed):tL x y=(do
    liftM (rule "list.sort.merge-lo")
    let z<-elem' y 0
    if (1==y.size)=true then pure (dn x y #[z] 0 1)
    else if (0+1==x.size)=true then pure (ls x y #[z] 0 1)
    else do
      let s<-get
      let v<-forIn [:x.size+y.size] ((none,#[z],0,1,gallopOf s):wL) λ_ v=>AL x y v
      match v.1 with
      | some r=>pure r
      | none=>unsupported "internal:list.sort.merge-bound"):=by
 rw[Ew]
 dsimp only
 refine congrArg (bind _) (funext λ_=>?_)
 refine congrArg (bind _) (funext λz=>?_)
 refine congr (congrArg _ rfl) ?_
 refine congr (congrArg _ rfl) ?_
 refine congrArg (bind _) (funext λs=>?_)
 refine congr (congrArg bind ?A) (funext λv=>by obtain⟨r,v⟩:=v;cases r<;>rfl)
 refine congrArg _ (funext λ_=>funext λv=>?_)
 unfold AL
 refine congr (congrArg bind rfl) (funext λv=>?_)
 obtain⟨r,v⟩:=v
 cases r with
 | some r=>rfl
 | none =>
  refine congrArg (bind _) (funext λ_=>?_)
  refine congr (congrArg bind ?A2) (funext λv=>by obtain⟨r,v⟩:=v;cases r<;>rfl)
  rfl
section
variable {α:Type}{x y o:Array α}{i j k:Nat}
theorem kY:(x.extract i x.size).toList=x.toList.drop i:=by
 rw[B4,Q2,Y1 (by simp)]
theorem fy:(x.extract i (i+k)).toList=(x.toList.drop i).take k:=by
 rw[B4,Q2,S5]
theorem BX{v:α}(h:v∈x.toList.drop i):∃(n:Nat) (hn:n < x.size),i<=n/\v=x[n]:=by
 obtain⟨n,hn,e⟩:=j4 h
 rw[P1,W0]at hn
 refine ⟨i+n,by omega,by omega,?_⟩
 rw[<- e,M7,U2]
theorem OJ{v:α}(h:v∈(x.toList.drop i).take k):∃(n:Nat) (hn:n < x.size),i<=n/\n < i+k/\v=x[n]:=by
 obtain⟨n,hn,e⟩:=j4 h
 rw[E1,P1,W0]at hn
 refine ⟨i+n,by omega,by omega,by omega,?_⟩
 rw[<- e,N7,M7,U2]
end
theorem Fw(x y o:Array Keyed)(i j:Nat):(dn x y o i j).toList=o.toList++x.toList.drop i++y.toList.drop j:=by
 unfold dn
 rw[G2,G2,kY,kY]
theorem Gw(x y o:Array Keyed)(i j:Nat):(ls x y o i j).toList=o.toList++y.toList.drop j++x.toList.drop i:=by
 unfold ls
 rw[G2,G2,kY,kY]
section
variable {prog:Program}{w:World}{A:Around}{E:Value->Shared->Prop}{s:Shared}{κ:SortKind}{rk:Keyed->Nat}{S:Keyed->Prop}{x y:Array Keyed}
noncomputable abbrev uW(rk:Keyed->Nat):Keyed->Keyed->Prop:=λa b=>rk a<=rk b
structure Hy(rk:Keyed->Nat)(S:Keyed->Prop)(x y:Array Keyed):Prop where
 hx:x.toList.Pairwise (uW rk)
 hy:y.toList.Pairwise (uW rk)
 Sx:∀i (h:i < x.size),S x[i]
 Sy:∀i (h:i < y.size),S y[i]
 x0:0 < x.size
 y0:0 < y.size
 hl:∀i (h:i < y.size),rk y[i]<=rk x[x.size - 1]
 hf:∀i (h:i < x.size),rk y[0]<=rk x[i]
theorem ZX{x:Array Keyed}(h:x.toList.Pairwise (uW rk)){i j:Nat}(hj:j < x.size)(hij:i<=j):rk (x[i]'(by omega))<=rk x[j]:=by
 rcases Nat.lt_or_ge i j with h1|h1
 ·have:=S2.mp h i j (by simpa using (by omega:i < x.size)) (by simpa using hj) h1
  simpa using this
 ·have:i=j:=by omega
  subst this
  exact B0 _
noncomputable def Po(rk:Keyed->Nat)(x y r:Array Keyed):Prop:=r.toList.Perm (x.toList++y.toList)/\r.toList.Pairwise (uW rk)
theorem QU(H:Hy rk S x y){o:Array Keyed}{i j:Nat}(m:Mg (uW rk) x.toList y.toList o.toList i j)(h:y.size<=j\/x.size<=i):Po rk x y (dn x y o i j):=by
 unfold Po
 rw[Fw]
 refine m.fin H.hx H.hy λv hv u hu=>?_
 obtain⟨n,hn,n1,_⟩:=BX hv
 obtain⟨k,hk,k1,_⟩:=BX hu
 omega
theorem EF(H:Hy rk S x y){o:Array Keyed}{i j:Nat}(m:Mg (uW rk) x.toList y.toList o.toList i j)(h:i+1=x.size):Po rk x y (ls x y o i j):=by
 unfold Po
 rw[Gw]
 refine m.finC H.hx H.hy λv hv u hu=>?_
 obtain⟨n,hn,n1,rfl⟩:=BX hv
 obtain⟨k,hk,k1,rfl⟩:=BX hu
 have:k=x.size - 1:=by omega
 subst this
 exact H.hl n hn
theorem VW{α:Type}(o:Array α)(z:α):(o.push z).toList=o.toList++[z]:=Z5
structure J(rk:Keyed->Nat)(x y:Array Keyed)(N:Nat)(o:Array Keyed)(i j:Nat):Prop where
 m:Mg (uW rk) x.toList y.toList o.toList i j
 hi:i+1 < x.size
 hj:j < y.size
 hN:N<=i+j
theorem J.pushX(H:Hy rk S x y){N:Nat}{o:Array Keyed}{i j:Nat}(m:Mg (uW rk) x.toList y.toList o.toList i j)(hi:i < x.size)(h:∀n (hn:n < y.size),j<=n->rk x[i]<=rk y[n]):Mg (uW rk) x.toList y.toList (o.push x[i]).toList (i+1) j:=by
 rw[VW]
 have:=m.oneA H.hx (by simpa using hi) λv hv=>by
  obtain⟨n,hn,n1,rfl⟩:=BX hv
  simpa using h n hn n1
 simpa using this
theorem J.pushY(H:Hy rk S x y){N:Nat}{o:Array Keyed}{i j:Nat}(m:Mg (uW rk) x.toList y.toList o.toList i j)(hj:j < y.size)(h:∀n (hn:n < x.size),i<=n->rk y[j]<=rk x[n]):Mg (uW rk) x.toList y.toList (o.push y[j]).toList i (j+1):=by
 rw[VW]
 have:=m.comm.oneA H.hy (by simpa using hj) λv hv=>by
  obtain⟨n,hn,n1,rfl⟩:=BX hv
  simpa using h n hn n1
 have:=this.comm
 simpa using this
noncomputable def RT(rk:Keyed->Nat)(x y:Array Keyed)(N:Nat)(c:Dw):Prop:=(∃t,c.1=some t/\Po rk x y t)\/(c.1=none/\J rk x y N c.2.1 c.2.2.1 c.2.2.2.1)
noncomputable def Gs(z z':SortSt):Prop:=∃g,z'=oK z g
theorem Gs.refl(z:SortSt):Gs z z:=⟨gallopOf z,rfl⟩
theorem Gs.set{z z':SortSt}(h:Gs z z')(g:Nat):Gs z (oK z' g):=by obtain⟨_,rfl⟩:=h;exact ⟨g,rfl⟩
theorem Gs.kind{z z':SortSt}(h:Gs z z'):kindOf z'=kindOf z:=by obtain⟨_,rfl⟩:=h;rfl
noncomputable def BL(rk:Keyed->Nat)(x y:Array Keyed)(N:Nat)(st:SortSt)(r:ForInStep Dw)(st':SortSt):Prop :=
 Gs st st'/\match r with
  | .done c=>RT rk x y N c
  | .yield c=>c.1=none/\J rk x y N c.2.1 c.2.2.1 c.2.2.2.1
theorem gy(H:Hy rk S x y){N:Nat}{o:Array Keyed}{i j g ac bc:Nat}{st st':SortSt}(hg:Gs st st')(m:Mg (uW rk) x.toList y.toList o.toList i j)(hi:i+1 < x.size)(hj:j < y.size)(hN:N<=i+j+1)
  (h:∀n (hn:n < y.size),j<=n->rk (x[i]'(by omega))<=rk y[n]):wpS (model prog w) A E s (xL x y o i j g ac bc) (BL rk x y N st) st':=by
 unfold xL
 have m':=J.pushX H (N:=N) m (by omega) h
 refine wpS_bind (bX (by omega) ?_)
 by_cases h1:i+1+1=x.size
 ·rw[if_pos (by simpa using h1)]
  exact wpS_pure ⟨hg,.inl ⟨_,rfl,EF H m' h1⟩⟩
 ·rw[if_neg (by simpa using h1)]
  have jj:J rk x y N (o.push (x[i]'(by omega))) (i+1) j:=⟨m',by omega,hj,by omega⟩
  by_cases h2:(decide (ac < 7)&&decide (bc < 7))=true
  ·rw[if_pos h2]
   exact wpS_pure ⟨hg,.inr ⟨rfl,jj⟩⟩
  ·rw[if_neg h2]
   exact wpS_pure ⟨hg,rfl,jj⟩
theorem iy(q:eZ prog w A s κ rk S)(H:Hy rk S x y){N:Nat}{o:Array Keyed}{i j g ac bc:Nat}{st st':SortSt}(hk:kindOf st=κ)(hg:Gs st st')(m:Mg (uW rk) x.toList y.toList o.toList i j)(hi:i+1 < x.size)(hj:j < y.size)(hN:N<=i+j+1)
  (h:∀n (hn:n < x.size),i<=n->rk (y[j]'(by omega))<=rk x[n]):wpS (model prog w) A E s (yL x y o i j g ac bc) (BL rk x y N st) st':=by
 unfold yL
 have m':=J.pushY H (N:=N) m hj h
 refine wpS_bind (bX hj ?_)
 by_cases h1:j+1=y.size
 ·rw[if_pos (by simpa using h1)]
  exact wpS_pure ⟨hg,.inl ⟨_,rfl,QU H m' (.inl (by omega))⟩⟩
 ·rw[if_neg (by simpa using h1)]
  refine wpS_bind (bX (by omega) ?_)
  refine wpS_bind (EZ q (hg.kind.trans hk) (H.Sx _ _) H.Sy (by omega) (λa b hb hab _ _=>ZX H.hy hb hab) (by omega) λk kn k1 k2=>?_)
  dsimp only
  by_cases hk0:k > 0
  ·rw[if_pos hk0]
   have m2:Mg (uW rk) x.toList y.toList (o.push (y[j]'hj)++y.extract (j+1) (j+1+k)).toList i (j+1+k):=by
    rw[G2,fy]
    refine (m'.comm.takeA H.hy k λv hv u hu=>?_).comm
    obtain⟨n,hn,n1,n2,rfl⟩:=OJ hv
    obtain⟨p,hp,p1,rfl⟩:=BX hu
    have:=k1 n hn n1 n2
    rw[if_pos rfl]at this
    have:=ZX H.hx hp p1
    show rk _<=rk _
    omega
   by_cases h2:j+1+k=y.size
   ·rw[if_pos (by simpa using h2)]
    exact wpS_pure ⟨hg,.inl ⟨_,rfl,QU H m2 (.inl (by omega))⟩⟩
   ·rw[if_neg (by simpa using h2)]
    refine gy H hg m2 hi (by omega) (by omega) λn hn n1=>?_
    have:=k2 n hn (by omega) (by omega)
    rw[if_pos rfl]at this
    exact this
  ·rw[if_neg hk0]
   refine gy H hg m' hi (by omega) (by omega) λn hn n1=>?_
   have:=k2 n hn (by omega) (by omega)
   rw[if_pos rfl]at this
   exact this
theorem jy(q:eZ prog w A s κ rk S)(H:Hy rk S x y){N:Nat}{o:Array Keyed}{i j g ac bc:Nat}{st st':SortSt}(hk:kindOf st=κ)(hg:Gs st st')(m:Mg (uW rk) x.toList y.toList o.toList i j)(hi:i+1 < x.size)(hj:j < y.size)(hN:N<=i+j+1) :
  wpS (model prog w) A E s (zL x y o i j g ac bc) (BL rk x y N st) st':=by
 unfold zL
 refine wpS_bind (wpS_modify ?_)
 have hg':=hg.set g
 refine wpS_bind (bX hj ?_)
 refine wpS_bind (EZ q (hg'.kind.trans hk) (H.Sy _ _) H.Sx (by omega) (λa b hb hab _ _=>ZX H.hx hb hab) (by omega) λk kn k1 k2=>?_)
 dsimp only
 by_cases hk0:k > 0
 ·rw[if_pos hk0]
  have m2:Mg (uW rk) x.toList y.toList (o++x.extract i (i+k)).toList (i+k) j:=by
   rw[G2,fy]
   refine m.takeA H.hx k λv hv u hu=>?_
   obtain⟨n,hn,n1,n2,rfl⟩:=OJ hv
   obtain⟨p,hp,p1,rfl⟩:=BX hu
   have:=k1 n hn n1 n2
   rw[if_neg (by decide)]at this
   have:=ZX H.hy hp p1
   show rk _<=rk _
   omega
  by_cases h2:i+k+1=x.size
  ·rw[if_pos (by simpa using h2)]
   exact wpS_pure ⟨hg',.inl ⟨_,rfl,EF H m2 h2⟩⟩
  ·rw[if_neg (by simpa using h2)]
   by_cases h3:i+k=x.size
   ·rw[if_pos (by simpa using h3)]
    exact wpS_pure ⟨hg',.inl ⟨_,rfl,QU H m2 (.inr (by omega))⟩⟩
   ·rw[if_neg (by simpa using h3)]
    refine iy q H hk hg' m2 (by omega) hj (by omega) λn hn n1=>?_
    have:=k2 n hn (by omega) (by omega)
    rw[if_neg (by decide)]at this
    omega
 ·rw[if_neg hk0]
  refine iy q H hk hg' m hi hj (by omega) λn hn n1=>?_
  have:=k2 n hn (by omega) (by omega)
  rw[if_neg (by decide)]at this
  omega
theorem IE(q:eZ prog w A s κ rk S)(H:Hy rk S x y){N:Nat}{c:Dw}{st st':SortSt}(hk:kindOf st=κ)(hg:Gs st st')(hJ:J rk x y N c.2.1 c.2.2.1 c.2.2.2.1) :
  wpS (model prog w) A E s (pM x y c) (BL rk x y (N+1) st) st':=by
 unfold pM
 have:=hJ.hN
 split
 ·exact jy q H hk hg hJ.m hJ.hi hJ.hj (by omega)
 ·exact jy q H hk hg hJ.m hJ.hi hJ.hj (by omega)
theorem JE(q:eZ prog w A s κ rk S)(H:Hy rk S x y){N g:Nat}{c:vL}{st:SortSt}(hk:kindOf st=κ)(hJ:J rk x y N c.2.1 c.2.2.1 c.2.2.2.1) :
  wpS (model prog w) A E s (qM x y g c) (λr st'=>st'=st/\match r with
    | .done c=>(∃t,c.1=some t/\Po rk x y t)\/(c.1=none/\J rk x y (N+1) c.2.1 c.2.2.1 c.2.2.2.1)
    | .yield c=>c.1=none/\J rk x y (N+1) c.2.1 c.2.2.1 c.2.2.2.1) st:=by
 unfold qM
 obtain⟨m,hi,hj,hN⟩:=hJ
 refine wpS_bind (bX hj ?_)
 refine wpS_bind (bX (by omega) ?_)
 refine wpS_bind (w_lt q hk (H.Sy _ _) (H.Sx _ _) ?_)
 dsimp only
 by_cases hlt:rk (y[c.2.2.2.1]'hj) < rk (x[c.2.2.1]'(by omega))
 ·rw[if_pos (by simpa using hlt)]
  have m':=J.pushY H (N:=N) m hj λn hn n1=>by have:=ZX H.hx hn n1;omega
  refine wpS_bind (bX hj ?_)
  by_cases h1:c.2.2.2.1+1=y.size
  ·rw[if_pos (by simpa using h1)]
   exact wpS_pure ⟨rfl,.inl ⟨_,rfl,QU H m' (.inl (by omega))⟩⟩
  ·rw[if_neg (by simpa using h1)]
   have jj:J rk x y (N+1) (c.2.1.push (y[c.2.2.2.1]'hj)) c.2.2.1 (c.2.2.2.1+1):=⟨m',hi,by omega,by omega⟩
   split
   ·exact wpS_pure ⟨rfl,.inr ⟨rfl,jj⟩⟩
   ·exact wpS_pure ⟨rfl,rfl,jj⟩
 ·rw[if_neg (by simpa using hlt)]
  have m':=J.pushX H (N:=N) m (by omega) λn hn n1=>by have:=ZX H.hy hn n1;omega
  refine wpS_bind (bX (by omega) ?_)
  by_cases h1:c.2.2.1+1+1=x.size
  ·rw[if_pos (by simpa using h1)]
   exact wpS_pure ⟨rfl,.inl ⟨_,rfl,EF H m' h1⟩⟩
  ·rw[if_neg (by simpa using h1)]
   have jj:J rk x y (N+1) (c.2.1.push (x[c.2.2.1]'(by omega))) (c.2.2.1+1) c.2.2.2.1:=⟨m',by omega,hj,by omega⟩
   split
   ·exact wpS_pure ⟨rfl,.inr ⟨rfl,jj⟩⟩
   ·exact wpS_pure ⟨rfl,rfl,jj⟩
theorem KE(q:eZ prog w A s κ rk S)(H:Hy rk S x y){N:Nat}{c:wL}{st st':SortSt}(hk:kindOf st=κ)(hg:Gs st st')(hJ:J rk x y N c.2.1 c.2.2.1 c.2.2.2.1) :
  wpS (model prog w) A E s (AL x y c) (λr st'=>Gs st st'/\match r with
    | .done c=>∃t,c.1=some t/\Po rk x y t
    | .yield c=>c.1=none/\J rk x y (N+1) c.2.1 c.2.2.1 c.2.2.2.1) st':=by
 unfold AL
 refine wpS_bind (wpS_mono (wpS_forRange (I:=λn c st''=>st''=st'/\c.1=none/\J rk x y (N+n) c.2.1 c.2.2.1 c.2.2.2.1)
   (Q:=λc st''=>st''=st'/\((∃t,c.1=some t/\Po rk x y t)\/(c.1=none/\J rk x y N c.2.1 c.2.2.1 c.2.2.2.1))) ?step ?fin ⟨rfl,rfl,hJ⟩) ?post)
 case fin =>
  rintro c st'' ⟨rfl,_,h⟩
  have h1:=h.hi
  have h2:=h.hj
  have h3:=h.hN
  omega
 case step =>
  rintro n c st'' _ _ ⟨rfl,_,h⟩
  refine wpS_mono (JE q H (hg.kind.trans hk) h) ?_
  rintro r st3 ⟨rfl,h⟩
  cases r with
  | done c =>
   refine ⟨rfl,h.imp id λh=>⟨h.1,h.2.m,h.2.hi,h.2.hj,?_⟩⟩
   have:=h.2.hN
   omega
  | yield c=>exact ⟨rfl,h.1,h.2⟩
 case post =>
  rintro c st'' ⟨rfl,h⟩
  obtain⟨r,c⟩:=c
  rcases h with⟨t,e,h⟩|⟨e,h⟩
  ·cases e
   exact wpS_pure ⟨hg,_,rfl,h⟩
  ·cases e
   dsimp only
   refine wpS_bind (wpS_lift (wpAny_rule ⟨rfl,?_⟩))
   refine wpS_bind (wpS_mono (wpS_forRange (I:=λn c st''=>Gs st st''/\c.1=none/\J rk x y (N+n) c.2.1 c.2.2.1 c.2.2.2.1)
     (Q:=λc st''=>Gs st st''/\RT rk x y (N+1) c) ?step2 ?fin2 ⟨hg,rfl,h⟩) ?post2)
   case fin2 =>
    rintro c st'' ⟨_,_,h⟩
    have h1:=h.hi
    have h2:=h.hj
    have h3:=h.hN
    omega
   case step2 =>
    rintro n c st'' _ _ ⟨hg2,_,h⟩
    refine wpS_mono (IE q H hk hg2 h) ?_
    rintro r st3 ⟨hg3,h⟩
    cases r with
    | done c =>
     refine ⟨hg3,Or.imp id (λh=>⟨h.1,h.2.m,h.2.hi,h.2.hj,?_⟩) h⟩
     have:=h.2.hN
     omega
    | yield c=>exact ⟨hg3,h.1,h.2⟩
   case post2 =>
    rintro c st'' ⟨hg2,h⟩
    obtain⟨r,c⟩:=c
    rcases h with⟨t,e,h⟩|⟨e,h⟩
    ·cases e
     exact wpS_pure ⟨hg2,_,rfl,h⟩
    ·cases e
     exact wpS_bind (wpS_modify (wpS_pure ⟨hg2.set _,rfl,h⟩))
theorem LE(q:eZ prog w A s κ rk S)(H:Hy rk S x y){st:SortSt}{Q:Array Keyed->SortSt->Prop}(hk:kindOf st=κ)(h:∀r st',Gs st st'->Po rk x y r->Q r st'):wpS (model prog w) A E s (tL x y) Q st:=by
 rw[lB]
 refine wpS_bind (wpS_lift (wpAny_rule ⟨rfl,?_⟩))
 refine wpS_bind (bX H.y0 ?_)
 have m0:Mg (uW rk) x.toList y.toList (#[]:Array Keyed).toList 0 0:=⟨by simp,by simp,by simp,by simp⟩
 have m1:=J.pushY H (N:=0) m0 H.y0 λn hn _=>H.hf n hn
 have e1:(#[]:Array Keyed).push (y[0]'H.y0)=#[y[0]'H.y0]:=rfl
 rw[e1]at m1
 have hy0:=H.y0
 have hx0:=H.x0
 by_cases h1:1=y.size
 ·rw[if_pos (by simpa using h1)]
  exact wpS_pure (h _ _ (Gs.refl _) (QU H m1 (.inl (by omega))))
 ·rw[if_neg (by simpa using h1)]
  by_cases h2:0+1=x.size
  ·rw[if_pos (by simpa using h2)]
   exact wpS_pure (h _ _ (Gs.refl _) (EF H m1 h2))
  ·rw[if_neg (by simpa using h2)]
   refine wpS_bind (wpS_get ?_)
   refine wpS_bind (wpS_mono (wpS_forRange (I:=λn c st''=>Gs st st''/\c.1=none/\J rk x y n c.2.1 c.2.2.1 c.2.2.2.1)
     (Q:=λc st''=>Gs st st''/\∃t,c.1=some t/\Po rk x y t) ?step ?fin ⟨Gs.refl _,rfl,m1,by show 0+1 < x.size;omega,by show 1 < y.size;omega,by omega⟩) ?post)
   case fin =>
    rintro c st'' ⟨_,_,h⟩
    have h1:=h.hi
    have h2:=h.hj
    have h3:=h.hN
    omega
   case step =>
    rintro n c st'' _ _ ⟨hg2,_,h⟩
    refine wpS_mono (KE q H hk hg2 h) ?_
    rintro r st3 ⟨hg3,h⟩
    cases r with
    | done c=>exact ⟨hg3,h⟩
    | yield c=>exact ⟨hg3,h⟩
   case post =>
    rintro c st'' ⟨hg2,t,e,hP⟩
    obtain⟨r,c⟩:=c
    cases e
    exact wpS_pure (h _ _ hg2 hP)
end
noncomputable abbrev Hw:=Option (Array Keyed)×Nat×Nat×Array Keyed×Nat×Nat×Nat
noncomputable abbrev CL:=Option (Array Keyed)×Nat×Nat×Array Keyed×Nat×Nat
noncomputable abbrev DL:=Option (Array Keyed)×Nat×Nat×Array Keyed×Nat
section
variable (x y:Array Keyed)
noncomputable def Gx(o:Array Keyed)(i j:Nat):Array Keyed:=x.extract 0 i++y.extract 0 j++o.reverse
noncomputable def pC(o:Array Keyed)(i j:Nat):Array Keyed:=y.extract 0 j++x.extract 0 i++o.reverse
noncomputable def hi2(i j:Nat)(o:Array Keyed)(g ac bc:Nat):StateT SortSt Sem (ForInStep Hw):=do
 let z<-elem' x (i - 1)
 if (i - 1==0)=true then pure (.done (some (Gx x y (o.push z) (i - 1) j),i - 1,j,o.push z,g,ac,bc))
 else if (decide (ac < 7)&&decide (bc < 7))=true then pure (.done (none,i - 1,j,o.push z,g,ac,bc))
 else pure (.yield (none,i - 1,j,o.push z,g,ac,bc))
noncomputable def hi1(i j:Nat)(o:Array Keyed)(g ac bc:Nat):StateT SortSt Sem (ForInStep Hw):=do
 let z<-elem' y (j - 1)
 if (j - 1==1)=true then pure (.done (some (pC x y (o.push z) i (j - 1)),i,j - 1,o.push z,g,ac,bc))
 else do
  let u<-elem' x (i - 1)
  let some p<-ND true u y 0 (j - 1) (j - 1 - 1)|pure (.done (some (Gx x y (o.push z) i (j - 1)),i,j - 1,o.push z,g,ac,bc))
  if j - 1 - p > 0 then
   if (p==1)=true then pure (.done (some (pC x y (o.push z++(y.extract p (j - 1)).reverse) i p),i,p,o.push z++(y.extract p (j - 1)).reverse,g,ac,j - 1 - p))
   else if (p==0)=true then pure (.done (some (Gx x y (o.push z++(y.extract p (j - 1)).reverse) i p),i,p,o.push z++(y.extract p (j - 1)).reverse,g,ac,j - 1 - p))
   else hi2 x y i p (o.push z++(y.extract p (j - 1)).reverse) g ac (j - 1 - p)
  else hi2 x y i (j - 1) (o.push z) g ac (j - 1 - p)
noncomputable def EL(i j:Nat)(o:Array Keyed)(g ac bc:Nat):StateT SortSt Sem (ForInStep Hw):=do
 modify λv=>oK v g
 let z<-elem' y (j - 1)
 let some p<-ND false z x 0 i (i - 1)|pure (.done (some (Gx x y o i j),i,j,o,g,ac,bc))
 if i - p > 0 then
   if (p==0)=true then pure (.done (some (Gx x y (o++(x.extract p i).reverse) p j),p,j,o++(x.extract p i).reverse,g,i - p,bc))
   else hi1 x y p j (o++(x.extract p i).reverse) g (i - p) bc
 else hi1 x y i j o g (i - p) bc
noncomputable def rM(t:Hw):StateT SortSt Sem (ForInStep Hw) :=
 if t.2.2.2.2.1 > 1 then EL x y t.2.1 t.2.2.1 t.2.2.2.1 (t.2.2.2.2.1 - 1) t.2.2.2.2.2.1 t.2.2.2.2.2.2
 else EL x y t.2.1 t.2.2.1 t.2.2.2.1 t.2.2.2.2.1 t.2.2.2.2.2.1 t.2.2.2.2.2.2
noncomputable def sM(g:Nat)(t:CL):StateT SortSt Sem (ForInStep CL):=do
 let z<-elem' y (t.2.2.1 - 1)
 let u<-elem' x (t.2.1 - 1)
 let some xw<-lt' z u|pure (.done (some (Gx x y t.2.2.2.1 t.2.1 t.2.2.1),t.2.1,t.2.2.1,t.2.2.2.1,t.2.2.2.2.1,t.2.2.2.2.2))
 if xw=true then do
   let z<-elem' x (t.2.1 - 1)
   if (t.2.1 - 1==0)=true then pure (.done (some (Gx x y (t.2.2.2.1.push z) (t.2.1 - 1) t.2.2.1),t.2.1 - 1,t.2.2.1,t.2.2.2.1.push z,t.2.2.2.2.1+1,0))
   else if t.2.2.2.2.1+1 ≥ g then pure (.done (none,t.2.1 - 1,t.2.2.1,t.2.2.2.1.push z,t.2.2.2.2.1+1,0))
   else pure (.yield (none,t.2.1 - 1,t.2.2.1,t.2.2.2.1.push z,t.2.2.2.2.1+1,0))
 else do
   let z<-elem' y (t.2.2.1 - 1)
   if (t.2.2.1 - 1==1)=true then pure (.done (some (pC x y (t.2.2.2.1.push z) t.2.1 (t.2.2.1 - 1)),t.2.1,t.2.2.1 - 1,t.2.2.2.1.push z,0,t.2.2.2.2.2+1))
   else if t.2.2.2.2.2+1 ≥ g then pure (.done (none,t.2.1,t.2.2.1 - 1,t.2.2.2.1.push z,0,t.2.2.2.2.2+1))
   else pure (.yield (none,t.2.1,t.2.2.1 - 1,t.2.2.2.1.push z,0,t.2.2.2.2.2+1))
noncomputable def FL(t:DL):StateT SortSt Sem (ForInStep DL):=do
 let v<-forIn [:x.size+y.size] ((none,t.2.1,t.2.2.1,t.2.2.2.1,0,0):CL) λ_ v=>sM x y t.2.2.2.2 v
 match v.1 with
 | some r=>pure (.done (some r,v.2.1,v.2.2.1,v.2.2.2.1,t.2.2.2.2))
 | none=>do
  liftM (rule "list.sort.gallop")
  let u<-forIn [:x.size+y.size] ((none,v.2.1,v.2.2.1,v.2.2.2.1,t.2.2.2.2+1,v.2.2.2.2.1,v.2.2.2.2.2):Hw) λ_ u=>rM x y u
  match u.1 with
  | some r=>pure (.done (some r,u.2.1,u.2.2.1,u.2.2.2.1,u.2.2.2.2.1))
  | none=>do
   modify λz=>oK z (u.2.2.2.2.1+1)
   pure (.yield (none,u.2.1,u.2.2.1,u.2.2.2.1,u.2.2.2.2.1+1))
end
theorem Iw(x y:Array Keyed):uL x y=(do
    rule "list.sort.merge-hi"
    let tt:=x.size+y.size
    let dn (o:Array Keyed) (i j:Nat):=x.extract 0 i++y.extract 0 j++o.reverse
    let fs (o:Array Keyed) (i j:Nat):=y.extract 0 j++x.extract 0 i++o.reverse
    let mut i:=x.size - 1
    let mut j:=y.size
    let mut o:Array Keyed:=#[<- elem' x i]
    if i==0 then return dn o i j
    if j==1 then return fs o i j
    let mut g:=gallopOf (<- get)
    for _ in [0:tt] do
      let mut ac:=0
      let mut bc:=0
      for _ in [0:tt] do
        let some xw<-lt' (<- elem' y (j - 1)) (<- elem' x (i - 1))|return dn o i j
        if xw then
          i:=i - 1;o:=o.push (<- elem' x i);ac:=ac+1;bc:=0
          if i==0 then return dn o i j
          if ac ≥ g then break
        else
          j:=j - 1;o:=o.push (<- elem' y j);bc:=bc+1;ac:=0
          if j==1 then return fs o i j
          if bc ≥ g then break
      rule "list.sort.gallop"
      g:=g+1
      for _ in [0:tt] do
        if g > 1 then g:=g - 1
        modify (oK · g)
        let some p<-ND false (<- elem' y (j - 1)) x 0 i (i - 1)|return dn o i j
        let k:=i - p
        ac:=k
        if k > 0 then
          o:=o++(x.extract p i).reverse;i:=p
          if i==0 then return dn o i j
        j:=j - 1;o:=o.push (<- elem' y j)
        if j==1 then return fs o i j
        let some p<-ND true (<- elem' x (i - 1)) y 0 j (j - 1)|return dn o i j
        let k:=j - p
        bc:=k
        if k > 0 then
          o:=o++(y.extract p j).reverse;j:=p
          if j==1 then return fs o i j
          if j==0 then return dn o i j
        i:=i - 1;o:=o.push (<- elem' x i)
        if i==0 then return dn o i j
        if ac < 7&&bc < 7 then break
      g:=g+1
      modify (oK · g)
    unsupported "internal:list.sort.merge-bound"):=rfl
theorem mB(x y:Array Keyed):uL x y=(do
    liftM (rule "list.sort.merge-hi")
    let z<-elem' x (x.size - 1)
    if (x.size - 1==0)=true then pure (Gx x y #[z] (x.size - 1) y.size)
    else if (y.size==1)=true then pure (pC x y #[z] (x.size - 1) y.size)
    else do
      let s<-get
      let v<-forIn [:x.size+y.size] ((none,x.size - 1,y.size,#[z],gallopOf s):DL) λ_ v=>FL x y v
      match v.1 with
      | some r=>pure r
      | none=>unsupported "internal:list.sort.merge-bound"):=by
 rw[Iw]
 dsimp only
 refine congrArg (bind _) (funext λ_=>?_)
 refine congrArg (bind _) (funext λz=>?_)
 refine congr (congrArg _ rfl) ?_
 refine congr (congrArg _ rfl) ?_
 refine congrArg (bind _) (funext λs=>?_)
 refine congr (congrArg bind ?A) (funext λv=>by obtain⟨r,v⟩:=v;cases r<;>rfl)
 refine congrArg _ (funext λ_=>funext λv=>?_)
 unfold FL
 refine congr (congrArg bind rfl) (funext λv=>?_)
 obtain⟨r,v⟩:=v
 cases r with
 | some r=>rfl
 | none =>
  refine congrArg (bind _) (funext λ_=>?_)
  refine congr (congrArg bind ?A2) (funext λv=>by obtain⟨r,v⟩:=v;cases r<;>rfl)
  rfl
section
variable {α:Type}{x:Array α}{i j k:Nat}
theorem FZ(hi:i<=x.size):x.toList.reverse.drop (x.size - i)=(x.toList.take i).reverse:=by
 rw[List.drop_reverse,W0,Nat.sub_sub_self hi]
theorem qJ{v:α}(hi:i<=x.size)(h:v∈x.toList.reverse.drop (x.size - i)):∃(n:Nat) (hn:n < x.size),n < i/\v=x[n]:=by
 rw[FZ hi,List.mem_reverse]at h
 obtain⟨n,hn,e⟩:=j4 h
 rw[E1,W0]at hn
 refine ⟨n,by omega,by omega,?_⟩
 rw[<- e,N7,U2]
theorem EV(hk:k<=i)(hi:i<=x.size):(x.extract k i).reverse.toList=(x.toList.reverse.drop (x.size - i)).take (i - k):=by
 rw[g6,B4,Q2,FZ hi,List.take_reverse,E1,W0,W5 hi,Nat.sub_sub_self hk,List.drop_take]
theorem FF:(x.extract 0 i).toList=x.toList.take i:=by
 rw[B4,Q2,F8,Nat.sub_zero]
end
section
variable {prog:Program}{w:World}{A:Around}{E:Value->Shared->Prop}{s:Shared}{κ:SortKind}{rk:Keyed->Nat}{S:Keyed->Prop}{x y:Array Keyed}
noncomputable abbrev SM(rk:Keyed->Nat):Keyed->Keyed->Prop:=λa b=>rk b<=rk a
structure MH(rk:Keyed->Nat)(x y:Array Keyed)(o:Array Keyed)(i j:Nat):Prop where
 m:Mg (SM rk) x.toList.reverse y.toList.reverse o.toList (x.size - i) (y.size - j)
 hi:i<=x.size
 hj:j<=y.size
theorem MH.comm{o:Array Keyed}{i j:Nat}(h:MH rk x y o i j):MH rk y x o j i:=⟨h.m.comm,h.hj,h.hi⟩
theorem MH.chunk(hx:x.toList.Pairwise (uW rk)){o:Array Keyed}{i j p:Nat}(h:MH rk x y o i j)(hp:p<=i)(hk:∀n (hn:n < x.size) k (hk:k < y.size),p<=n->n < i->k < j->rk y[k]<=rk x[n]) :
  MH rk x y (o++(x.extract p i).reverse) p j:=by
 have hi:=h.hi
 refine ⟨?_,by omega,h.hj⟩
 rw[G2,EV hp hi]
 have e:x.size - p=x.size - i+(i - p):=by omega
 rw[e]
 refine h.m.takeA (P4.mpr hx) (i - p) λv hv u hu=>?_
 obtain⟨k,hk1,hk2,rfl⟩:=qJ h.hj hu
 rw[<- EV hp hi,g6,List.mem_reverse,B4,Q2]at hv
 obtain⟨n,hn,n1,n2,rfl⟩:=OJ hv
 exact hk n hn k hk1 n1 (by omega) hk2
theorem MH.push(hx:x.toList.Pairwise (uW rk)){o:Array Keyed}{i j:Nat}(h:MH rk x y o i j)(h0:0 < i)(hk:∀k (hk:k < y.size),k < j->rk y[k]<=rk (x[i - 1]'(by have:=h.hi;omega))) :
  MH rk x y (o.push (x[i - 1]'(by have:=h.hi;omega))) (i - 1) j:=by
 have hi:=h.hi
 have e:o.push (x[i - 1]'(by omega))=o++(x.extract (i - 1) i).reverse:=by
  apply Array.toList_inj.mp
  rw[Z5,G2,EV (by omega) hi,show i - (i - 1)=1 by omega,Z3 (by simp;omega)]
  simp only[N8,List.take_zero,List.getElem_reverse,U2,W0]
  congr 3
  omega
 rw[e]
 refine h.chunk hx (by omega) λn hn k hk1 n1 n2 k2=>?_
 have:n=i - 1:=by omega
 subst this
 exact hk k hk1 k2
theorem GF{a b o r:List Keyed}(h:(o++a++b).Perm (x.toList.reverse++y.toList.reverse)/\(o++a++b).Pairwise (SM rk))(e:r=(o++a++b).reverse):r.Perm (x.toList++y.toList)/\r.Pairwise (uW rk):=by
 subst e
 exact ⟨((O7 _).trans h.1).trans ((O7 _).append (O7 _)),P4.mpr h.2⟩
theorem TY(H:Hy rk S x y){o:Array Keyed}{i j:Nat}(m:MH rk x y o i j)(h:i=0\/j=0):Po rk x y (Gx x y o i j):=by
 refine GF (m.m.finC (P4.mpr H.hx) (P4.mpr H.hy) λv hv u hu=>?_) ?_
 ·obtain⟨n,hn,n1,_⟩:=qJ m.hj hv
  obtain⟨k,hk,k1,_⟩:=qJ m.hi hu
  omega
 ·unfold Gx
  rw[G2,G2,FF,FF,FZ m.hi,FZ m.hj,g6]
  simp
theorem FV(H:Hy rk S x y){o:Array Keyed}{i j:Nat}(m:MH rk x y o i j)(h:j=1):Po rk x y (pC x y o i j):=by
 refine GF (m.m.fin (P4.mpr H.hx) (P4.mpr H.hy) λv hv u hu=>?_) ?_
 ·obtain⟨n,hn,n1,rfl⟩:=qJ m.hi hv
  obtain⟨k,hk,k1,rfl⟩:=qJ m.hj hu
  have:k=0:=by omega
  subst this
  exact H.hf n hn
 ·unfold pC
  rw[G2,G2,FF,FF,FZ m.hi,FZ m.hj,g6]
  simp
structure JH(rk:Keyed->Nat)(x y:Array Keyed)(N:Nat)(i j:Nat)(o:Array Keyed):Prop where
 m:MH rk x y o i j
 hi:1<=i
 hj:2<=j
 hN:N+i+j<=x.size+y.size
noncomputable def RH(rk:Keyed->Nat)(x y:Array Keyed)(N:Nat)(c:Hw):Prop:=(∃t,c.1=some t/\Po rk x y t)\/(c.1=none/\JH rk x y N c.2.1 c.2.2.1 c.2.2.2.1)
noncomputable def GL(rk:Keyed->Nat)(x y:Array Keyed)(N:Nat)(st:SortSt)(r:ForInStep Hw)(st':SortSt):Prop :=
 Gs st st'/\match r with
  | .done c=>RH rk x y N c
  | .yield c=>c.1=none/\JH rk x y N c.2.1 c.2.2.1 c.2.2.2.1
theorem ly(H:Hy rk S x y){N:Nat}{o:Array Keyed}{i j g ac bc:Nat}{st st':SortSt}(hg:Gs st st')(m:MH rk x y o i j)(hi:1<=i)(hj:2<=j)(hN:N+i+j<=x.size+y.size+1)
  (h:∀n (hn:n < y.size),n < j->rk y[n]<=rk (x[i - 1]'(by have:=m.hi;omega))):wpS (model prog w) A E s (hi2 x y i j o g ac bc) (GL rk x y N st) st':=by
 unfold hi2
 have hi':=m.hi
 have m':=m.push H.hx hi h
 refine wpS_bind (bX (by omega) ?_)
 by_cases h1:i - 1=0
 ·rw[if_pos (by simpa using h1)]
  exact wpS_pure ⟨hg,.inl ⟨_,rfl,TY H m' (.inl h1)⟩⟩
 ·rw[if_neg (by simpa using h1)]
  have jj:JH rk x y N (i - 1) j (o.push (x[i - 1]'(by omega))):=⟨m',by omega,hj,by omega⟩
  by_cases h2:(decide (ac < 7)&&decide (bc < 7))=true
  ·rw[if_pos h2]
   exact wpS_pure ⟨hg,.inr ⟨rfl,jj⟩⟩
  ·rw[if_neg h2]
   exact wpS_pure ⟨hg,rfl,jj⟩
theorem my(q:eZ prog w A s κ rk S)(H:Hy rk S x y){N:Nat}{o:Array Keyed}{i j g ac bc:Nat}{st st':SortSt}(hk:kindOf st=κ)(hg:Gs st st')(m:MH rk x y o i j)(hi:1<=i)(hj:2<=j)(hN:N+i+j<=x.size+y.size+1)
  (h:∀n (hn:n < x.size),n < i->rk x[n]<=rk (y[j - 1]'(by have:=m.hj;omega))):wpS (model prog w) A E s (hi1 x y i j o g ac bc) (GL rk x y N st) st':=by
 unfold hi1
 have hi':=m.hi
 have hj':=m.hj
 have m':=(m.comm.push H.hy (by omega) h).comm
 refine wpS_bind (bX (by omega) ?_)
 by_cases h1:j - 1=1
 ·rw[if_pos (by simpa using h1)]
  exact wpS_pure ⟨hg,.inl ⟨_,rfl,FV H m' h1⟩⟩
 ·rw[if_neg (by simpa using h1)]
  refine wpS_bind (bX (by omega) ?_)
  refine wpS_bind (EZ q (hg.kind.trans hk) (H.Sx _ _) H.Sy (by omega) (λa b hb hab _ _=>ZX H.hy hb hab) (by omega) λp pn k1 k2=>?_)
  dsimp only
  have k1':∀n (hn:n < y.size),n < p->rk y[n] < rk (x[i - 1]'(by omega)):=λn hn hp=>by
   have:=k1 n hn (M4 _) (by omega)
   rw[if_pos rfl]at this
   exact this
  by_cases hk0:j - 1 - p > 0
  ·rw[if_pos hk0]
   have m2:=(m'.comm.chunk H.hy (p:=p) pn λn hn k hk1 n1 n2 n3=>by
     have:=k2 n hn (by omega) (by omega)
     rw[if_pos rfl]at this
     have:=ZX H.hx (i:=k) (j:=i - 1) (by omega) (by omega)
     omega).comm
   by_cases h2:p=1
   ·rw[if_pos (by simpa using h2)]
    exact wpS_pure ⟨hg,.inl ⟨_,rfl,FV H m2 h2⟩⟩
   ·rw[if_neg (by simpa using h2)]
    by_cases h3:p=0
    ·rw[if_pos (by simpa using h3)]
     exact wpS_pure ⟨hg,.inl ⟨_,rfl,TY H m2 (.inr h3)⟩⟩
    ·rw[if_neg (by simpa using h3)]
     exact ly H hg m2 hi (by omega) (by omega) λn hn n1=>Y4 (k1' n hn n1)
  ·rw[if_neg hk0]
   exact ly H hg m' hi (by omega) (by omega) λn hn n1=>Y4 (k1' n hn (by omega))
theorem ny(q:eZ prog w A s κ rk S)(H:Hy rk S x y){N:Nat}{o:Array Keyed}{i j g ac bc:Nat}{st st':SortSt}(hk:kindOf st=κ)(hg:Gs st st')(m:MH rk x y o i j)(hi:1<=i)(hj:2<=j)(hN:N+i+j<=x.size+y.size+1) :
  wpS (model prog w) A E s (EL x y i j o g ac bc) (GL rk x y N st) st':=by
 unfold EL
 have hi':=m.hi
 have hj':=m.hj
 refine wpS_bind (wpS_modify ?_)
 have hg':=hg.set g
 refine wpS_bind (bX (by omega) ?_)
 refine wpS_bind (EZ q (hg'.kind.trans hk) (H.Sy _ _) H.Sx (by omega) (λa b hb hab _ _=>ZX H.hx hb hab) (by omega) λp pn k1 k2=>?_)
 dsimp only
 have k1':∀n (hn:n < x.size),n < p->rk x[n]<=rk (y[j - 1]'(by omega)):=λn hn hp=>by
  have:=k1 n hn (M4 _) (by omega)
  rw[if_neg (by decide)]at this
  exact this
 by_cases hk0:i - p > 0
 ·rw[if_pos hk0]
  have m2:=m.chunk H.hx (p:=p) pn λn hn k hk1 n1 n2 n3=>by
   have:=k2 n hn (by omega) (by omega)
   rw[if_neg (by decide)]at this
   have:=ZX H.hy (i:=k) (j:=j - 1) (by omega) (by omega)
   omega
  by_cases h3:p=0
  ·rw[if_pos (by simpa using h3)]
   exact wpS_pure ⟨hg',.inl ⟨_,rfl,TY H m2 (.inl h3)⟩⟩
  ·rw[if_neg (by simpa using h3)]
   exact my q H hk hg' m2 (by omega) hj (by omega) k1'
 ·rw[if_neg hk0]
  exact my q H hk hg' m hi hj (by omega) λn hn n1=>k1' n hn (by omega)
theorem ME(q:eZ prog w A s κ rk S)(H:Hy rk S x y){N:Nat}{c:Hw}{st st':SortSt}(hk:kindOf st=κ)(hg:Gs st st')(hJ:JH rk x y N c.2.1 c.2.2.1 c.2.2.2.1) :
  wpS (model prog w) A E s (rM x y c) (GL rk x y (N+1) st) st':=by
 unfold rM
 have:=hJ.hN
 split
 ·exact ny q H hk hg hJ.m hJ.hi hJ.hj (by omega)
 ·exact ny q H hk hg hJ.m hJ.hi hJ.hj (by omega)
theorem NE(q:eZ prog w A s κ rk S)(H:Hy rk S x y){N g:Nat}{c:CL}{st:SortSt}(hk:kindOf st=κ)(hJ:JH rk x y N c.2.1 c.2.2.1 c.2.2.2.1) :
  wpS (model prog w) A E s (sM x y g c) (λr st'=>st'=st/\match r with
    | .done c=>(∃t,c.1=some t/\Po rk x y t)\/(c.1=none/\JH rk x y (N+1) c.2.1 c.2.2.1 c.2.2.2.1)
    | .yield c=>c.1=none/\JH rk x y (N+1) c.2.1 c.2.2.1 c.2.2.2.1) st:=by
 unfold sM
 obtain⟨m,hi,hj,hN⟩:=hJ
 have hi':=m.hi
 have hj':=m.hj
 refine wpS_bind (bX (by omega) ?_)
 refine wpS_bind (bX (by omega) ?_)
 refine wpS_bind (w_lt q hk (H.Sy _ _) (H.Sx _ _) ?_)
 dsimp only
 by_cases hlt:rk (y[c.2.2.1 - 1]'(by omega)) < rk (x[c.2.1 - 1]'(by omega))
 ·rw[if_pos (by simpa using hlt)]
  have m':=m.push H.hx hi λn hn n1=>by have:=ZX H.hy (i:=n) (j:=c.2.2.1 - 1) (by omega) (by omega);omega
  refine wpS_bind (bX (by omega) ?_)
  by_cases h1:c.2.1 - 1=0
  ·rw[if_pos (by simpa using h1)]
   exact wpS_pure ⟨rfl,.inl ⟨_,rfl,TY H m' (.inl h1)⟩⟩
  ·rw[if_neg (by simpa using h1)]
   have jj:JH rk x y (N+1) (c.2.1 - 1) c.2.2.1 (c.2.2.2.1.push (x[c.2.1 - 1]'(by omega))):=⟨m',by omega,hj,by omega⟩
   split
   ·exact wpS_pure ⟨rfl,.inr ⟨rfl,jj⟩⟩
   ·exact wpS_pure ⟨rfl,rfl,jj⟩
 ·rw[if_neg (by simpa using hlt)]
  have m':=(m.comm.push H.hy (by omega) λn hn n1=>by have:=ZX H.hx (i:=n) (j:=c.2.1 - 1) (by omega) (by omega);omega).comm
  refine wpS_bind (bX (by omega) ?_)
  by_cases h1:c.2.2.1 - 1=1
  ·rw[if_pos (by simpa using h1)]
   exact wpS_pure ⟨rfl,.inl ⟨_,rfl,FV H m' h1⟩⟩
  ·rw[if_neg (by simpa using h1)]
   have jj:JH rk x y (N+1) c.2.1 (c.2.2.1 - 1) (c.2.2.2.1.push (y[c.2.2.1 - 1]'(by omega))):=⟨m',by omega,by omega,by omega⟩
   split
   ·exact wpS_pure ⟨rfl,.inr ⟨rfl,jj⟩⟩
   ·exact wpS_pure ⟨rfl,rfl,jj⟩
theorem JH.false{N i j:Nat}{o:Array Keyed}(h:JH rk x y N i j o)(hN:x.size+y.size<=N):False:=by
 have h1:=h.hi
 have h2:=h.hj
 have h3:=h.hN
 omega
theorem OE(q:eZ prog w A s κ rk S)(H:Hy rk S x y){N:Nat}{c:DL}{st st':SortSt}(hk:kindOf st=κ)(hg:Gs st st')(hJ:JH rk x y N c.2.1 c.2.2.1 c.2.2.2.1) :
  wpS (model prog w) A E s (FL x y c) (λr st'=>Gs st st'/\match r with
    | .done c=>∃t,c.1=some t/\Po rk x y t
    | .yield c=>c.1=none/\JH rk x y (N+1) c.2.1 c.2.2.1 c.2.2.2.1) st':=by
 unfold FL
 refine wpS_bind (wpS_mono (wpS_forRange (I:=λn c st''=>st''=st'/\c.1=none/\JH rk x y (N+n) c.2.1 c.2.2.1 c.2.2.2.1)
   (Q:=λc st''=>st''=st'/\((∃t,c.1=some t/\Po rk x y t)\/(c.1=none/\JH rk x y N c.2.1 c.2.2.1 c.2.2.2.1))) ?step ?fin ⟨rfl,rfl,hJ⟩) ?post)
 case fin =>
  rintro c st'' ⟨rfl,_,h⟩
  exact (h.false (by omega)).elim
 case step =>
  rintro n c st'' _ _ ⟨rfl,_,h⟩
  refine wpS_mono (NE q H (hg.kind.trans hk) h) ?_
  rintro r st3 ⟨rfl,h⟩
  cases r with
  | done c =>
   refine ⟨rfl,h.imp id λh=>⟨h.1,h.2.m,h.2.hi,h.2.hj,?_⟩⟩
   have:=h.2.hN
   omega
  | yield c=>exact ⟨rfl,h.1,h.2⟩
 case post =>
  rintro c st'' ⟨rfl,h⟩
  obtain⟨r,c⟩:=c
  rcases h with⟨t,e,h⟩|⟨e,h⟩
  ·cases e
   exact wpS_pure ⟨hg,_,rfl,h⟩
  ·cases e
   dsimp only
   refine wpS_bind (wpS_lift (wpAny_rule ⟨rfl,?_⟩))
   refine wpS_bind (wpS_mono (wpS_forRange (I:=λn c st''=>Gs st st''/\c.1=none/\JH rk x y (N+n) c.2.1 c.2.2.1 c.2.2.2.1)
     (Q:=λc st''=>Gs st st''/\RH rk x y (N+1) c) ?step2 ?fin2 ⟨hg,rfl,h⟩) ?post2)
   case fin2 =>
    rintro c st'' ⟨_,_,h⟩
    exact (h.false (by omega)).elim
   case step2 =>
    rintro n c st'' _ _ ⟨hg2,_,h⟩
    refine wpS_mono (ME q H hk hg2 h) ?_
    rintro r st3 ⟨hg3,h⟩
    cases r with
    | done c =>
     refine ⟨hg3,Or.imp id (λh=>⟨h.1,h.2.m,h.2.hi,h.2.hj,?_⟩) h⟩
     have:=h.2.hN
     omega
    | yield c=>exact ⟨hg3,h.1,h.2⟩
   case post2 =>
    rintro c st'' ⟨hg2,h⟩
    obtain⟨r,c⟩:=c
    rcases h with⟨t,e,h⟩|⟨e,h⟩
    ·cases e
     exact wpS_pure ⟨hg2,_,rfl,h⟩
    ·cases e
     exact wpS_bind (wpS_modify (wpS_pure ⟨hg2.set _,rfl,h⟩))
theorem QE(q:eZ prog w A s κ rk S)(H:Hy rk S x y){st:SortSt}{Q:Array Keyed->SortSt->Prop}(hk:kindOf st=κ)(h:∀r st',Gs st st'->Po rk x y r->Q r st'):wpS (model prog w) A E s (uL x y) Q st:=by
 rw[mB]
 have hy0:=H.y0
 have hx0:=H.x0
 refine wpS_bind (wpS_lift (wpAny_rule ⟨rfl,?_⟩))
 refine wpS_bind (bX (by omega) ?_)
 have m0:MH rk x y #[] x.size y.size:=⟨⟨by simp,by simp,by simp,by simp⟩,B0 _,B0 _⟩
 have m1:=m0.push H.hx hx0 λn hn _=>H.hl n hn
 have e1:(#[]:Array Keyed).push (x[x.size - 1]'(by omega))=#[x[x.size - 1]'(by omega)]:=rfl
 rw[e1]at m1
 by_cases h1:x.size - 1=0
 ·rw[if_pos (by simpa using h1)]
  exact wpS_pure (h _ _ (Gs.refl _) (TY H m1 (.inl h1)))
 ·rw[if_neg (by simpa using h1)]
  by_cases h2:y.size=1
  ·rw[if_pos (by simpa using h2)]
   exact wpS_pure (h _ _ (Gs.refl _) (FV H m1 h2))
  ·rw[if_neg (by simpa using h2)]
   refine wpS_bind (wpS_get ?_)
   refine wpS_bind (wpS_mono (wpS_forRange (I:=λn c st''=>Gs st st''/\c.1=none/\JH rk x y n c.2.1 c.2.2.1 c.2.2.2.1)
     (Q:=λc st''=>Gs st st''/\∃t,c.1=some t/\Po rk x y t) ?step ?fin ⟨Gs.refl _,rfl,m1,by show 1<=x.size - 1;omega,by show 2<=y.size;omega,by show 0+(x.size - 1)+y.size<=_;omega⟩) ?post)
   case fin =>
    rintro c st'' ⟨_,_,h⟩
    exact (h.false (by omega)).elim
   case step =>
    rintro n c st'' _ _ ⟨hg2,_,h⟩
    refine wpS_mono (OE q H hk hg2 h) ?_
    rintro r st3 ⟨hg3,h⟩
    cases r with
    | done c=>exact ⟨hg3,h⟩
    | yield c=>exact ⟨hg3,h⟩
   case post =>
    rintro c st'' ⟨hg2,t,e,hP⟩
    obtain⟨r,c⟩:=c
    cases e
    exact wpS_pure (h _ _ hg2 hP)
end
noncomputable def KR(rk:Keyed->Nat)(xs:Array Keyed)(i:Nat):Nat:=match xs[i]? with
 | some p=>rk p
 | none=>0
theorem KR_at{rk:Keyed->Nat}{xs:Array Keyed}{i:Nat}(h:i < xs.size):KR rk xs i=rk xs[i]:=by
 unfold KR;rw[getElem?_pos xs i h]
theorem uX{rk:Keyed->Nat}{xs ys:Array Keyed}{i j:Nat}(h:xs[i]?=ys[j]?):KR rk xs i=KR rk ys j:=by unfold KR;rw[h]
theorem GK{rk:Keyed->Nat}{xs:Array Keyed}{i j:Nat}(hj:j<=xs.size)(k:Nat) :
  KR rk (mirror xs i j ((j - i) / 2)) k=if i<=k/\k < j then KR rk xs (i+j - 1 - k) else KR rk xs k:=by
 have e:=getElem?_mirror_all (i:=i) hj k
 split
 ·rename_i h1;rw[if_pos h1]at e;exact uX e
 ·rename_i h1;rw[if_neg h1]at e;exact uX e
theorem XW{rk:Keyed->Nat}{xs:Array Keyed}{c d:Nat}(hs:c < xs.size)(hd:d<=c)(k:Nat) :
  KR rk (bubble xs c d) k=if k=c - d then KR rk xs c else if c - d < k/\k<=c then KR rk xs (k - 1) else KR rk xs k:=by
 have e:=getElem?_bubble hs d hd k
 split
 ·rename_i h1;rw[if_pos h1]at e;exact uX e
 ·rename_i h1
  rw[if_neg h1]at e
  split
  ·rename_i h2;rw[if_pos h2]at e;exact uX e
  ·rename_i h2;rw[if_neg h2]at e;exact uX e
noncomputable def Sg(rk:Keyed->Nat)(xs:Array Keyed)(lo n:Nat):Prop:=∀i j,lo<=i->i<=j->j < lo+n->KR rk xs i<=KR rk xs j
noncomputable def Dg(rk:Keyed->Nat)(xs:Array Keyed)(lo n:Nat):Prop:=∀i j,lo<=i->i<=j->j < lo+n->KR rk xs j<=KR rk xs i
structure Bs(κ:SortKind)(st:SortSt)(lo n:Nat)(st':SortSt):Prop where
 perm:(arrOf st').Perm (arrOf st)
 kind:kindOf st'=κ
 failed:failedOf st'=none
 pend:pendingOf st'=pendingOf st
 keep:∀i,i < lo\/lo+n<=i->(arrOf st')[i]?=(arrOf st)[i]?
theorem Bs.size{κ:SortKind}{st st':SortSt}{lo n:Nat}(h:Bs κ st lo n st'):(arrOf st').size=(arrOf st).size:=h.perm.size_eq
theorem Bs.mir{κ:SortKind}{st st':SortSt}{lo n i j:Nat}(h:Bs κ st lo n st')(hj:j<=(arrOf st).size)(h1:lo<=i)(h2:j<=lo+n):Bs κ st lo n (setArr st' (mirror (arrOf st') i j ((j - i) / 2))) :=
 ⟨(mirror_perm _ _ _ _).trans h.perm,h.kind,h.failed,h.pend,λk hk=>by
   show (mirror (arrOf st') i j ((j - i) / 2))[k]?=_
   rw[getElem?_mirror_all (by rw[h.size];exact hj),if_neg (by omega)]
   exact h.keep k hk⟩
section
variable {prog:Program}{w:World}{A:Around}{E:Value->Shared->Prop}{s:Shared}{κ:SortKind}{rk:Keyed->Nat}{S:Keyed->Prop}{st:SortSt}
noncomputable abbrev AllS(S:Keyed->Prop)(xs:Array Keyed):Prop:=∀p,p∈xs.toList->S p
theorem Bs.inS{st':SortSt}{lo n:Nat}(hS:AllS S (arrOf st))(h:Bs κ st lo n st'){i:Nat}(hi:i < (arrOf st').size):S (arrOf st')[i] :=
 hS _ ((u5.mp h.perm).mem_iff.mp (by simp))
theorem UY(q:eZ prog w A s κ rk S){st':SortSt}{lo n i j:Nat}{Q:Option Bool->SortSt->Prop}(hS:AllS S (arrOf st))(hB:Bs κ st lo n st')(hi:i < (arrOf st).size)(hj:j < (arrOf st).size)
  (h:Q (some (decide (KR rk (arrOf st') i < KR rk (arrOf st') j))) st'):wpS (model prog w) A E s (ltAt' i j) Q st':=by
 have hi':i < (arrOf st').size:=by rw[hB.size];exact hi
 have hj':j < (arrOf st').size:=by rw[hB.size];exact hj
 rw[ltAt'_eq]
 refine wpS_bind (wpS_get ?_)
 refine wpS_bind (bX hi' (wpS_bind (bX hj' ?_)))
 refine w_lt q hB.kind (hB.inS hS _) (hB.inS hS _) ?_
 rw[KR_at hi',KR_at hj']at h
 exact h
noncomputable def OD(lo a nrem:Nat):StateT SortSt Sem AscSt :=
 forIn [a:nrem] ((none,a):AscSt) λ_ z=>do
  let some sm<-ltAt' (lo+z.2) (lo+z.2 - 1)|pure (.done (some none,z.2))
  if sm=true then pure (.done (none,z.2)) else pure (.yield (none,z.2+1))
noncomputable def qC(lo n nrem:Nat):StateT SortSt Sem (Option Nat):=do
 reverseSlice' lo (lo+n)
 let z<-OD lo n nrem
 match z.1 with
 | some r=>pure r
 | none=>pure (some z.2)
noncomputable def HF(lo n nrem:Nat):StateT SortSt Sem DescSt :=
 forIn [n:nrem] ((none,n,0):DescSt) λ_ z=>do
  let some sm<-ltAt' (lo+z.2.1) (lo+z.2.1 - 1)|pure (.done (some none,z.2.1,z.2.2))
  if sm=true then
   if z.2.2 > 0 then do
    reverseSlice' (lo+z.2.1 - (z.2.2+1)) (lo+z.2.1)
    pure (.yield (none,z.2.1+1,0))
   else pure (.yield (none,z.2.1+1,0))
  else do
   let some la<-ltAt' (lo+z.2.1 - 1) (lo+z.2.1)|pure (.done (some none,z.2.1,z.2.2))
   if la=true then pure (.done (none,z.2.1,z.2.2)) else pure (.yield (none,z.2.1+1,z.2.2+1))
noncomputable def RE(lo n nrem:Nat):StateT SortSt Sem (Option Nat):=do
 liftM (rule "list.sort.descending-run")
 let z<-HF lo (n+1) nrem
 match z.1 with
 | some r=>pure r
 | none =>
  if z.2.2 > 0 then do
   reverseSlice' (lo+z.2.1 - (z.2.2+1)) (lo+z.2.1)
   qC lo z.2.1 nrem
  else qC lo z.2.1 nrem
theorem nB(lo nrem:Nat):countRun' lo nrem=(do
    let z<-OD lo 1 nrem
    match z.1 with
    | some r=>pure r
    | none =>
      if (z.2==nrem)=true then pure (some z.2)
      else if z.2 > 1 then do
        let some ro<-ltAt' lo (lo+z.2 - 1)|pure none
        if ro=true then pure (some z.2) else do
          reverseSlice' lo (lo+z.2)
          RE lo z.2 nrem
      else RE lo z.2 nrem):=by
 have te:∀m,(do
     reverseSlice' lo (lo+m)
     let z<-OD lo m nrem
     match z.1 with
     | some r=>pure r
     | none=>pure (some z.2))=qC lo m nrem:=λm=>rfl
 rw[countRun'_eq]
 unfold RE qC HF OD
 refine congr (congrArg bind rfl) (funext λz=>?_)
 obtain⟨r,n⟩:=z
 cases r with
 | some r=>rfl
 | none =>
  dsimp only
  have tl:∀z:AscSt,(match z.1 with|some r=>pure r|none=>pure (some z.2):StateT SortSt Sem (Option Nat))=match z.1 with|some r=>pure r|none=>pure (some z.2):=λz=>rfl
  split
  ·rfl
  ·split
   ·congr 1
    funext x
    cases x with
    | none=>rfl
    | some ro =>
     dsimp only
     split
     ·rfl
     ·congr 1
      funext _
      congr 1
      funext _
      congr 1
      funext z
      obtain⟨r,m,q⟩:=z
      cases r with
      | some r=>rfl
      | none =>
       dsimp only
       split
       ·congr 1;funext _;congr 1;funext _;congr 1;funext z;obtain⟨r,k⟩:=z;cases r<;>rfl
       ·congr 1;funext _;congr 1;funext z;obtain⟨r,k⟩:=z;cases r<;>rfl
   ·congr 1
    funext _
    congr 1
    funext z
    obtain⟨r,m,q⟩:=z
    cases r with
    | some r=>rfl
    | none =>
     dsimp only
     split
     ·congr 1;funext _;congr 1;funext _;congr 1;funext z;obtain⟨r,k⟩:=z;cases r<;>rfl
     ·congr 1;funext _;congr 1;funext z;obtain⟨r,k⟩:=z;cases r<;>rfl
theorem IF{i j:Nat}{st':SortSt}{Q:Unit->SortSt->Prop}(h:Q () (setArr st' (mirror (arrOf st') i j ((j - i) / 2)))):wpS (model prog w) A E s (reverseSlice' i j) Q st':=by
 rw[reverseSlice'_eq]
 exact wpS_modify h
theorem oy(q:eZ prog w A s κ rk S){st':SortSt}{lo N a nrem:Nat}{Q:AscSt->SortSt->Prop}(hS:AllS S (arrOf st))(hn:lo+nrem<=(arrOf st).size)(ha:1<=a)(han:a<=nrem)(hB:Bs κ st lo N st')(hs:Sg rk (arrOf st') lo a)
  (h:∀n,a<=n->n<=nrem->Sg rk (arrOf st') lo n->(n=nrem\/KR rk (arrOf st') (lo+n) < KR rk (arrOf st') (lo+n - 1))->Q (none,n) st'):wpS (model prog w) A E s (OD lo a nrem) Q st':=by
 unfold OD
 refine wpS_forRange (I:=λx c z=>z=st'/\c=(none,x)/\Sg rk (arrOf st') lo x) ?step ?fin ⟨rfl,rfl,hs⟩
 case fin =>
  rintro c z ⟨rfl,rfl,h1⟩
  rw[show max a nrem=nrem by omega]at h1 ⊢
  exact h nrem han (B0 _) h1 (.inl rfl)
 case step =>
  rintro x c z hax hxn ⟨rfl,rfl,h1⟩
  dsimp only
  refine wpS_bind (UY q hS hB (by omega) (by omega) ?_)
  dsimp only
  by_cases hl:KR rk (arrOf z) (lo+x) < KR rk (arrOf z) (lo+x - 1)
  ·rw[if_pos (by simpa using hl)]
   exact wpS_pure (h x hax (by omega) h1 (.inr hl))
  ·rw[if_neg (by simpa using hl)]
   refine wpS_pure ⟨rfl,rfl,λi j hi hij hj=>?_⟩
   by_cases hjx:j < lo+x
   ·exact h1 i j hi hij hjx
   ·have:j=lo+x:=by omega
    subst this
    by_cases hi':i=lo+x
    ·subst hi';exact B0 _
    ·have:=h1 i (lo+x - 1) hi (by omega) (by omega)
     omega
theorem SE(q:eZ prog w A s κ rk S){st':SortSt}{lo n nrem:Nat}{Q:Option Nat->SortSt->Prop}(hS:AllS S (arrOf st))(hn:lo+nrem<=(arrOf st).size)(h1:1<=n)(hnn:n<=nrem)(hB:Bs κ st lo nrem st')(hs:Dg rk (arrOf st') lo n)
  (h:∀m z,Bs κ st lo nrem z->1<=m->m<=nrem->Sg rk (arrOf z) lo m->Q (some m) z):wpS (model prog w) A E s (qC lo n nrem) Q st':=by
 unfold qC
 refine wpS_bind (IF ?_)
 have hz:lo+n<=(arrOf st').size:=by rw[hB.size];omega
 have hB':=hB.mir (i:=lo) (j:=lo+n) (by omega) (B0 _) (by omega)
 refine wpS_bind (oy q hS hn h1 hnn hB' (λi j hi hij hj=>?_) λm m1 m2 hm _=>wpS_pure (h m _ hB' (by omega) m2 hm))
 show KR rk (mirror _ _ _ _) i<=KR rk (mirror _ _ _ _) j
 rw[GK hz,GK hz,if_pos (by omega),if_pos (by omega)]
 exact hs _ _ (by omega) (by omega) (by omega)
theorem rJ{xs:Array Keyed}{i j:Nat}(hj:j<=xs.size)(he:∀k,i<=k->k < j->KR rk xs k=KR rk xs (j - 1))(k:Nat):KR rk (mirror xs i j ((j - i) / 2)) k=KR rk xs k:=by
 rw[GK hj]
 split
 ·rw[he _ (by omega) (by omega),he k (by omega) (by omega)]
 ·rfl
theorem oB(q:eZ prog w A s κ rk S){st':SortSt}{lo n nrem:Nat}{Q:DescSt->SortSt->Prop}(hS:AllS S (arrOf st))(hn:lo+nrem<=(arrOf st).size)(h1:1<=n)(hnn:n<=nrem)(hB:Bs κ st lo nrem st')(hs:Dg rk (arrOf st') lo n)
  (h:∀m e z,Bs κ st lo nrem z->n<=m->m<=nrem->Dg rk (arrOf z) lo m->e+1<=m->(∀i,lo+m - (e+1)<=i->i < lo+m->KR rk (arrOf z) i=KR rk (arrOf z) (lo+m - 1))->Q (none,m,e) z) :
  wpS (model prog w) A E s (HF lo n nrem) Q st':=by
 unfold HF
 refine wpS_forRange (I:=λx c z=>∃e,c=(none,x,e)/\Bs κ st lo nrem z/\Dg rk (arrOf z) lo x/\e+1<=x/\∀i,lo+x - (e+1)<=i->i < lo+x->KR rk (arrOf z) i=KR rk (arrOf z) (lo+x - 1)) ?step ?fin
  ⟨0,rfl,hB,hs,by omega,λi i1 i2=>by congr 1;omega⟩
 case fin =>
  rintro c z ⟨e,rfl,b,d,e1,e2⟩
  rw[show max n nrem=nrem by omega]at d e1 e2 ⊢
  exact h nrem e z b hnn (B0 _) d e1 e2
 case step =>
  rintro x c z hax hxn ⟨e,rfl,b,d,e1,e2⟩
  dsimp only
  have hz:lo+x<=(arrOf z).size:=by rw[b.size];omega
  refine wpS_bind (UY q hS b (by omega) (by omega) ?_)
  dsimp only
  by_cases hl:KR rk (arrOf z) (lo+x) < KR rk (arrOf z) (lo+x - 1)
  ·rw[if_pos (by simpa using hl)]
   have st1:∀xs:Array Keyed,(∀k,KR rk xs k=KR rk (arrOf z) k)->Dg rk xs lo (x+1):=λxs hk i j hi hij hj=>by
    rw[hk,hk]
    by_cases hjx:j < lo+x
    ·exact d i j hi hij hjx
    ·have:j=lo+x:=by omega
     subst this
     by_cases hi':i=lo+x
     ·subst hi';exact B0 _
     ·have:=d i (lo+x - 1) hi (by omega) (by omega)
      omega
   by_cases he:e > 0
   ·rw[if_pos he]
    exact wpS_bind (IF (wpS_pure ⟨0,rfl,b.mir (by omega) (by omega) (by omega),st1 _ (rJ hz e2),by omega,λi i1 i2=>by congr 1;omega⟩))
   ·rw[if_neg he]
    exact wpS_pure ⟨0,rfl,b,st1 _ (λ_=>rfl),by omega,λi i1 i2=>by congr 1;omega⟩
  ·rw[if_neg (by simpa using hl)]
   refine wpS_bind (UY q hS b (by omega) (by omega) ?_)
   dsimp only
   by_cases hg:KR rk (arrOf z) (lo+x - 1) < KR rk (arrOf z) (lo+x)
   ·rw[if_pos (by simpa using hg)]
    exact wpS_pure (h x e z b hax (by omega) d e1 e2)
   ·rw[if_neg (by simpa using hg)]
    refine wpS_pure ⟨e+1,rfl,b,λi j hi hij hj=>?_,by omega,λi i1 i2=>?_⟩
    ·by_cases hjx:j < lo+x
     ·exact d i j hi hij hjx
     ·have:j=lo+x:=by omega
      subst this
      by_cases hi':i=lo+x
      ·subst hi';exact B0 _
      ·have:=d i (lo+x - 1) hi (by omega) (by omega)
       omega
    ·rw[show lo+(x+1) - 1=lo+x by omega]
     by_cases hix:i=lo+x
     ·subst hix;rfl
     ·have:=e2 i (by omega) (by omega)
      omega
theorem UE(q:eZ prog w A s κ rk S){st':SortSt}{lo n nrem:Nat}{Q:Option Nat->SortSt->Prop}(hS:AllS S (arrOf st))(hn:lo+nrem<=(arrOf st).size)(hnn:n+1<=nrem)(hB:Bs κ st lo nrem st')(hs:Dg rk (arrOf st') lo (n+1))
  (h:∀m z,Bs κ st lo nrem z->1<=m->m<=nrem->Sg rk (arrOf z) lo m->Q (some m) z):wpS (model prog w) A E s (RE lo n nrem) Q st':=by
 unfold RE
 refine wpS_bind (wpS_lift (wpAny_rule ⟨rfl,?_⟩))
 refine wpS_bind (oB q hS hn (by omega) hnn hB hs λm e z b m1 m2 d e1 e2=>?_)
 dsimp only
 have hz:lo+m<=(arrOf z).size:=by rw[b.size];omega
 by_cases he:e > 0
 ·rw[if_pos he]
  refine wpS_bind (IF (SE q hS hn (by omega) m2 (b.mir (by omega) (by omega) (by omega)) (λi j hi hij hj=>?_) h))
  show KR rk (mirror _ _ _ _) j<=KR rk (mirror _ _ _ _) i
  rw[rJ hz e2,rJ hz e2]
  exact d i j hi hij hj
 ·rw[if_neg he]
  exact SE q hS hn (by omega) m2 b d h
theorem tM(q:eZ prog w A s κ rk S){lo nrem:Nat}{Q:Option Nat->SortSt->Prop}(hS:AllS S (arrOf st))(hn:lo+nrem<=(arrOf st).size)(h1:1<=nrem)(hB:Bs κ st lo nrem st)
  (h:∀m z,Bs κ st lo nrem z->1<=m->m<=nrem->Sg rk (arrOf z) lo m->Q (some m) z):wpS (model prog w) A E s (countRun' lo nrem) Q st:=by
 rw[nB]
 refine wpS_bind (oy q hS hn (B0 1) h1 hB (λi j hi hij hj=>by have:i=j:=(by omega);subst this;exact B0 _) λn n1 n2 sn hor=>?_)
 dsimp only
 by_cases hnn:n=nrem
 ·rw[if_pos (by simpa using hnn)]
  exact wpS_pure (h n st hB n1 n2 sn)
 ·rw[if_neg (by simpa using hnn)]
  have hlt:=hor.resolve_left hnn
  by_cases hgt:n > 1
  ·rw[if_pos hgt]
   refine wpS_bind (UY q hS hB (by omega) (by omega) ?_)
   dsimp only
   by_cases hr:KR rk (arrOf st) lo < KR rk (arrOf st) (lo+n - 1)
   ·rw[if_pos (by simpa using hr)]
    exact wpS_pure (h n st hB n1 n2 sn)
   ·rw[if_neg (by simpa using hr)]
    have hz:lo+n<=(arrOf st).size:=by omega
    have all:∀k,lo<=k->k < lo+n->KR rk (arrOf st) k=KR rk (arrOf st) (lo+n - 1):=λk k1 k2=>by
     have a1:=sn lo k (by omega) k1 k2
     have a2:=sn k (lo+n - 1) k1 (by omega) (by omega)
     omega
    refine wpS_bind (IF (UE q hS hn (by omega) (hB.mir (by omega) (by omega) (by omega)) (λi j hi hij hj=>?_) h))
    show KR rk (mirror _ _ _ _) j<=KR rk (mirror _ _ _ _) i
    rw[rJ hz all,rJ hz all]
    by_cases hjn:j < lo+n
    ·have:=all i hi (by omega)
     have:=all j (by omega) hjn
     omega
    ·have:j=lo+n:=by omega
     subst this
     by_cases hi':i=lo+n
     ·subst hi';exact B0 _
     ·have:=all i hi (by omega)
      omega
  ·rw[if_neg hgt]
   have:n=1:=by omega
   subst this
   refine UE q hS hn (by omega) hB (λi j hi hij hj=>?_) h
   by_cases hi':i=j
   ·subst hi';exact B0 _
   ·have e1:i=lo:=by omega
    have e2:j=lo+1:=by omega
    subst e1;subst e2
    exact Y4 hlt
theorem pB(q:eZ prog w A s κ rk S){st':SortSt}{lo N n ok:Nat}{Q:Bool->SortSt->Prop}(hS:AllS S (arrOf st))(hn:lo+n<=(arrOf st).size)(hnN:n<=N)(hok:ok<=n)(hB:Bs κ st lo N st')(hs:Sg rk (arrOf st') lo ok)
  (h:∀z,Bs κ st lo N z->Sg rk (arrOf z) lo n->Q true z):wpS (model prog w) A E s (binarySort' lo n ok) Q st':=by
 rw[binarySort'_eq]
 refine wpS_bind (wpS_mono (wpS_forRange (I:=λk c z=>c=(none,())/\Bs κ st lo N z/\Sg rk (arrOf z) lo (min k n)) (Q:=λc z=>c=(none,())/\Bs κ st lo N z/\Sg rk (arrOf z) lo n) ?step ?fin ?init) ?post)
 case post =>
  rintro c z ⟨rfl,b,hs'⟩
  exact wpS_pure (h z b hs')
 case init =>
  refine ⟨rfl,hB,λi j hi hij hj=>?_⟩
  by_cases h1:ok=0
  ·have:i=j:=by omega
   subst this;exact B0 _
  ·exact hs i j hi hij (by omega)
 case fin =>
  rintro c z ⟨hc,b,hs'⟩
  refine ⟨hc,b,?_⟩
  rwa [show min (max (max ok 1) n) n=n by omega]at hs'
 case step =>
  rintro k c z hak hkn ⟨rfl,b,hs'⟩
  rw[show min k n=k by omega]at hs'
  refine wpS_bind (wpS_mono (wpS_forRange (I:=λx c z'=>z'=z/\∃l r,c=(none,l,r)/\l<=r/\r<=k/\r - l<=k - x/\(∀i,i < l->KR rk (arrOf z) (lo+i)<=KR rk (arrOf z) (lo+k))/\(∀i,r<=i->i < k->KR rk (arrOf z) (lo+k) < KR rk (arrOf z) (lo+i)))
    (Q:=λc z'=>z'=z/\∃l r,c=(none,l,r)/\l<=k/\(∀i,i < l->KR rk (arrOf z) (lo+i)<=KR rk (arrOf z) (lo+k))/\(∀i,l<=i->i < k->KR rk (arrOf z) (lo+k) < KR rk (arrOf z) (lo+i))) ?istep ?ifin ?iinit) ?ipost)
  case iinit=>exact ⟨rfl,0,k,rfl,by omega,by omega,by omega,λi hi=>by omega,λi h1 h2=>by omega⟩
  case ifin =>
   rintro c z' ⟨rfl,l,r,rfl,hlr,hrk,hm,hlo,hhi⟩
   have:l=r:=by omega
   subst this
   exact ⟨rfl,l,l,rfl,hrk,hlo,hhi⟩
  case istep =>
   rintro x c z' _ hxk ⟨rfl,l,r,rfl,hlr,hrk,hm,hlo,hhi⟩
   dsimp only
   by_cases hge:l ≥ r
   ·rw[if_pos hge]
    have:l=r:=by omega
    subst this
    exact wpS_pure ⟨rfl,l,l,rfl,hrk,hlo,hhi⟩
   ·rw[if_neg hge]
    refine wpS_bind (UY q hS b (by omega) (by omega) ?_)
    dsimp only
    by_cases hl:KR rk (arrOf z') (lo+k) < KR rk (arrOf z') (lo+(l+r) / 2)
    ·rw[if_pos (by simpa using hl)]
     refine wpS_pure ⟨rfl,l,(l+r) / 2,rfl,by omega,by omega,by omega,hlo,λi h1 h2=>?_⟩
     have:=hs' (lo+(l+r) / 2) (lo+i) (by omega) (by omega) (by omega)
     omega
    ·rw[if_neg (by simpa using hl)]
     refine wpS_pure ⟨rfl,(l+r) / 2+1,r,rfl,by omega,by omega,by omega,λi h1=>?_,hhi⟩
     have:=hs' (lo+i) (lo+(l+r) / 2) (by omega) (by omega) (by omega)
     omega
  case ipost =>
   rintro c z' ⟨rfl,l,r,rfl,hlk,hlo,hhi⟩
   show wpS _ _ _ _ (do moveDown' (lo+k) (lo+l);pure (ForInStep.yield (none,()))) _ _
   rw[moveDown'_eq]
   have hks:lo+k < (arrOf z').size:=by rw[b.size];omega
   refine wpS_bind (wpS_modify (wpS_pure ⟨rfl,⟨(bubble_perm _ _ _).trans b.perm,b.kind,b.failed,b.pend,λi hi=>?_⟩,?_⟩))
   ·show (bubble (arrOf z') _ _)[i]?=_
    rw[getElem?_bubble hks _ (by omega),if_neg (by omega),if_neg (by omega)]
    exact b.keep i hi
   ·rw[show min (k+1) n=k+1 by omega]
    intro i j hi hij hj
    show KR rk (bubble (arrOf z') (lo+k) (lo+k - (lo+l))) i<=KR rk (bubble (arrOf z') (lo+k) (lo+k - (lo+l))) j
    rw[XW hks (by omega),XW hks (by omega),show lo+k - (lo+k - (lo+l))=lo+l by omega]
    have hlo':∀i,lo<=i->i < lo+l->KR rk (arrOf z') i<=KR rk (arrOf z') (lo+k):=λi h1 h2=>by
     have:=hlo (i - lo) (by omega)
     rwa [show lo+(i - lo)=i by omega]at this
    have hhi':∀i,lo+l<=i->i < lo+k->KR rk (arrOf z') (lo+k) < KR rk (arrOf z') i:=λi h1 h2=>by
     have:=hhi (i - lo) (by omega) (by omega)
     rwa [show lo+(i - lo)=i by omega]at this
    repeat' split
    all_goals first
     | (exfalso;omega)
     | exact B0 _
     | exact hlo' _ (by omega) (by omega)
     | exact Y4 (hhi' _ (by omega) (by omega))
     | exact hs' _ _ (by omega) (by omega) (by omega)
end
noncomputable def wb(xs:Array Keyed)(c:Nat)(m:List Keyed)(n:Nat):Array Keyed:=(m.zipIdx n).foldl (λa pj=>a.setIfInBounds (c+pj.2) pj.1) xs
theorem qB(i:Nat):mergeAt' i=(do
    let z<-get
    let (some (sa,na,pw),some (sb,nb,_)):=((pendingOf z)[i]?,(pendingOf z)[i+1]?)|unsupported "internal:list.sort.pending"
    set (setPending z (((pendingOf z).setIfInBounds i (sa,na+nb,pw)).eraseIdxIfInBounds (i+1)))
    let some k<-ND false (<- elem' (arrOf z) sb) (arrOf z) sa na 0|return false
    let (sa,na):=(sa+k,na - k)
    if na==0 then return true
    let some nb<-ND true (<- elem' (arrOf z) (sa+na - 1)) (arrOf z) sb nb (nb - 1)|return false
    if nb==0 then return true
    let x:=(arrOf z).extract sa sb
    let y:=(arrOf z).extract sb (sb+nb)
    let r<-if na<=nb then tL x y else uL x y
    modify λv=>setArr v (wb (arrOf v) sa r.toList 0)
    return (failedOf (<- get)).isNone):=rfl
theorem qG:∀(m:List Keyed) (n c:Nat) (xs:Array Keyed),c+n+m.length<=xs.size->∀k,(wb xs c m n)[k]?=if c+n<=k/\k < c+n+m.length then m[k - (c+n)]? else xs[k]?
 | [],n,c,xs,_,k=>by
  show xs[k]?=_
  rw[if_neg (by simp)]
 | p :: m,n,c,xs,h,k=>by
  have hl:(p :: m).length=m.length+1:=rfl
  show (wb (xs.setIfInBounds (c+n) p) c m (n+1))[k]?=_
  rw[qG m (n+1) c _ (by rw[Array.size_setIfInBounds];omega),Array.getElem?_setIfInBounds]
  by_cases h1:c+n=k
  ·subst h1
   rw[if_neg (by omega),if_pos rfl,if_pos (by omega),if_pos (by omega)]
   simp
  ·by_cases h2:c+(n+1)<=k/\k < c+(n+1)+m.length
   ·rw[if_pos h2,if_pos (by omega)]
    have e:k - (c+n)=(k - (c+(n+1)))+1:=by omega
    rw[e,V4]
   ·rw[if_neg h2,if_neg h1,if_neg (by omega)]
theorem Jw{xs:Array Keyed}{c:Nat}{m:List Keyed}(h:c+m.length<=xs.size):(wb xs c m 0).toList=xs.toList.take c++m++xs.toList.drop (c+m.length):=by
 apply List.ext_getElem?
 intro k
 rw[B2,qG m 0 c xs (by omega)]
 have hl:(xs.toList.take c).length=c:=by rw[E1,W0];omega
 rw[T2]
 by_cases h1:k < c
 ·rw[if_neg (by omega),P2 (by omega),S7 h1,B2]
 ·rw[T1 (by omega),hl]
  by_cases h2:k - c < m.length
  ·rw[if_pos (by omega),P2 h2]
   rfl
  ·rw[if_neg (by omega),T1 (by omega),U8,B2]
   congr 1
   omega
section
variable {prog:Program}{w:World}{A:Around}{E:Value->Shared->Prop}{s:Shared}{κ:SortKind}{rk:Keyed->Nat}{S:Keyed->Prop}{st:SortSt}
theorem yZ{xs:Array Keyed}{a b i:Nat}(hb:b<=xs.size)(hi:i < (xs.extract a b).size):(xs.extract a b)[i]=xs[a+i]'(by rw[A6]at hi;omega):=by
 rw[Array.getElem_extract]
theorem Aj{xs:Array Keyed}{a b:Nat}(hb:b<=xs.size)(h:∀i j,a<=i->i<=j->j < b->KR rk xs i<=KR rk xs j):(xs.extract a b).toList.Pairwise (uW rk):=by
 rw[S2]
 intro i j hi hj hij
 rw[W0]at hi hj
 rw[U2,U2,yZ hb,yZ hb]
 have hz:(xs.extract a b).size=b - a:=by rw[A6];omega
 have:=h (a+i) (a+j) (by omega) (by omega) (by omega)
 rwa [KR_at (by omega),KR_at (by omega)]at this
structure Mt(κ:SortKind)(rk:Keyed->Nat)(st:SortSt)(i sa na nb pw:Nat)(st':SortSt):Prop where
 perm:(arrOf st').Perm (arrOf st)
 kind:kindOf st'=κ
 failed:failedOf st'=none
 pend:pendingOf st'=((pendingOf st).setIfInBounds i (sa,na+nb,pw)).eraseIdxIfInBounds (i+1)
 keep:∀j,j < sa\/sa+(na+nb)<=j->(arrOf st')[j]?=(arrOf st)[j]?
 sg:Sg rk (arrOf st') sa (na+nb)
theorem VE(q:eZ prog w A s κ rk S){i sa na nb pw pw':Nat}{Q:Bool->SortSt->Prop}(hS:AllS S (arrOf st))(hk:kindOf st=κ)(hF:failedOf st=none)(p1:(pendingOf st)[i]?=some (sa,na,pw))(p2:(pendingOf st)[i+1]?=some (sa+na,nb,pw'))
  (hz:sa+na+nb<=(arrOf st).size) (n1:1<=na) (n2:1<=nb) (s1:Sg rk (arrOf st) sa na) (s2:Sg rk (arrOf st) (sa+na) nb) (h:∀st',Mt κ rk st i sa na nb pw st'->Q true st') :
  wpS (model prog w) A E s (mergeAt' i) Q st:=by
 rw[qB]
 refine wpS_bind (wpS_get ?_)
 rw[p1,p2]
 dsimp only
 refine wpS_bind (wpS_modify (f:=λ_=>setPending st (((pendingOf st).setIfInBounds i (sa,na+nb,pw)).eraseIdxIfInBounds (i+1))) ?_)
 generalize hst1:setPending st (((pendingOf st).setIfInBounds i (sa,na+nb,pw)).eraseIdxIfInBounds (i+1))=st1
 have hk1:kindOf st1=κ:=by rw[<- hst1];exact hk
 have hF1:failedOf st1=none:=by rw[<- hst1];exact hF
 have hA1:arrOf st1=arrOf st:=by rw[<- hst1]
 have hP1:pendingOf st1=((pendingOf st).setIfInBounds i (sa,na+nb,pw)).eraseIdxIfInBounds (i+1):=by rw[<- hst1]
 have hSi:∀j (hj:j < (arrOf st).size),S (arrOf st)[j]:=λj hj=>hS _ (by simp)
 have s1':∀a b,sa<=a->a<=b->b < sa+na->KR rk (arrOf st) a<=KR rk (arrOf st) b:=s1
 have s2':∀a b,sa+na<=a->a<=b->b < sa+na+nb->KR rk (arrOf st) a<=KR rk (arrOf st) b:=s2
 refine wpS_bind (bX (by omega) ?_)
 refine wpS_bind (EZ q hk1 (hSi _ _) hSi (by omega) (λa b hb hab h1 h2=>by
   have:=s1' a b h1 hab h2
   rwa [KR_at (by omega),KR_at hb]at this) (by omega) λk kn k1 k2=>?_)
 dsimp only
 have k1':∀a,sa<=a->a < sa+k->KR rk (arrOf st) a<=KR rk (arrOf st) (sa+na):=λa h1 h2=>by
  have:=k1 a (by omega) h1 h2
  rw[if_neg (by decide)]at this
  rwa [KR_at (by omega),KR_at (by omega)]
 have k2':∀a,sa+k<=a->a < sa+na->KR rk (arrOf st) (sa+na) < KR rk (arrOf st) a:=λa h1 h2=>by
  have:=k2 a (by omega) h1 h2
  rw[if_neg (by decide)]at this
  rwa [KR_at (by omega),KR_at (by omega)]
 by_cases h0:na - k=0
 ·rw[if_pos (by simpa using h0)]
  refine wpS_pure (h st1 ⟨by rw[hA1],hk1,hF1,hP1,λj _=>by rw[hA1],λa b h1 h2 h3=>?_⟩)
  rw[hA1]
  by_cases hb:b < sa+na
  ·exact s1' a b h1 h2 hb
  ·by_cases ha:a < sa+na
   ·exact Z0 (k1' a h1 (by omega)) (s2' (sa+na) b (by omega) (by omega) (by omega))
   ·exact s2' a b (by omega) h2 (by omega)
 ·rw[if_neg (by simpa using h0)]
  refine wpS_bind (bX (by omega) ?_)
  refine wpS_bind (EZ q hk1 (hSi _ _) hSi (by omega) (λa b hb hab h1 h2=>by
    have:=s2' a b h1 hab h2
    rwa [KR_at (by omega),KR_at hb]at this) (by omega) λl ln l1 l2=>?_)
  dsimp only
  have l1':∀a,sa+na<=a->a < sa+na+l->KR rk (arrOf st) a < KR rk (arrOf st) (sa+k+(na - k) - 1):=λa h1 h2=>by
   have:=l1 a (by omega) h1 h2
   rw[if_pos rfl]at this
   rwa [KR_at (by omega),KR_at (by omega)]
  have l2':∀a,sa+na+l<=a->a < sa+na+nb->KR rk (arrOf st) (sa+k+(na - k) - 1)<=KR rk (arrOf st) a:=λa h1 h2=>by
   have:=l2 a (by omega) h1 h2
   rw[if_pos rfl]at this
   rwa [KR_at (by omega),KR_at (by omega)]
  have el:sa+k+(na - k) - 1=sa+na - 1:=by omega
  rw[el]at l1' l2'
  by_cases hl0:l=0
  ·rw[if_pos (by simpa using hl0)]
   refine wpS_pure (h st1 ⟨by rw[hA1],hk1,hF1,hP1,λj _=>by rw[hA1],λa b h1 h2 h3=>?_⟩)
   rw[hA1]
   by_cases hb:b < sa+na
   ·exact s1' a b h1 h2 hb
   ·by_cases ha:a < sa+na
    ·exact Z0 (s1' a (sa+na - 1) h1 (by omega) (by omega)) (l2' b (by omega) (by omega))
    ·exact s2' a b (by omega) h2 (by omega)
  ·rw[if_neg (by simpa using hl0)]
   have hxz:((arrOf st).extract (sa+k) (sa+na)).size=na - k:=by rw[A6];omega
   have hyz:((arrOf st).extract (sa+na) (sa+na+l)).size=l:=by rw[A6];omega
   have H:Hy rk S ((arrOf st).extract (sa+k) (sa+na)) ((arrOf st).extract (sa+na) (sa+na+l)):=by
    refine ⟨Aj (by omega) λa b h1 h2 h3=>s1' a b (by omega) h2 h3,Aj (by omega) λa b h1 h2 h3=>s2' a b h1 h2 (by omega),λj hj=>?_,λj hj=>?_,by omega,by omega,λj hj=>?_,λj hj=>?_⟩
    ·rw[yZ (by omega)];exact hSi _ _
    ·rw[yZ (by omega)];exact hSi _ _
    ·rw[yZ (by omega),yZ (by omega)]
     have:=l1' (sa+na+j) (by omega) (by omega)
     rw[KR_at (by omega),KR_at (by omega)]at this
     simp only[hxz]
     have e2:sa+k+(na - k - 1)=sa+na - 1:=by omega
     simp only[e2]
     exact Y4 this
    ·rw[yZ (by omega),yZ (by omega)]
     have:=k2' (sa+k+j) (by omega) (by omega)
     rw[KR_at (by omega),KR_at (by omega)]at this
     simp only[Nat.add_zero]
     exact Y4 this
   have go:∀(r:Array Keyed) (st2:SortSt),Gs st1 st2->Po rk ((arrOf st).extract (sa+k) (sa+na)) ((arrOf st).extract (sa+na) (sa+na+l)) r->wpS (model prog w) A E s (do
       modify λv=>setArr v (wb (arrOf v) (sa+k) r.toList 0)
       let v<-get
       pure (failedOf v).isNone) Q st2:=by
    rintro r st2 ⟨g,rfl⟩ ⟨hp,hw⟩
    refine wpS_bind (wpS_modify (wpS_bind (wpS_get ?_)))
    have hlen:r.toList.length=na - k+l:=by rw[hp.length_eq,Q0,W0,W0,hxz,hyz]
    have hb:sa+k+r.toList.length<=(arrOf st).size:=by omega
    have eA:arrOf (setArr (oK st1 g) (wb (arrOf (oK st1 g)) (sa+k) r.toList 0))=wb (arrOf st) (sa+k) r.toList 0:=by
     show wb (arrOf st1) _ _ _=_
     rw[hA1]
    have eF:failedOf (setArr (oK st1 g) (wb (arrOf (oK st1 g)) (sa+k) r.toList 0))=none:=hF1
    rw[eF]
    have gt:∀j,(wb (arrOf st) (sa+k) r.toList 0)[j]?=if sa+k<=j/\j < sa+k+r.toList.length then r.toList[j - (sa+k)]? else (arrOf st)[j]?:=λj=>qG r.toList 0 (sa+k) (arrOf st) hb j
    have mid:∀j,sa+k<=j->j < sa+na+l->∃n,sa+k<=n/\n < sa+na+l/\KR rk (wb (arrOf st) (sa+k) r.toList 0) j=KR rk (arrOf st) n:=λj j1 j2=>by
     have hj:j - (sa+k) < r.toList.length:=by omega
     have e:KR rk (wb (arrOf st) (sa+k) r.toList 0) j=rk (r.toList[j - (sa+k)]'hj):=by
      unfold KR
      rw[gt,if_pos (by omega),A0 hj]
     have hm:=hp.mem_iff.mp (Y3 hj)
     rw[e]
     rcases V0.mp hm with hm|hm
     ·obtain⟨n,hn,en⟩:=j4 hm
      rw[W0]at hn
      rw[U2,yZ (by omega)]at en
      refine ⟨sa+k+n,by omega,by omega,?_⟩
      rw[<- en,KR_at (by omega)]
     ·obtain⟨n,hn,en⟩:=j4 hm
      rw[W0]at hn
      rw[U2,yZ (by omega)]at en
      refine ⟨sa+na+n,by omega,by omega,?_⟩
      rw[<- en,KR_at (by omega)]
    have out:∀j,j < sa+k\/sa+na+l<=j->(wb (arrOf st) (sa+k) r.toList 0)[j]?=(arrOf st)[j]?:=λj hj=>by rw[gt,if_neg (by omega)]
    refine wpS_pure (h _ ⟨?_,hk1,hF1,hP1,?_,?_⟩)
    ·rw[eA,u5,Jw hb]
     have e:(arrOf st).toList=(arrOf st).toList.take (sa+k)++(((arrOf st).extract (sa+k) (sa+na)).toList++((arrOf st).extract (sa+na) (sa+na+l)).toList)++(arrOf st).toList.drop (sa+k+r.toList.length):=by
      rw[B4,B4,Q2,Q2]
      have e1:(arrOf st).toList.drop (sa+na)=((arrOf st).toList.drop (sa+k)).drop (na - k):=by rw[G8];congr 1;omega
      rw[e1,show sa+na - (sa+k)=na - k by omega,show sa+na+l - (sa+na)=l by omega,<- List.take_add,hlen]
      have e2:(arrOf st).toList.drop (sa+k+(na - k+l))=((arrOf st).toList.drop (sa+k)).drop (na - k+l):=by rw[G8]
      rw[e2,T2,M3,M3]
     conv=>rhs;rw[e]
     exact (hp.append_left _).append_right _
    ·intro j hj
     rw[eA]
     exact out j (by omega)
    ·rw[eA]
     intro a b h1 h2 h3
     have kA:∀a,a < sa+k->KR rk (wb (arrOf st) (sa+k) r.toList 0) a=KR rk (arrOf st) a:=λa ha=>uX (out a (.inl ha))
     have kB:∀a,sa+na+l<=a->KR rk (wb (arrOf st) (sa+k) r.toList 0) a=KR rk (arrOf st) a:=λa ha=>uX (out a (.inr ha))
     by_cases ha:a < sa+k
     ·rw[kA a ha]
      by_cases hb1:b < sa+k
      ·rw[kA b hb1];exact s1' a b h1 h2 (by omega)
      ·by_cases hb2:b < sa+na+l
       ·obtain⟨n,m1,m2,en⟩:=mid b (by omega) hb2
        rw[en]
        by_cases hn:n < sa+na
        ·exact s1' a n h1 (by omega) hn
        ·exact Z0 (k1' a h1 ha) (s2' (sa+na) n (by omega) (by omega) (by omega))
       ·rw[kB b (by omega)]
        exact Z0 (k1' a h1 ha) (s2' (sa+na) b (by omega) (by omega) (by omega))
     ·by_cases ha2:a < sa+na+l
      ·by_cases hb2:b < sa+na+l
       ·have ha':a - (sa+k) < r.toList.length:=by omega
        have hb':b - (sa+k) < r.toList.length:=by omega
        have ea:KR rk (wb (arrOf st) (sa+k) r.toList 0) a=rk (r.toList[a - (sa+k)]'ha'):=by
         unfold KR
         rw[gt,if_pos (by omega),A0 ha']
        have eb:KR rk (wb (arrOf st) (sa+k) r.toList 0) b=rk (r.toList[b - (sa+k)]'hb'):=by
         unfold KR
         rw[gt,if_pos (by omega),A0 hb']
        rw[ea,eb]
        rcases Nat.lt_or_ge a b with hab|hab
        ·exact S2.mp hw _ _ ha' hb' (by omega)
        ·have:a=b:=by omega
         subst this
         exact B0 _
       ·obtain⟨n,m1,m2,en⟩:=mid a (by omega) ha2
        rw[en,kB b (by omega)]
        by_cases hn:n < sa+na
        ·exact Z0 (s1' n (sa+na - 1) (by omega) (by omega) (by omega)) (l2' b (by omega) (by omega))
        ·exact s2' n b (by omega) (by omega) (by omega)
      ·rw[kB a (by omega),kB b (by omega)]
       exact s2' a b (by omega) h2 (by omega)
   by_cases hle:na - k<=l
   ·simp only[if_pos hle]
    exact wpS_bind (LE q H hk1 λr st2 hg hP=>go r st2 hg hP)
   ·simp only[if_neg hle]
    exact wpS_bind (QE q H hk1 λr st2 hg hP=>go r st2 hg hP)
end
noncomputable def Ch(rk:Keyed->Nat)(xs:Array Keyed):List (Nat×Nat×Nat)->Nat->Nat->Prop
 | [],b,e=>b=e
 | p :: l,b,e=>p.1=b/\1<=p.2.1/\Sg rk xs b p.2.1/\Ch rk xs l (b+p.2.1) e
theorem Ch.len{rk:Keyed->Nat}{xs:Array Keyed}:∀{l:List (Nat×Nat×Nat)}{b e:Nat},Ch rk xs l b e->b+l.length<=e
 | [],b,e,h=>by cases h;simp
 | p :: l,b,e,h=>by
  have:=h.2.2.2.len
  have:=h.2.1
  rw[V1]
  omega
theorem Ch.append{rk:Keyed->Nat}{xs:Array Keyed}:∀{l l':List (Nat×Nat×Nat)}{b e:Nat},Ch rk xs (l++l') b e ↔ ∃m,Ch rk xs l b m/\Ch rk xs l' m e
 | [],l',b,e=>⟨λh=>⟨b,rfl,h⟩,λ⟨m,h1,h2⟩=>by cases h1;exact h2⟩
 | p :: l,l',b,e=>⟨λ⟨h1,h2,h3,h4⟩=>by
     obtain⟨m,h5,h6⟩:=Ch.append.mp h4
     exact ⟨m,⟨h1,h2,h3,h5⟩,h6⟩,λ⟨m,⟨h1,h2,h3,h5⟩,h6⟩=>⟨h1,h2,h3,Ch.append.mpr ⟨m,h5,h6⟩⟩⟩
theorem Ch.congr{rk:Keyed->Nat}{xs ys:Array Keyed}:∀{l:List (Nat×Nat×Nat)}{b e:Nat},(∀i,b<=i->i < e->ys[i]?=xs[i]?)->Ch rk xs l b e->Ch rk ys l b e
 | [],_,_,_,h=>h
 | p :: l,b,e,k,⟨h1,h2,h3,h4⟩=>by
  have:=h4.len
  refine ⟨h1,h2,λi j hi hij hj=>?_,h4.congr λi hi he=>k i (by omega) he⟩
  rw[uX (k i hi (by omega)),uX (k j (by omega) (by omega))]
  exact h3 i j hi hij hj
structure In(κ:SortKind)(rk:Keyed->Nat)(st:SortSt)(lo:Nat)(st':SortSt):Prop where
 perm:(arrOf st').Perm (arrOf st)
 kind:kindOf st'=κ
 failed:failedOf st'=none
 ch:Ch rk (arrOf st') (pendingOf st').toList 0 lo
theorem In.size{κ:SortKind}{rk:Keyed->Nat}{st st':SortSt}{lo:Nat}(h:In κ rk st lo st'):(arrOf st').size=(arrOf st).size:=h.perm.size_eq
section
variable {prog:Program}{w:World}{A:Around}{E:Value->Shared->Prop}{s:Shared}{κ:SortKind}{rk:Keyed->Nat}{S:Keyed->Prop}{st:SortSt}
theorem AllS.perm{xs ys:Array Keyed}(h:AllS S xs)(p:ys.Perm xs):AllS S ys:=λq hq=>h q ((u5.mp p).mem_iff.mp hq)
theorem qy(q:eZ prog w A s κ rk S){i lo:Nat}{st':SortSt}{Q:Bool->SortSt->Prop}(hS:AllS S (arrOf st))(hI:In κ rk st lo st')(hlo:lo<=(arrOf st).size)(hi:i+1 < (pendingOf st').size)
  (h:∀st'',In κ rk st lo st''->(pendingOf st'').size+1=(pendingOf st').size->(∀j,lo<=j->(arrOf st'')[j]?=(arrOf st')[j]?)->Q true st''):wpS (model prog w) A E s (mergeAt' i) Q st':=by
 obtain⟨perm,kind,failed,ch⟩:=hI
 have hl:(pendingOf st').toList.length=(pendingOf st').size:=W0
 obtain⟨pre,p,p',post,e,ep⟩:∃pre p p' post,(pendingOf st').toList=pre++p :: p' :: post/\pre.length=i:=by
  refine ⟨(pendingOf st').toList.take i,(pendingOf st').toList[i]'(by omega),(pendingOf st').toList[i+1]'(by omega),(pendingOf st').toList.drop (i+2),?_,by rw[E1];omega⟩
  have e1:=Z3 (l:=(pendingOf st').toList) (i:=i) (by omega)
  have e2:=Z3 (l:=(pendingOf st').toList) (i:=i+1) (by omega)
  rw[<- e2,<- e1,M3]
 rw[e]at ch
 obtain⟨m,c1,c2⟩:=Ch.append.mp ch
 obtain⟨sa,na,pw⟩:=p
 obtain⟨sb,nb,pw'⟩:=p'
 obtain⟨f1,f2,f3,g1,g2,g3,c3⟩:=c2
 dsimp only at f1 f2 f3 g1 g2 g3 c3
 subst f1
 subst g1
 have hlen:=c3.len
 have q1:(pendingOf st')[i]?=some (sa,na,pw):=by rw[<- B2,e,T1 (by omega),ep,b9];rfl
 have q2:(pendingOf st')[i+1]?=some (sa+na,nb,pw'):=by rw[<- B2,e,T1 (by omega),ep,S5];rfl
 have hz:=perm.size_eq
 refine VE q (hS.perm perm) kind failed q1 q2 (by omega) f2 g2 f3 g3 λst'' M=>?_
 have el:(pendingOf st'').toList=pre++(sa,na+nb,pw) :: post:=by
  rw[M.pend,Array.toList_eraseIdxIfInBounds,Array.toList_setIfInBounds,e,<- ep,List.set_append_right _ _ (B0 _),b9,List.eraseIdx_append_of_length_le (by omega),S5]
  rfl
 refine h st'' ⟨M.perm.trans perm,M.kind,M.failed,?_⟩ ?_ λj hj=>M.keep j (.inr (by omega))
 ·rw[el]
  refine Ch.append.mpr ⟨sa,c1.congr λj _ hj=>M.keep j (.inl hj),rfl,by show 1<=na+nb;omega,M.sg,?_⟩
  show Ch rk _ post (sa+(na+nb)) lo
  rw[<- Nat.add_assoc]
  exact c3.congr λj hj _=>M.keep j (.inr (by omega))
 ·have e1:=congrArg L4 el
  have e2:=congrArg L4 e
  rw[W0]at e1 e2
  simp only[Q0,V1]at e1 e2
  omega
theorem Ch.modify{xs:Array Keyed}(pw:Nat):∀{l:List (Nat×Nat×Nat)}{i b e:Nat},Ch rk xs l b e->Ch rk xs (l.modify i λx=>(x.1,x.2.1,pw)) b e
 | [],i,_,_,h=>by cases i<;>exact h
 | p :: l,0,_,_,h=>h
 | p :: l,i+1,_,_,⟨h1,h2,h3,h4⟩=>⟨h1,h2,h3,h4.modify pw (i:=i)⟩
theorem In.put{lo n pw:Nat}{z:SortSt}(h:In κ rk st lo z):In κ rk st lo (setPending z ((pendingOf z).modify ((pendingOf z).size - 1) λx=>(x.1,x.2.1,pw))) :=
 ⟨h.perm,h.kind,h.failed,by
   show Ch rk (arrOf z) ((pendingOf z).modify ((pendingOf z).size - 1) λx=>(x.1,x.2.1,pw)).toList 0 lo
   rw[Array.toList_modify]
   exact h.ch.modify pw⟩
theorem In.push{lo n:Nat}{z:SortSt}(h:In κ rk st lo z)(hn:1<=n)(hs:Sg rk (arrOf z) lo n):In κ rk st (lo+n) (setPending z ((pendingOf z).push (lo,n,0))) :=
 ⟨h.perm,h.kind,h.failed,by
   show Ch rk (arrOf z) ((pendingOf z).push (lo,n,0)).toList 0 (lo+n)
   rw[Z5]
   exact Ch.append.mpr ⟨lo,h.ch,rfl,hn,hs,rfl⟩⟩
theorem In.run{lo n:Nat}{z z':SortSt}(h:In κ rk st lo z)(b:Bs κ z lo n z'):In κ rk st lo z' :=
 ⟨b.perm.trans h.perm,b.kind,b.failed,by
   rw[b.pend]
   exact h.ch.congr λi _ hi=>b.keep i (.inl hi)⟩
theorem Sg.congr{xs ys:Array Keyed}{lo n:Nat}(h:Sg rk xs lo n)(k:∀j,lo<=j->ys[j]?=xs[j]?):Sg rk ys lo n:=λi j hi hij hj=>by
 rw[uX (k i hi),uX (k j (by omega))]
 exact h i j hi hij hj
theorem w_sort(q:eZ prog w A s κ rk S){Q:Unit->SortSt->Prop}(hS:AllS S (arrOf st))(hk:kindOf st=κ)(hF:failedOf st=none)(hP:pendingOf st=#[])
  (h:∀st',(arrOf st').Perm (arrOf st)->failedOf st'=none->Sg rk (arrOf st') 0 (arrOf st).size->Q () st'):wpS (model prog w) A E s sortRuns' Q st:=by
 rw[sortRuns'_eq]
 refine wpS_bind (wpS_get ?_)
 dsimp only
 have I0:In κ rk st 0 st:=⟨Array.Perm.refl _,hk,hF,by rw[hP];rfl⟩
 refine wpS_bind (wpS_mono (wpS_forRange (I:=λx c z=>∃lo,c=(none,lo)/\In κ rk st lo z/\lo<=(arrOf st).size/\(x<=lo\/lo=(arrOf st).size)) (Q:=λc z=>c=(none,(arrOf st).size)/\In κ rk st (arrOf st).size z) ?step ?fin ⟨0,rfl,I0,M4 _,.inl (B0 _)⟩) ?post)
 case fin =>
  rintro c z ⟨lo,rfl,hI,h1,h2⟩
  have:lo=(arrOf st).size:=by omega
  subst this
  exact ⟨rfl,hI⟩
 case step =>
  rintro x c z _ hx ⟨lo,rfl,hI,h1,h2⟩
  dsimp only
  by_cases hge:lo ≥ (arrOf st).size
  ·rw[if_pos hge]
   have:lo=(arrOf st).size:=by omega
   subst this
   exact wpS_pure ⟨rfl,hI⟩
  ·rw[if_neg hge]
   have hz:=hI.size
   have hS':AllS S (arrOf z):=AllS.perm hS hI.perm
   refine wpS_bind (tM q hS' (by omega) (by omega) ⟨Array.Perm.refl _,hI.kind,hI.failed,rfl,λ_ _=>rfl⟩ λn z1 b1 n1 n2 g1=>?_)
   dsimp only
   have rest:∀(n:Nat) (z1:SortSt),In κ rk st lo z1->1<=n->lo+n<=(arrOf st).size->Sg rk (arrOf z1) lo n->∃c,c=n/\In κ rk st lo z1/\Sg rk (arrOf z1) lo c/\1<=c/\lo+c<=(arrOf st).size:=λn z1 a b c d=>⟨n,rfl,a,d,b,c⟩
   by_cases hlt:n < minRun' (arrOf st).size (arrOf st).size 0
   case' pos =>
    rw[if_pos hlt]
    refine wpS_bind (wpS_lift (wpAny_rule ⟨rfl,?_⟩))
    refine wpS_bind (pB (N:=(arrOf st).size - lo) q hS' (n:=min ((arrOf st).size - lo) (minRun' (arrOf st).size (arrOf st).size 0)) (by omega) (by omega) (by omega) b1 g1 λz2 b2 g2=>?_)
    simp only[R7,S3,if_false]
    have hI2:=hI.run b2
    have m1:1<=min ((arrOf st).size - lo) (minRun' (arrOf st).size (arrOf st).size 0):=by omega
    have m2:lo+min ((arrOf st).size - lo) (minRun' (arrOf st).size (arrOf st).size 0)<=(arrOf st).size:=by omega
    clear b2 b1 g1
    generalize min ((arrOf st).size - lo) (minRun' (arrOf st).size (arrOf st).size 0)=m at *
   case' neg =>
    rw[if_neg hlt]
    have hI2:=hI.run b1
    have m1:=n1
    have m2:lo+n<=(arrOf st).size:=by omega
    have g2:=g1
    clear b1 g1 n1 n2 hlt
    generalize n=m at *
    generalize z1=z2 at *
   all_goals
    refine wpS_bind (wpS_get ?_)
    cases hb:(pendingOf z2).back? with
    | none=>exact wpS_bind (wpS_modify (wpS_pure ⟨lo+m,rfl,hI2.push m1 g2,m2,.inl (by omega)⟩))
    | some pb =>
     obtain⟨s1,n1,pv⟩:=pb
     dsimp only
     refine wpS_bind (wpS_mono (wpS_forRange (I:=λ_ c z=>c=(none,())/\In κ rk st lo z/\∀j,lo<=j->(arrOf z)[j]?=(arrOf z2)[j]?) (Q:=λc z=>c=(none,())/\In κ rk st lo z/\∀j,lo<=j->(arrOf z)[j]?=(arrOf z2)[j]?) ?_ (λ_ _ hh=>hh) ⟨rfl,hI2,λ_ _=>rfl⟩) ?_)
     ·rintro y c z _ _ ⟨rfl,hI3,k3⟩
      refine wpS_bind (wpS_get ?_)
      by_cases hp:(pendingOf z).size > 1
      ·rw[if_pos hp]
       cases hq:(pendingOf z)[(pendingOf z).size - 2]? with
       | none=>exact wpS_pure ⟨rfl,hI3,k3⟩
       | some pq =>
        obtain⟨u1,u2,older⟩:=pq
        dsimp only
        split
        ·exact wpS_pure ⟨rfl,hI3,k3⟩
        ·refine wpS_bind (qy q hS hI3 (by omega) (by omega) λz4 hI4 _ k4=>?_)
         simp only[R7,S3,if_false]
         exact wpS_pure ⟨rfl,hI4,λj hj=>(k4 j hj).trans (k3 j hj)⟩
      ·rw[if_neg hp]
       exact wpS_pure ⟨rfl,hI3,k3⟩
     ·rintro c z ⟨rfl,hI3,k3⟩
      exact wpS_bind (wpS_modify (wpS_bind (wpS_modify (wpS_pure ⟨lo+m,rfl,(hI3.put (n:=0)).push m1 (g2.congr k3),m2,.inl (by omega)⟩))))
 case post =>
  rintro c z ⟨rfl,hI⟩
  dsimp only
  refine wpS_bind (wpS_mono (wpS_forRange (I:=λx c z=>c=(none,())/\In κ rk st (arrOf st).size z/\(pendingOf z).size+x<=(arrOf st).size) (Q:=λc z=>c=(none,())/\In κ rk st (arrOf st).size z/\(pendingOf z).size<=1) ?_ ?_ ⟨rfl,hI,?_⟩) ?_)
  ·rintro x c z _ hx ⟨rfl,hI,hx2⟩
   refine wpS_bind (wpS_get ?_)
   by_cases hp:(pendingOf z).size<=1
   ·rw[if_pos hp]
    exact wpS_pure ⟨rfl,hI,hp⟩
   ·rw[if_neg hp]
    refine wpS_bind (qy q hS hI (B0 _) (by (repeat' split)<;>omega) λz4 hI4 hs4 _=>?_)
    simp only[R7,S3,if_false]
    exact wpS_pure ⟨rfl,hI4,by omega⟩
  ·rintro c z ⟨rfl,hI,hx2⟩
   exact ⟨rfl,hI,by omega⟩
  ·have:=hI.ch.len
   rw[W0]at this
   omega
  ·rintro c z ⟨rfl,hI,hp⟩
   refine wpS_pure (h z hI.perm hI.failed ?_)
   have hc:=hI.ch
   have hl:(pendingOf z).toList.length<=1:=by rw[W0];exact hp
   match (pendingOf z).toList,hc,hl with
   | [],hc,_ =>
    have:0=(arrOf st).size:=hc
    intro i j _ _ hj
    omega
   | [p],⟨h1,h2,h3,h4⟩,_ =>
    have h4:0+p.2.1=(arrOf st).size:=h4
    rw[j6]at h4
    rw[h4]at h3
    exact h3
end
end SG
namespace L2
open PySem PySem.Spec PyProof.Rows PySem.W
section
variable {prog:Program}{w:World}{A:Around}{E:Value->Shared->Prop}{s:Shared}{κ:SortKind}{vs:List Value}{rk:Value->Nat}
theorem YW{p:Keyed}(h:p∈(pairsOf vs).toList):p.1=p.2/\p.2∈vs:=by
 have h:p∈(vs.toArray.zip vs.toArray).toList:=h
 rw[Array.toList_zip]at h
 obtain⟨i,hi,e⟩:=j4 h
 rw[List.getElem_zip]at e
 subst e
 exact ⟨rfl,Y3 _⟩
theorem pK{a:Addr}{n:Nat}{P:Fin->Shared->Prop}(ho:s.heap.get? a=some (seqObj "list" vs.toArray n))(hz:vs.length<=sizeLine)
  (hk:2<=vs.length->∀s':Shared,(∀b o,b≠a->s.heap.get? b=some o->s'.heap.get? b=some o)->∀Q':SortKind->Shared->Prop,Q' κ s'->wpAny (model prog w) A (keyKind' vs.toArray) Q' E s')
  (hlt:∀s':Shared,(∀b o,b≠a->s.heap.get? b=some o->s'.heap.get? b=some o)->∀x y,x∈vs->y∈vs->∀Q':Bool->Shared->Prop,Q' (decide (rk x < rk y)) s'->wpAny (model prog w) A (keyLt' κ x y) Q' (λ_ _=>False) s')
  (h:∀out:List Value,out.Perm vs->out.Pairwise (λx y=>rk x<=rk y)->P (.done (.ret .none)) { s with heap:=sortedHeap s.heap a vs out.toArray }) :
  wpAny (model prog w) A (Builtin.«list.sort» ⟨[.ref a],[]⟩) P E s:=by
 rw[list_sort_plain]
 have ha:a < s.heap.objs.size:=M0 ho
 refine wpAny_bind (listItems_at ho rfl ?_)
 refine wpAny_bind (listUpdate_at ho rfl ?_)
 obtain⟨e1,ho1⟩:∃e1,(s.heap.update a (K2 λ_=>#[])).get? a=some (seqObj "list" #[] e1):=⟨_,get?_update_seq ho (λ_=>#[])⟩
 refine wpAny_bind (seqEpoch_at ho1 rfl ?_)
 refine wpAny_bind (wpAny_newTuple ?_)
 refine wpAny_bind (wpAny_newList ?_)
 refine wpAny_holding ?_
 have ho6:(((s.heap.update a (K2 λ_=>#[])).push (seqObj "tuple" vs.toArray 0)).push (seqObj "list" #[] 0)).get? a=some (seqObj "list" #[] e1):=by
  rw[L6 _ _ _ (by rw[size_push',Y7];exact S0 (O3 ha)),L6 _ _ _ (by rw[Y7];exact S0 ha)]
  exact ho1
 have kp:∀b o,b≠a->s.heap.get? b=some o->(((s.heap.update a (K2 λ_=>#[])).push (seqObj "tuple" vs.toArray 0)).push (seqObj "list" #[] 0)).get? b=some o:=λb o hb e=>by
  refine n0 _ (n0 _ ?_)
  rw[O8 _ _ _ _ hb]
  exact e
 show wpAny (model prog w) A _ P E { s with heap:=((s.heap.update a (K2 λ_=>#[])).push (seqObj "tuple" vs.toArray 0)).push (seqObj "list" #[] 0) }
 dsimp only
 have hsz:vs.toArray.size=vs.length:=by simp
 have out0:((pairsOf vs).map (·.2))=vs.toArray:=by
  apply Array.toList_inj.mp
  rw[T6]
  show (vs.toArray.zip vs.toArray).toList.map (·.2)=_
  simp only[Array.toList_zip]
  exact List.map_snd_zip (B0 _)
 by_cases h2:vs.toArray.size < 2
 ·rw[if_pos h2,if_pos h2]
  refine wpAny_bind (wpAny_pure ?_)
  rw[StateT.run_pure]
  refine wpAny_bind (wpAny_pure ?_)
  dsimp only
  refine wpAny_bind (seqEpoch_at ho6 rfl ?_)
  refine wpAny_bind (listUpdate_at ho6 rfl ?_ (hsz2:=by rw[Array.size_map];show (pairsOf vs).size<=_;rw[pairsOf_size];exact P7 hz))
  simp only[bne_self_eq_false,S3,if_false]
  have h':=h vs (List.Perm.refl _) (by
    match vs,h2 with
    | [],_=>exact .nil
    | [x],_=>exact W4 _ _
    | x :: y :: z,h2=>simp at h2;omega)
  rw[<- out0]at h'
  exact wpAny_pure h'
 ·rw[if_neg h2,if_neg h2]
  have h2':2<=vs.length:=by omega
  refine wpAny_bind (hk h2' _ kp _ ?_)
  have run:=SG.w_sort (prog:=prog) (w:=w) (A:=A) (E:=E) (κ:=κ) (rk:=λp=>rk p.1) (S:=λp=>p.1∈vs) (st:=SortSt.mk' κ (pairsOf vs) #[] 7 none)
   (s:={ s with heap:=((s.heap.update a (K2 λ_=>#[])).push (seqObj "tuple" vs.toArray 0)).push (seqObj "list" #[] 0) })
   (Q:=λ_ st'=>(arrOf st').Perm (pairsOf vs)/\failedOf st'=none/\SG.Sg (λp=>rk p.1) (arrOf st') 0 (pairsOf vs).size)
   (λx y hx hy Q' hQ'=>hlt _ kp _ _ hx hy Q' hQ') (λp hp=>by have:=YW hp;show p.1∈vs;rw[this.1];exact this.2) rfl rfl rfl λst' p1 p2 p3=>⟨p1,p2,p3⟩
  refine wpAny_bind (wpAny_mono run ?_ λ_ _ e=>e)
  rintro⟨⟨⟩,st'⟩ s' ⟨rfl,hp,hf,hs⟩
  dsimp only at hp hf hs ⊢
  refine wpAny_bind (seqEpoch_at ho6 rfl ?_)
  have hpl:=u5.mp hp
  have eq12:∀p∈(arrOf st').toList,p.1=p.2:=λp h=>(YW (hpl.mem_iff.mp h)).1
  have hO:((arrOf st').map (·.2)).toList.Perm vs:=by
   rw[T6]
   have e:(pairsOf vs).toList.map (·.2)=vs:=by rw[<- T6,out0]
   have:=hpl.map (·.2)
   rw[e]at this
   exact this
  have hL:((arrOf st').map (·.2)).toList.length=vs.length:=hO.length_eq
  rw[W0]at hL
  refine wpAny_bind (listUpdate_at ho6 rfl ?_ (hsz2:=by rw[hL];exact P7 hz))
  rw[hf]
  simp only[bne_self_eq_false,S3,if_false]
  refine wpAny_pure ?_
  have:=h ((arrOf st').map (·.2)).toList hO (by
    rw[T6,K5,S2]
    intro i j hi hj hij
    rw[W0]at hi hj
    have hz2:(arrOf st').size=(pairsOf vs).size:=hp.size_eq
    have:=hs i j (M4 _) (by omega) (by omega)
    rw[SG.KR_at hi,SG.KR_at hj]at this
    rw[U2,U2,<- eq12 _ (by simp),<- eq12 _ (by simp)]
    exact this)
  rw[Array.toArray_toList]at this
  exact this
theorem ZW{l:Addr}{Q:Value->Shared->Prop}(hl:s.heap.IsList l vs.toArray)(hz:vs.length<=sizeLine)
  (hk:2<=vs.length->∀s':Shared,(∀b o,s.heap.get? b=some o->s'.heap.get? b=some o)->∀(E:Value->Shared->Prop) (Q':SortKind->Shared->Prop),Q' κ s'->wpAny (model prog w) A.in1.in1 (keyKind' vs.toArray) Q' E s')
  (hlt:∀s':Shared,(∀b o,s.heap.get? b=some o->s'.heap.get? b=some o)->∀x y,x∈vs->y∈vs->∀Q':Bool->Shared->Prop,Q' (decide (rk x < rk y)) s'->wpAny (model prog w) A.in1.in1 (keyLt' κ x y) Q' (λ_ _=>False) s')
  (h:∀out:List Value,out.Perm vs->out.Pairwise (λx y=>rk x<=rk y)->Q (.ref (s.heap.objs.size+1)) { s with heap:=sortedAll s.heap vs out.toArray }) :
  wpAny (model prog w) A (call (.builtin "sorted") [.ref l]) Q E s:=by
 refine Calls.call_function_entry kind_sorted plain_sorted entry_sorted (args_sorted1 _) ?_
 unfold Builtin.«sorted»
 refine wpAny_bind (m:=checkCount "sorted" 1 1 _) (wpAny_pure ?_)
 refine wpAny_bind (collect_list hl ?_ (hsz:=hz))
 refine wpAny_bind (wpAny_newList ?_ hz)
 have hsz:((s.heap.push (seqObj "list" #[] 0)).update s.heap.objs.size (K2 (·++vs.toArray))).objs.size=s.heap.objs.size+1:=by
  rw[Y7,size_push']
 have hoL:(((s.heap.push (seqObj "list" #[] 0)).update s.heap.objs.size (K2 (·++vs.toArray))).push (seqObj "list" vs.toArray 0)).get? (s.heap.objs.size+1)=some (seqObj "list" vs.toArray 0):=by
  rw[<- hsz];exact L0 _ rfl
 have keep:∀b o,s.heap.get? b=some o->b≠s.heap.objs.size+1/\(((s.heap.push (seqObj "list" #[] 0)).update s.heap.objs.size (K2 (·++vs.toArray))).push (seqObj "list" vs.toArray 0)).get? b=some o:=λb o q=>by
  have hlt:b < s.heap.objs.size:=M0 q
  refine ⟨S0 (O3 hlt),?_⟩
  rw[L6 _ _ _ (by rw[hsz];exact S0 (O3 hlt)),O8 _ _ _ _ (S0 hlt),L6 _ _ _ (S0 hlt)]
  exact q
 show wpAny _ _ _ _ _ { s with heap:=((s.heap.push (seqObj "list" #[] 0)).update s.heap.objs.size (K2 (·++vs.toArray))).push (seqObj "list" vs.toArray 0) }
 rw[hsz]
 refine wpAny_bind (wpAny_holding (wpAny_call_entry slot_list_sort ⟨_,hoL,rfl⟩ entry_list_sort (pK (κ:=κ) (rk:=rk) hoL hz (λh2 s' k Q' q=>hk h2 s' (λb o e=>k b o (keep b o e).1 (keep b o e).2) _ Q' q)
   (λs' k x y hx hy Q' q=>hlt s' (λb o e=>k b o (keep b o e).1 (keep b o e).2) x y hx hy Q' q) λout o1 o2=>⟨_,rfl,?_⟩) (args_list_sort _)))
 exact wpAny_pure ⟨_,rfl,h out o1 o2⟩
end
end L2
namespace SG
structure Wk{α:Type}(lt:α->α->Bool):Prop where
 irr:∀a,lt a a=false
 tr:∀a b c,lt a b=true->lt b c=true->lt a c=true
 nt:∀a b c,lt a b=false->lt b c=false->lt a c=false
theorem rG{α:Type}{p q:α->Bool}:∀{l:List α},(∀a∈l,p a=true->q a=true)->l.countP p<=l.countP q
 | [],_=>B0 _
 | a :: l,h=>by
  have ih:=rG (l:=l) λx hx=>h x (J0 _ hx)
  rw[U6,U6]
  have:=h a G0
  cases hp:p a
  ·simp;omega
  ·rw[this hp];simp;omega
theorem Bj{α:Type}{p q:α->Bool}:∀{l:List α},(∀a∈l,p a=true->q a=true)->(∃a∈l,p a=false/\q a=true)->l.countP p < l.countP q
 | [],_,⟨_,h,_⟩=>by simp at h
 | a :: l,h,⟨x,hx,h1,h2⟩=>by
  rw[U6,U6]
  rcases K0.mp hx with rfl|hx
  ·have:=rG (l:=l) λx hx=>h x (J0 _ hx)
   rw[h1,h2]
   simp
   omega
  ·have ih:=Bj (l:=l) (λx hx=>h x (J0 _ hx)) ⟨x,hx,h1,h2⟩
   have:=h a G0
   cases hp:p a
   ·simp;omega
   ·rw[this hp];simp;omega
theorem rank{α:Type}{lt:α->α->Bool}(W:Wk lt){l:List α}{x y:α}(hx:x∈l)(hy:y∈l):decide (l.countP (λa=>lt a x) < l.countP (λa=>lt a y))=lt x y:=by
 cases h:lt x y
 ·rw[decide_eq_false_iff_not,Nat.not_lt]
  refine rG λa _ ha=>?_
  cases h2:lt a x
  ·rw[W.nt a x y h2 h]at ha;cases ha
  ·rfl
 ·rw[decide_eq_true_eq]
  exact Bj (λa _ ha=>W.tr a x y ha h) ⟨x,hx,W.irr x,h⟩
theorem lex_wk:Wk HT.lexLt:=by
 refine ⟨λa=>?_,λa=>?_,λa=>?_⟩
 ·induction a with
  | nil=>rfl
  | cons x a ih=>rw[HT.lexLt_cons,if_pos rfl];exact ih
 ·induction a with
  | nil =>
   intro b c h1 h2
   cases c with
   | nil=>cases b<;>cases h2
   | cons z c=>rfl
  | cons x a ih =>
   intro b c h1 h2
   cases b with
   | nil=>cases h1
   | cons y b =>
    cases c with
    | nil=>cases h2
    | cons z c =>
     rw[HT.lexLt_cons]at h1 h2 ⊢
     by_cases e1:x=y
     ·subst e1
      rw[if_pos rfl]at h1
      by_cases e2:x=z
      ·subst e2
       rw[if_pos rfl]at h2 ⊢
       exact ih b c h1 h2
      ·rw[if_neg e2]at h2 ⊢;exact h2
     ·rw[if_neg e1]at h1
      have h1:=of_decide_eq_true h1
      by_cases e2:y=z
      ·subst e2
       rw[if_neg e1]
       exact decide_eq_true h1
      ·rw[if_neg e2]at h2
       have h2:=of_decide_eq_true h2
       rw[if_neg (by omega)]
       exact decide_eq_true (by omega)
 ·induction a with
  | nil =>
   intro b c h1 h2
   cases b with
   | nil=>exact h2
   | cons y b=>cases h1
  | cons x a ih =>
   intro b c h1 h2
   cases c with
   | nil=>rfl
   | cons z c =>
    cases b with
    | nil=>cases h2
    | cons y b =>
     rw[HT.lexLt_cons]at h1 h2 ⊢
     by_cases e1:x=y
     ·subst e1
      rw[if_pos rfl]at h1
      by_cases e2:x=z
      ·subst e2
       rw[if_pos rfl]at h2 ⊢
       exact ih b c h1 h2
      ·rw[if_neg e2]at h2 ⊢;exact h2
     ·rw[if_neg e1]at h1
      have h1:=of_decide_eq_false h1
      by_cases e2:y=z
      ·subst e2
       rw[if_neg e1]
       exact decide_eq_false h1
      ·rw[if_neg e2]at h2
       have h2:=of_decide_eq_false h2
       rw[if_neg (by omega)]
       exact decide_eq_false (by omega)
theorem lex_eq:∀{a b:List Int},HT.lexLt a b=false->HT.lexLt b a=false->a=b
 | [],[],_,_=>rfl
 | [],_ :: _,h,_=>by cases h
 | _ :: _,[],_,h=>by cases h
 | x :: a,y :: b,h1,h2=>by
  rw[HT.lexLt_cons]at h1 h2
  by_cases e:x=y
  ·subst e
   rw[if_pos rfl]at h1 h2
   rw[lex_eq h1 h2]
  ·rw[if_neg e]at h1
   rw[if_neg (λz=>e z.symm)]at h2
   have h1:=of_decide_eq_false h1
   have h2:=of_decide_eq_false h2
   omega
theorem sorted_uniq{α:Type}{lt:α->α->Bool}(an:∀a b,lt a b=false->lt b a=false->a=b):∀{l m:List α},l.Perm m->l.Pairwise (λa b=>lt b a=false)->m.Pairwise (λa b=>lt b a=false)->l=m
 | [],m,p,_,_=>by rw[List.nil_perm.mp p]
 | x :: l,[],p,_,_=>by simp at p
 | x :: l,y :: m,p,h1,h2=>by
  have e:x=y:=by
   have hx:x∈y :: m:=p.mem_iff.mp G0
   have hy:y∈x :: l:=p.mem_iff.mpr G0
   rcases K0.mp hx with e|hx
   ·exact e
   ·rcases K0.mp hy with e|hy
    ·exact e.symm
    ·exact an x y ((E3.mp h2).1 x hx) ((E3.mp h1).1 y hy)
  subst e
  rw[sorted_uniq an (List.perm_cons x |>.mp p) (E3.mp h1).2 (E3.mp h2).2]
end SG
namespace L2
open PySem PySem.Spec PyProof.Rows PySem.W
section
variable {X:Cx}{α:Type}[Inhabited α]
noncomputable def PJ(K:q0)(Rep:Hp->Addr->α->Prop)(fn:Hp->V->α)(lt:α->α->Bool):List V->Hp->VK->Prop:=λxs H Q=>∃(a:Addr) (us:List V),xs=[.ref a]/\SqL K H a us/\us.length<=sizeLine /\
 (∀v∈us,∃c x,v=.ref c/\Rep H c x)/\∀(p:Addr) (us':List V),H p=none->us'.Perm us->(us'.map (fn H)).Pairwise (λa b=>lt b a=false)->Q (.ref p) (dX H p (.lst us'))
theorem PD{us:List V}{its:List Value}:∀{out:List Value},out.Perm its->Vals us its->∃us':List V,us'.Perm us/\Vals us' out:=by
 intro out p
 induction p generalizing us with
 | nil=>intro h;exact ⟨us,List.Perm.refl _,h⟩
 | cons x _ ih =>
  intro h
  cases h with
  | cons h t =>
   obtain⟨us',p,r⟩:=ih t
   exact ⟨_,p.cons _,.cons h r⟩
 | swap x y l =>
  intro h
  cases h with
  | cons h1 t=>cases t with|cons h2 t=>exact ⟨_,List.Perm.swap _ _ _,.cons h2 (.cons h1 t)⟩
 | trans _ _ ih1 ih2 =>
  intro h
  obtain⟨u2,p2,r2⟩:=ih2 h
  obtain⟨u1,p1,r1⟩:=ih1 r2
  exact ⟨u1,p1.trans p2,r1⟩
end
section
variable {X:Cx}{α:Type}[Inhabited α]{Rep:Hp->Addr->α->Prop}{fn:Hp->V->α}{lt:α->α->Bool}{κ:SortKind}
theorem RU{c:Addr}{u:Value}(h:RelV (.ref c) u):u=.ref c:=h
noncomputable def sJ(fn:Hp->V->α)(H:Hp):Value->α
 | .ref c=>fn H (.ref c)
 | _=>default
theorem VY(W:SG.Wk lt)(hf:∀H c a,Rep H c a->fn H (.ref c)=a)
  (hkind:∀{pins:List (Addr×Obj)}{s:Shared}{σ:St}{H:Hp},Inv X pins σ H s->∀its:List Value,2<=its.length->(∀u∈its,∃c x,u=.ref c/\Rep H c x)->∀(s':Shared),(∀b o,s.heap.get? b=some o->s'.heap.get? b=some o)->∀(E:Value->Shared->Prop) (Q':SortKind->Shared->Prop),Q' κ s'->wpAny (model X.prog X.w) X.A.in1.in1 (keyKind' its.toArray) Q' E s')
  (hcmp:∀{pins:List (Addr×Obj)}{s:Shared}{σ:St}{H:Hp},Inv X pins σ H s->∀(c d:Addr) (x y:α),Rep H c x->Rep H d y->∀(s':Shared),(∀b o,s.heap.get? b=some o->s'.heap.get? b=some o)->∀Q':Bool->Shared->Prop,Q' (lt x y) s'->wpAny (model X.prog X.w) X.A.in1.in1 (keyLt' κ (.ref c) (.ref d)) Q' (λ_ _=>False) s') :
  TQ X (.builtin "sorted") (PJ X.K Rep fn lt):=by
 intro pins s σ H xs us Q I r h
 obtain⟨a,vs,rfl,hs,hz,hrep,q⟩:=h
 obtain⟨u,rfl,ru⟩:=XX r
 cases ru
 obtain⟨its,rv,⟨o,n,e,c,d1,d2⟩,hz'⟩:=I.list hs
 have hl:=rv.length
 have at':∀u∈its,∃c x,u=.ref c/\Rep H c x:=λu hu=>by
  obtain⟨i,hi,rfl⟩:=j4 hu
  have hi2:i < vs.length:=by omega
  obtain⟨c,x,hv,hr⟩:=hrep _ (Y3 hi2)
  obtain⟨u,hu,ru⟩:=rv.get (A0 hi2)
  rw[hv]at ru
  rw[A0 hi]at hu
  have:its[i]=u:=Q1 hu
  rw[this]
  exact ⟨c,x,RU ru,hr⟩
 have key:∀x∈its,∀y∈its,decide ((its.map (sJ fn H)).countP (λa=>lt a (sJ fn H x)) < (its.map (sJ fn H)).countP (λa=>lt a (sJ fn H y)))=lt (sJ fn H x) (sJ fn H y):=λx hx y hy =>
  SG.rank W (P8 hx) (P8 hy)
 refine ZW (κ:=κ) (rk:=λv=>(its.map (sJ fn H)).countP (λa=>lt a (sJ fn H v))) (vs:=its) ⟨o,e,c,n,by first|exact d2|exact d1⟩ (by omega) (λh2 s' k E' Q' q'=>?_) (λs' k x y hx hy Q' q'=>?_) (λout o1 o2=>?_)
 ·exact hkind I its h2 at' s' k E' Q' q'
 ·rw[key x hx y hy]at q'
  obtain⟨c,x',rfl,hx'⟩:=at' x hx
  obtain⟨d,y',rfl,hy'⟩:=at' y hy
  refine hcmp I c d x' y' hx' hy' s' k Q' ?_
  have e1:sJ fn H (.ref c)=x':=hf H c x' hx'
  have e2:sJ fn H (.ref d)=y':=hf H d y' hy'
  rw[e1,e2]at q'
  exact q'
 ·obtain⟨ep,he⟩:=sortedAll_at s.heap its out.toArray
  have hn:H (s.heap.objs.size+1)=none:=I.hok.fresh (j5 _)
  obtain⟨us',p',r'⟩:=PD o1 rv
  refine ⟨.ref (s.heap.objs.size+1),dX H (s.heap.objs.size+1) (.lst us'),I.laid (t':=s.toks) (λb u e=>sortedAll_old e) (j5 _) ?_,rfl,q _ us' hn p' ?_⟩
  ·exact ⟨by rw[p'.length_eq];exact hz,out,ep,r',by rw[he]⟩
  ·rw[K5,S2]
   intro i j hi hj hij
   have hl':=r'.length
   have o3:=S2.mp o2 i j (by omega) (by omega) hij
   have hxm:out[i]'(by omega)∈its:=o1.mem_iff.mp (Y3 _)
   have hym:out[j]'(by omega)∈its:=o1.mem_iff.mp (Y3 _)
   have k2:=key _ hym _ hxm
   rw[decide_eq_false (Nat.not_lt.mpr o3)]at k2
   have ev:∀(m:Nat) (hm:m < us'.length),fn H us'[m]=sJ fn H (out[m]'(by omega)):=λm hm=>by
    obtain⟨c,x,hv,hr⟩:=hrep _ (p'.mem_iff.mp (Y3 hm))
    obtain⟨u,hu,ru⟩:=r'.get (A0 hm)
    rw[A0 (by omega)]at hu
    have hu:out[m]'(by omega)=u:=Q1 hu
    rw[hv]at ru ⊢
    rw[hu,RU ru]
    rfl
   rw[ev i hi,ev j hj]
   exact k2.symm
end
section
variable {prog:Program}{w:World}{A:Around}{s:Shared}
theorem Kw(b:Bool){n m:Int}{t u:Tok}{Q:Bool->Shared->Prop}{E:Value->Shared->Prop}(h:Q (decide (n < m)) s):wpAny (model prog w) A (oneLt' b (.int n t) (.int m u)) Q E s:=by
 cases b with
 | true=>exact oneLt_int h
 | false=>exact kat_one _ _ (lt_int h)
theorem SU{b:Bool}{Q:Bool->Shared->Prop}:∀{ns ms:List Int}{xs ys:List Value} (i:Nat),IntsAre xs ns->IntsAre ys ms->Q (HT.lexLt ns ms) s->KatLex prog w A b (decide (xs.length < ys.length)) Q (xs.zip ys) i s
 | _,_,_,_,i,.nil,.nil,h=>h
 | _,_,_,_,i,.nil,.cons m u r,h=>h
 | _,_,_,_,i,.cons n t r,.nil,h=>h
 | _,_,_,_,i,.cons (vs:=xs) (ns:=ns) n t r,.cons (vs:=ys) (ns:=ms) m u r',h=>by
  have e:decide ((G6 n t :: xs).length < (G6 m u :: ys).length)=decide (xs.length < ys.length):=by simp
  rw[e]
  rw[HT.lexLt_cons]at h
  show KatLex prog w A b _ Q ((G6 n t,G6 m u) :: xs.zip ys) i s
  refine kat_cons (SeqAt.EqAt.int_int n t m u _ _ _ _ ?_)
  refine kat_go (λq=>kat_yes ?_) (λq=>kat_no ?_)
  ·rw[if_pos (by simpa using q)]at h
   exact SU (i+1) r r' h
  ·rw[if_neg (by simpa using q)]at h
   exact Kw _ h
end
noncomputable def QD(H:Hp)(c:Addr)(r:List Int):Prop:=H c=some (.tup (r.map V.int))/\r≠[]
noncomputable def aU(H:Hp):V->List Int
 | .ref c=>match H c with
  | some (.tup xs)=>xs.map AE
  | _=>[]
 | _=>[]
theorem GV(H:Hp)(c:Addr)(r:List Int)(h:QD H c r):aU H (.ref c)=r:=by
 show (match H c with|some (.tup xs)=>xs.map AE|_=>[])=r
 rw[h.1]
 exact pJ r
theorem sG{X:Cx}:TQ X (.builtin "sorted") (PJ X.K QD aU HT.lexLt):=by
 refine VY (κ:=tuples' true) SG.lex_wk GV (λ{pins s σ H} I its h2 at' s' k E' Q' q'=>?_) (λ{pins s σ H} I c d x y hx hy s' k Q' q'=>?_)
 ·have gen:∀(l:List Value),(∀v∈l,∃(c:Addr) (r:List Int),v=.ref c/\QD H c r)->∃fs:List Value,KatTups s'.heap l fs/\fs.length=l.length/\∀v∈fs,Looks (model X.prog X.w) s'.heap (typeOf v) (.type "int"):=by
   intro l
   induction l with
   | nil=>intro _;exact ⟨[],.nil,rfl,λv hv=>by simp at hv⟩
   | cons v l ih =>
    intro hl
    obtain⟨fs,f1,f2,f3⟩:=ih λx hx=>hl x (J0 _ hx)
    obtain⟨c,r,rfl,hc,hr⟩:=hl v G0
    obtain⟨_,itc,rc,ob,e1,e2,m,e3,_⟩:=(show ObjOk X.prog X.w H s.heap c (.tup (r.map V.int)) from I.hok c _ hc)
    cases r with
    | nil=>exact absurd rfl hr
    | cons n r =>
     rw[Z1]at rc
     cases rc with
     | cons h1 rc =>
      obtain⟨t,rfl⟩:=h1
      refine ⟨.int n t :: fs,.cons (k _ _ e1) e2 e3 rfl f1,by simp[f2],λv hv=>?_⟩
      rcases K0.mp hv with rfl|hv
      ·exact Looks.of_pure rfl
      ·exact f3 v hv
  obtain⟨fs,f1,f2,f3⟩:=gen its at'
  exact kat_kind (T:=.type "int") f1 (by omega) f3 (by decide) q'
 ·obtain⟨_,ic,rc,oc,c1,c2,m1,c3,_⟩:=(show ObjOk X.prog X.w H s.heap c (.tup (x.map V.int)) from I.hok c _ hx.1)
  obtain⟨_,id',rd,od,d1,d2,m2,d3,_⟩:=(show ObjOk X.prog X.w H s.heap d (.tup (y.map V.int)) from I.hok d _ hy.1)
  refine kat_lt (k _ _ c1) c3 (k _ _ d1) d3 ?_
  have:=SU (prog:=X.prog) (w:=X.w) (A:=X.A.in1.in1) (s:=s') (b:=true) (Q:=Q') 0 (lX rc) (lX rd) q'
  simpa using this
end L2
namespace L3
open PySem PySem.Spec PyProof.Rows L2
noncomputable def rB:D->(Sl->Prop)->Prop
 | .list ds,Q=>∃rows:List (List Int),ds=rows.map (λr=>.tuple (r.map j0))/\rows.length<=sizeLine/\(∀r∈rows,r≠[])/\∀rows':List (List Int),rows'.Perm rows->rows'.Pairwise (λa b=>HT.lexLt b a=false)->Q (.ow (.list (rows'.map λr=>.tuple (r.map j0))))
 | _,_=>False
theorem DaAll.mem{K:Fg}{F:Hp}:∀{us:List V}{ds:List D},DaAll K F us ds->∀v∈us,∃d∈ds,Da K F v d
 | _,_,.nil,v,h=>by simp at h
 | _,_,.cons a t,v,h=>by
  rcases K0.mp h with rfl|h
  ·exact ⟨_,G0,a⟩
  ·obtain⟨d,h1,h2⟩:=DaAll.mem t v h
   exact ⟨d,J0 _ h1,h2⟩
theorem DaAll.map_of{K:Fg}{F:Hp}{f:V->D}:∀{us:List V},(∀v∈us,Da K F v (f v))->DaAll K F us (us.map f)
 | [],_=>.nil
 | v :: us,h=>.cons (h v G0) (DaAll.map_of λx hx=>h x (J0 _ hx))
theorem DaAll.map_eq{K:Fg}{F:Hp}{α:Type}{g:α->D}{f:V->α}(hg:∀v a,Da K F v (g a)->f v=a):∀{us:List V}{as:List α},DaAll K F us (as.map g)->us.map f=as
 | [],[],_=>rfl
 | _ :: _,[],h=>by cases h
 | [],_ :: _,h=>by cases h
 | v :: us,a :: as,h=>by
  cases h with
  | cons h t=>rw[Z1,hg v a h,DaAll.map_eq hg t]
theorem HV{K:Fg}{F:Hp}{v:V}{r:List Int}(h:Da K F v (.tuple (r.map j0))):∃c,v=.ref c/\F c=some (.tup (r.map V.int)):=by
 cases h with
 | tup h t =>
  have:=t.ints_of
  subst this
  exact ⟨_,rfl,h⟩
theorem TU{K:Fg}:WQ K (PJ K QD aU HT.lexLt) (o1 rB):=xH λG F σ H ρ x d Q Qd R h1 w k=>by
 cases d<;>first|exact w.elim|skip
 case list ds =>
  obtain⟨rows,e,hz,hne,w⟩:=w
  subst e
  obtain⟨a,us,rfl,e1,d1⟩:=h1.list R.sub
  have hl:=d1.length
  rw[p0]at hl
  have hrep:∀v∈us,∃c r,v=.ref c/\QD F c r/\r∈rows:=λv hv=>by
   obtain⟨d,hd,dv⟩:=d1.mem v hv
   obtain⟨r,hr,rfl⟩:=T0.mp hd
   obtain⟨c,rfl,hc⟩:=HV dv
   exact ⟨c,r,rfl,⟨hc,hne r hr⟩,hr⟩
  have hfe:∀v∈us,aU H v=aU F v:=λv hv=>by
   obtain⟨c,r,rfl,hc,_⟩:=hrep v hv
   rw[GV F c r hc,GV H c r ⟨R.sub _ _ hc.1,hc.2⟩]
  refine ⟨a,us,rfl,SqL.of e1,by omega,λv hv=>?_,λp us' hp p' o'=>?_⟩
  ·obtain⟨c,r,rfl,hc,_⟩:=hrep v hv
   exact ⟨c,r,rfl,R.sub _ _ hc.1,hc.2⟩
  ·have em:us.map (aU F)=rows:=by
    refine DaAll.map_eq (K:=K) (F:=F) (g:=λr:List Int=>W1 (r.map j0)) (λv a h=>?_) d1
    obtain⟨c,rfl,hc⟩:=HV h
    show (match F c with|some (.tup xs)=>xs.map AE|_=>[])=a
    rw[hc]
    exact pJ a
   have ee:us'.map (aU H)=us'.map (aU F):=K4 λv hv=>hfe v (p'.mem_iff.mp hv)
   rw[ee]at o'
   have dall:DaAll K F us' ((us'.map (aU F)).map λr=>W1 (r.map j0)):=by
    rw[B1]
    refine DaAll.map_of λv hv=>?_
    obtain⟨c,r,rfl,hc,_⟩:=hrep v (p'.mem_iff.mp hv)
    show Da K F (.ref c) (.tuple ((aU F (.ref c)).map j0))
    rw[GV F c r hc]
    exact .tup hc.1 (DaAll.ints r)
   obtain⟨R',r'⟩:=R.newOw (o:=.lst us') (d:=.list _) hp dall
   exact k _ _ F _ (Sub.refl _) R' r' (w _ (by rw[<- em];exact p'.map _) o')
theorem RK{X:Cx}{K:Fg}(h:X.K=K):TQ X (.builtin "sorted") (PJ K QD aU HT.lexLt):=by subst h;exact sG
end L3
namespace L2
open PySem PySem.Spec PyProof.Rows
theorem Cj{P:Program}{w:World}{A:Around}(hh:A.handled=none){k:Kd}{it l:Addr}(ne:l≠it){xs:Array Value} :
  Draws P w A it [it,l] xs.size (λi x=>xs[i]?=some x) (λi h=>ItAt k h it l i/\SqAt k h l xs) where
 live:=λi h st=>by obtain⟨o,e,_⟩:=st.1.obj;exact ⟨o,e⟩
 frame:=λi h h' st kp=>⟨st.1.at λo e=>kp it (by simp) o e,st.2.at λo e=>kp l (by simp) o e⟩
 item:=λi s Q E hi st hQ=>by
  refine nZ st.1 st.2 (B3 hi) λh' t' s'=>?_
  exact hQ _ h' s.toks (B3 hi) ⟨t',st.2.at λo e=>(s'.2 l ne).trans e⟩ s'
 done:=λs Q E st hE=>NZ hh st.1 st.2 (by simp) hE
noncomputable def uM(K:q0)(k:Kd)(l:Addr):It :=
 ⟨λi H=>∃ys x,Sq k K H l ys/\ys[i]?=some x,
  λi H x H'=>∃T y,H T=none/\x=.ref T/\H'=dX H T (.tup [.int (i:Nat),y])/\∀ys,Sq k K H l ys->ys[i]?=some y,
  λi H=>∃ys,Sq k K H l ys/\ys.length<=i⟩
theorem RD{P:Program}{w:World}{K:q0}{es:List Expr}{kk:Nat}{pos:Pos}(k:Kd)(e it l:Addr)(ne:e≠it)(nl:l≠it)(nel:e≠l):Turn P w K (.Tuple es kk pos) (uM K k l) [e,it] e
  (λi h=>(∃old,IsEnum h e it (i:Nat) old)/\ItAt k h it l i) where
 mem:=by simp
 obj:=λi h st b hb=>by
  obtain⟨⟨old,he⟩,t⟩:=st
  have hb:b=e\/b=it:=by simpa using hb
  rcases hb with rfl|rfl
  ·exact ⟨_,he,λv e=>by cases e⟩
  ·exact t.obj
 keep:=λi h h' st kp=>by
  obtain⟨⟨old,he⟩,t⟩:=st
  exact ⟨⟨old,kp _ (by simp) _ he⟩,t.at λo e=>kp _ (by simp) _ e⟩
 item:=by
  intro X hP hw hK hc i pins s σ H E I hf st hg
  subst hP hw hK
  obtain⟨⟨old,he⟩,t⟩:=st
  obtain⟨ys,y,q1,e1⟩:=hg
  obtain⟨its,rv,p1,z1⟩:=I.sq q1
  obtain⟨u,hu,ru⟩:=rv.get e1
  have hh:X.A.in1.handled=none:=I.ok.hd hc
  have hlt:i < its.toArray.size:=by
   have:=(O1.mp hu).1
   simpa using this
  refine wpAny_pyNext_enum_itemD (Cj hh nl (k:=k) (xs:=its.toArray)) he ⟨t,p1⟩ hlt ne (by simp[ne,nel]) λx h' tk hx b1 b2 b3 b4 b5=>?_
  have hx:x=u:=by
   rw[show its.toArray[i]?=some u by simpa using hu]at hx
   exact (Q1 hx).symm
  subst hx
  have hTn:s.heap.objs.size≠e:=W2 (M0 he)
  refine ⟨_,rfl,wpAny_letOwnedTupleGo_enum (s:={ s with heap:=h',toks:=tk+1 }) b1 λh2 he2 hs2=>?_⟩
  have kp:∀b o,b∉[e,it]->s.heap.get? b=some o->h2.get? b=some o:=λb o hb eb=>by
   have hb:b≠e/\b≠it:=by simpa using hb
   exact hs2.extBut _ _ hb.1 (b5 b o hb.1 hb.2 eb)
  have hT2:VQ h2 s.heap.objs.size (.int (i:Nat) tk) x:=hs2.extBut _ _ hTn b3
  have hfr:H s.heap.objs.size=none:=I.hok.fresh (B0 _)
  have I2:Inv X pins σ (dX H s.heap.objs.size (.tup [.int (i:Nat),y])) { s with heap:=h2 }:=by
   have nfp:∀b u,H b=some u->b∉[e,it]:=λb u eb hb=>by have:=(hf b hb).1;rw[eb]at this;cases this
   refine I.step (g':=s.gens) (d':=s.drawn) (ch:=[e,it]) (λb hb=>?_) (λb o _ _ hc' eb _=>kp b o hc' eb) (λb o _ _ hc' eb _=>⟨o.slots,kp b o hc' eb⟩) (λb o _ eb n=>?_)
    (λb o hc' eb=>⟨o,kp b o hc' eb⟩) (λb xs eb=>?_) (λb o xs eb=>?_) (λb ps eb=>⟨#[],?_⟩) (λm hm=>?_) (λb o eb=>?_) I.bare
   ·obtain⟨f0,f1,f2,f3,f4,f5⟩:=hf b hb
    exact ⟨f3,f1,f4,f5⟩
   ·rw[oQ (S0 (M0 eb))];exact n
   ·rw[oQ (pQ eb hfr)];exact eb
   ·rw[oQ (pQ eb hfr)];exact eb
   ·rw[oQ (pQ eb hfr),eb];simp
   ·obtain⟨o,es',ep,ho,r⟩:=hm
    exact ⟨o,es',ep,kp _ o (λhb=>(hf _ hb).2.1 rfl) ho,r⟩
   ·by_cases hb:b=s.heap.objs.size
    ·subst hb
     rw[JQ]at eb
     cases eb
     exact ⟨by show 2<=sizeLine;decide,[.int (i:Nat) tk,x],.cons ⟨tk,rfl⟩ (.cons ru .nil),_,hT2,rfl,_,rfl,rfl⟩
    ·rw[oQ hb]at eb
     refine (I.hok b o eb).stay (λc v hc' q=>kp c v ?_ q) (λc q=>by rw[oQ (pQ q hfr)];exact q) λc xs q=>by rw[oQ (pQ q hfr)];exact q
     rcases hc' with rfl|hc'
     ·exact nfp _ _ eb
     ·exact nfp _ _ hc'
  refine ⟨.ref s.heap.objs.size,_,I2.tok (tk+1),rfl,⟨_,y,hfr,rfl,rfl,λys' hy=>by rw[I.sq_inj hy q1];exact e1⟩,⟨⟨x,by simpa using he2⟩,b2.1.at λo eo=>hs2.extBut _ _ (m4 ne) eo⟩,λb hb=>?_⟩
  rw[oQ ?_]
  ·exact (hf b hb).1
  ·intro z
   subst z
   have hb:s.heap.objs.size=e\/s.heap.objs.size=it:=by simpa using hb
   rcases hb with z|z
   ·exact hTn z
   ·obtain⟨o,eo,_⟩:=t.obj
    exact W2 (M0 eo) z
 done:=by
  intro X hP hw hK hc i pins s σ H E I hf st hg
  subst hP hw hK
  obtain⟨⟨old,he⟩,t⟩:=st
  obtain⟨ys,q1,hend⟩:=hg
  obtain⟨its,rv,p1,z1⟩:=I.sq q1
  have hlen:=rv.length
  have hh:X.A.in1.handled=none:=I.ok.hd hc
  have hT:s.TypeIs (.ref e) "enumerate":=⟨_,he,rfl⟩
  unfold pyNext
  refine wpAny_bind (wpAny_attempt (wpAny_callSpecial?_slot (name:=Str.ofString "__next__") hT F.slot_enumerate_next (wpAny_call_entry F.slot_enumerate_next hT F.entry_enumerate_next ?_ (F.args_enumerate_next_1 _))))
  show wpAny _ _ (field (.ref e) 2 >>= _) _ _ _
  refine wpAny_bind (wpAny_field he rfl (x:=.ref it) rfl ?_)
  refine wpAny_bind (NZ hh t p1 (by simp;omega) λh' x kp hx'=>?_)
  obtain⟨o,ho,hcl⟩:=hx'
  refine wpAny_bind (wpAny_isInstance (T:="StopIteration") (b:=true) ⟨o,ho,hcl⟩ isSubtype_stop ?_)
  refine wpAny_pure ⟨rfl,?_⟩
  have nfp:∀b u,H b=some u->b∉[e,it]:=λb u eb hb=>by have:=(hf b hb).1;rw[eb]at this;cases this
  have kp':∀b o,b∉[e,it]->s.heap.get? b=some o->h'.get? b=some o:=λb o hb eb=>by
   have hb:b≠e/\b≠it:=by simpa using hb
   exact kp b o hb.2 eb
  refine I.step (g':=s.gens) (d':=s.drawn) (ch:=[e,it]) (λb hb=>?_) (λb o _ _ hc' eb _=>kp' b o hc' eb) (λb o _ _ hc' eb _=>⟨o.slots,kp' b o hc' eb⟩) (λb o _ eb n=>n)
   (λb o hc' eb=>⟨o,kp' b o hc' eb⟩) (λb xs eb=>eb) (λb o xs eb=>eb) (λb ps eb=>⟨#[],by rw[eb];simp⟩) (λm hm=>?_) (λb o eb=>?_) I.bare
  ·obtain⟨f0,f1,f2,f3,f4,f5⟩:=hf b hb
   exact ⟨f3,f1,f4,f5⟩
  ·obtain⟨o,es',ep,ho,r⟩:=hm
   exact ⟨o,es',ep,kp' _ o (λhb=>(hf _ hb).2.1 rfl) ho,r⟩
  ·refine (I.hok b o eb).stay (λc v hc' q=>kp' c v ?_ q) (λ_ q=>q) λ_ _ q=>q
   rcases hc' with rfl|hc'
   ·exact nfp _ _ eb
   ·exact nfp _ _ hc'
 self:=λ_ _ _ _ _ st h=>by obtain⟨⟨old,he⟩,_⟩:=st;exact wpAny_pyIter_enum he h
noncomputable abbrev XE(h:Heap)(k:Kd)(l:Addr):Heap:=(h.push (jZ k l)).push { cls:=.type "enumerate",data:=.fields #[.none,.bool false,.ref h.objs.size,rawInt 0,.none,.none] }
theorem Dj(k:Kd)(l:Addr)(xs:Array Value) :
  Meets (Builtin.«enumerate.__new__» ⟨[.type "enumerate",.ref l],[]⟩) (λ_ R s=>SqAt k s.heap l xs/\R (.ok (.ret (.ref (s.heap.push (jZ k l)).objs.size))) { s with heap:=XE s.heap k l }) :=
 .of_wp λprog w A R s h=>by
  obtain⟨hp,g,d,tk,os⟩:=s;obtain⟨hl,h⟩:=h
  have hsub:=sub_enumerate
  have hL:SqAt k (Shared.heap ⟨hp,g,d,tk,os⟩) l xs:=hl
  obtain⟨o,ho⟩:∃o,hp.get? l=some o:=by cases k<;>(obtain⟨o,eo,_⟩:=hl;exact ⟨o,eo⟩)
  wp_walk using AutoSeq1.wpAny_loadPart' ho
  refine wpAny_stack_any λst=>wpAny_pure ?_
  split
  ·rename_i c _ _ _ _ _
   cases (c==M5 "enumerate")
   ·wp_walk using AutoSeq1.wpAny_loadPart' ho,bK hL
    exact ⟨_,rfl,h⟩
   ·wp_walk using AutoSeq1.wpAny_loadPart' ho,bK hL
    exact ⟨_,rfl,h⟩
  ·wp_walk using AutoSeq1.wpAny_loadPart' ho,bK hL
   exact ⟨_,rfl,h⟩
noncomputable def sy(K:q0)(ta:TA):TI:=λσ H R=>ta σ H λvs H1=>∃(k:Kd) (l:Addr) (ys:List V),vs=[.ref l]/\Sq k K H1 l ys/\R (uM K k l) H1
theorem Lw{X:Cx}{es:List Expr}{kk:Nat}{tpos:Pos}{a:Expr}{ta:TA}{p pos:Pos}(hg:Gl X "enumerate")(hm:X.mg "enumerate"=none)(ha:PA X [a] ta)(hs:starEach [a] X.env=(false,eval a X.env) :: starEach [] X.env:=by rfl)(hpl:(backTo pos (starEach [] X.env)).any (·.1)=false:=by rfl) :
  PI X (.Tuple es kk tpos) (.Call (.Name "enumerate" p) [a] [] pos) (sy X.K ta):=by
 intro pins s σ H R I h
 refine Call_ (wK I hg hm boot_enumerate (i5 (pX (ha pos pins s σ H _ I h) λus s1 ⟨vs,H1,I1,r1,q1⟩=>?_) hs hpl))
 obtain⟨k,l,ys,e,q1,q⟩:=q1
 subst e
 obtain rfl:us=[.ref l]:=by cases r1 with|cons r rr=>cases r;cases rr;rfl
 obtain⟨its,rv,p1,z1⟩:=I1.sq q1
 have lt:l < s1.heap.objs.size:=by
  cases k with
  | l=>obtain⟨o,e,_⟩:=p1;exact M0 e
  | t=>obtain⟨o,e,_⟩:=p1;exact M0 e
 refine callType_new F.called_enumerate (by decide) (F.typeCall_enumerate_1 _) (F.newCall_enumerate_1 _) (λobj=>F.args_object_init_2 obj _) F.entry_enumerate_new (Dj k l its.toArray) ⟨p1,?_⟩
 have zI:(s1.heap.push (jZ k l)).objs.size=s1.heap.objs.size+1:=by simp[Y2]
 have gE:(XE s1.heap k l).get? (s1.heap.push (jZ k l)).objs.size=some _:=L0 _ rfl
 have g1:(XE s1.heap k l).get? s1.heap.objs.size=some (jZ k l):=n0 _ (L0 _ (by cases k<;>rfl))
 rw[zI]at gE
 show _/\_
 rw[zI]
 have kp:∀b o,s1.heap.get? b=some o->(XE s1.heap k l).get? b=some o:=λb o e=>n0 _ (n0 _ e)
 refine ⟨⟨_,gE,rfl⟩,wpAny_pyIter_enum (s:={ s1 with heap:=XE s1.heap k l }) gE ?_⟩
 have n1:(s1.heap.objs.size+1:Nat)≠s1.heap.objs.size:=by omega
 have n2:l≠s1.heap.objs.size:=S0 lt
 have n3:(s1.heap.objs.size+1:Nat)≠l:=W2 (O3 lt)
 refine ⟨_,[s1.heap.objs.size+1,s1.heap.objs.size],_,_,H1,rfl,I1.kept (t':=s1.toks) kp,RD k _ _ l n1 n2 n3,⟨⟨_,gE⟩,ItAt.new k g1⟩,λb hb=>?_,q⟩
 have hb:s1.heap.objs.size<=b:=by
  have hb:b=s1.heap.objs.size+1\/b=s1.heap.objs.size:=by simpa using hb
  rcases hb with rfl|rfl
  ·exact X7 _ _
  ·exact B0 _
 exact I1.fpOk hb (I1.hok.fresh hb)
end L2
namespace L3
open PySem PySem.Spec PyProof.Rows L2
noncomputable def tJ(ds:List D):List D:=ds.zipIdx.map λp=>W1 [.int (p.2:Nat),p.1]
noncomputable def Ej(a:AD):pF:=λρ Q=>AX [a] ρ λxs ρ1=>match mX ρ1 xs with
 | false=>gX ρ1 xs λds=>match ds with
  | [x]=>match Tk x with
   | some us=>Q (tJ us) ρ1
   | _=>False
  | _=>False
 | true=>False
theorem tG{K:Fg}{F:Hp}{a:Addr}{k1:Kd}{xs:List V}{ds:List D}(e1:F a=some (match k1 with|Kd.l=>HO.lst xs|Kd.t=>HO.tup xs))(h1:DaAll K F xs ds):Walks K (uM K k1 a) F (tJ ds):=λi H F1 s1 s2=>by
 have q1:Sq k1 K H a xs:=RW (s2 _ _ (s1 _ _ e1))
 refine ⟨λd ed=>?_,λhl=>⟨xs,q1,?_⟩⟩
 ·simp only[tJ,R0,Z4]at ed
  obtain⟨⟨x,j⟩,ez,rfl⟩:=ed
  rw[L8,Z4]at ez
  obtain⟨x',ex,ep⟩:=ez
  cases ep
  obtain⟨v,g1,g2⟩:=h1.get ex
  refine ⟨⟨xs,v,q1,g1⟩,λz H' ⟨T,y,hT,ex,eH,f1⟩=>?_⟩
  subst ex eH
  have f1:=f1 xs q1
  rw[g1]at f1;cases f1
  have fT:F1 T=none:=by
   cases z:F1 T with
   | none=>rfl
   | some o=>rw[s2 _ _ z]at hT;cases hT
  refine ⟨dX F1 T (.tup [.int (i:Nat),v]),Sub.new fT,λc o ec=>?_,λc o ec=>?_,Sub.new hT,.tup JQ (.cons (by rw[j6];exact .int _) (.cons (g2.mono (s1.trans (Sub.new fT))) .nil))⟩
  ·by_cases z:c=T
   ·subst z;exact .inr hT
   ·rw[oQ z]at ec;exact .inl ec
  ·by_cases z:c=T
   ·subst z;rw[JQ]at ec ⊢;exact ec
   ·rw[oQ z]at ec ⊢;exact s2 _ _ ec
 ·simp only[tJ,p0,B6]at hl
  rw[h1.length]
  omega
theorem sB{K:Fg}{a:AD}{σ:L2.St}{H:Hp}{R:It->Hp->Prop}(h:FX K (Ej a) σ H R):sy K (DQ ([a].map (qQ K))) σ H R:=by
 obtain⟨G,F,ρ,Qd,Rl,w,k⟩:=h
 refine EX Rl w λvs H' F' xs ρ' sb R' o w1=>?_
 split at w1
 ·rename_i e
  obtain⟨ds,da,w1⟩:=xX R' e o w1
  split at w1
  ·rename_i x
   split at w1
   ·rename_i us p1
    cases da with
    | cons d1 t =>
     cases t
     obtain⟨k1,a1,us',rfl,e1,g1⟩:=wV d1 p1
     exact ⟨k1,a1,us',rfl,RW (R'.sub _ _ e1),k _ H' F' _ ρ' sb R' (tG e1 g1) w1⟩
   ·exact w1.elim
  ·exact w1.elim
 ·exact w1.elim
section
variable {X:Cx}{K:Fg}{e1:Expr}{a:AD}{p pos tpos:Pos}
theorem Fj{ts:List Expr}{kk:Nat}(hK:X.K=K)(hm:X.mg "enumerate"=none)(ha:WA X [e1] (DQ ([a].map (qQ K))))(hg:Gl X "enumerate":=by rfl)(he:KQ e1=true:=by rfl):WI X (.Tuple ts kk tpos) (.Call (.Name "enumerate" p) [e1] [] pos) (FX K (Ej a)):=by
 subst hK
 exact ⟨nL (Lw hg hm ha.h (rQ he) (by rfl)) sB⟩
end
end L3
namespace L2
open PySem PySem.Spec PyProof.Rows
end L2
namespace L3
open PySem PySem.Spec PyProof.Rows L2
theorem MQ{t u:HJ}{E:DE}{ρ:Ev}(J:Ev->Prop)(h1:∀N:Ev->Prop,(∀ρ',J ρ'->N ρ')->t { nx:=N,rt:=E.rt,bk:=E.bk,ct:=E.ct } ρ)(h2:∀ρ',J ρ'->u E ρ'):yz t u E ρ:=h1 _ h2
theorem rC{i:Nat}{d:D}{ρ:Ev}{Q:Ev->Prop}(h:t9 i d ρ Q=Q (ρ.set i (some (.fz d))))(w:Q (ρ.set i (some (.fz d)))):t9 i d ρ Q:=by rw[h];exact w
end L3
namespace L2
open PySem
noncomputable def bU(xs:Array Nat):Prop:=∀a b,a < b->b < xs.size->∀d,xs.getD a d < xs.getD b d
theorem JF{xs:Array Nat}{i d d':Nat}(h:i < xs.size):xs.getD i d=xs.getD i d':=by
 simp[x6,h]
theorem IV(xs:Array Nat)(j:Nat)(R:bU xs):∀(fuel lo hi:Nat),hi - lo<=fuel->lo<=hi->hi<=xs.size->(∀i,i < lo->xs.getD i j < j)->(∀i,hi<=i->i < xs.size->¬xs.getD i j < j) ->
  SetTable.below.go xs j fuel lo hi<=xs.size/\(∀i,i < SetTable.below.go xs j fuel lo hi->xs.getD i j < j)/\∀i,SetTable.below.go xs j fuel lo hi<=i->i < xs.size->¬xs.getD i j < j
 | 0,lo,hi,hf,hl,hh,h1,h2=>by
  have:lo=hi:=by omega
  subst this
  exact ⟨hh,h1,h2⟩
 | fuel+1,lo,hi,hf,hl,hh,h1,h2=>by
  unfold SetTable.below.go
  by_cases hlt:lo < hi
  ·rw[if_pos hlt]
   dsimp only
   by_cases hm:xs.getD ((lo+hi) / 2) j < j
   ·rw[if_pos hm]
    refine IV xs j R fuel _ hi (by omega) (by omega) hh (λi hi'=>?_) h2
    by_cases e:i=(lo+hi) / 2
    ·rw[e];exact hm
    ·have:=R i ((lo+hi) / 2) (by omega) (by omega) j
     omega
   ·rw[if_neg hm]
    refine IV xs j R fuel lo _ (by omega) (by omega) (by omega) h1 (λi hi' hs=>?_)
    by_cases e:i=(lo+hi) / 2
    ·rw[e];exact hm
    ·have:=R ((lo+hi) / 2) i (by omega) hs j
     omega
  ·rw[if_neg hlt]
   have:lo=hi:=by omega
   subst this
   exact ⟨hh,h1,h2⟩
theorem QJ{xs:Array Nat}(R:bU xs)(j:Nat):SetTable.below xs j<=xs.size/\(∀i,i < SetTable.below xs j->xs.getD i j < j)/\∀i,SetTable.below xs j<=i->i < xs.size->¬xs.getD i j < j :=
 IV xs j R xs.size 0 xs.size (by omega) (M4 _) (B0 _) (λi h=>absurd h (A8 _)) (λi h1 h2=>absurd h2 (by omega))
theorem uG{xs:Array Nat}(R:bU xs){i:Nat}(h:i < xs.size):SetTable.below xs (xs.getD i 0+1)=i+1:=by
 obtain⟨h1,h2,h3⟩:=QJ R (xs.getD i 0+1)
 have a1:¬SetTable.below xs (xs.getD i 0+1)<=i:=λz=>by
  have:=h3 i z h
  rw[JF (d':=0) h]at this
  omega
 by_cases z:i+1 < SetTable.below xs (xs.getD i 0+1)
 ·have b1:=h2 (i+1) z
  have b2:=R i (i+1) (by omega) (by omega) 0
  rw[JF (d':=0) (by omega)]at b1
  omega
 ·omega
theorem vG{xs:Array Nat}(R:bU xs):SetTable.below xs 0=0:=by
 obtain⟨h1,h2,h3⟩:=QJ R 0
 by_cases z:0 < SetTable.below xs 0
 ·exact absurd (h2 0 z) (A8 _)
 ·omega
theorem ris_iff{xs:Array Nat}:bU xs ↔ xs.toList.Pairwise (· < ·):=by
 rw[S2]
 constructor
 ·intro R i j hi hj hij
  have:=R i j hij (by simpa using hj) 0
  simpa [x6,show i < xs.size by simpa using hi,show j < xs.size by simpa using hj]using this
 ·intro P a b hab hb d
  have ha:a < xs.size:=by omega
  have:=P a b (by simpa using ha) (by simpa using hb) hab
  simpa [x6,ha,hb]using this
theorem wG{xs:Array Nat}(R:bU xs){j:Nat}(hj:xs[SetTable.below xs j]?≠some j):bU (SetTable.insertAt xs (SetTable.below xs j) j):=by
 obtain⟨h1,h2,h3⟩:=QJ R j
 have P:=ris_iff.mp R
 rw[ris_iff,SetTable.toList_insertAt]
 have e:xs.toList.take (SetTable.below xs j)++xs.toList.drop (SetTable.below xs j)=xs.toList:=M3 _ _
 rw[<- e,u3]at P
 obtain⟨p1,p2,p3⟩:=P
 have lo:∀a∈xs.toList.take (SetTable.below xs j),a < j:=λa ha=>by
  obtain⟨i,hi,rfl⟩:=W6.mp ha
  rw[E1]at hi
  have:=h2 i (by omega)
  rw[N7]
  simpa [x6,show i < xs.size by simp at hi;omega]using this
 have hi':∀a∈xs.toList.drop (SetTable.below xs j),j < a:=λa ha=>by
  obtain⟨i,hi,rfl⟩:=W6.mp ha
  rw[P1]at hi
  have hs:SetTable.below xs j+i < xs.size:=by simp at hi;omega
  have:=h3 (SetTable.below xs j+i) (by omega) hs
  rw[M7]
  have g:xs.getD (SetTable.below xs j+i) j=xs.toList[SetTable.below xs j+i]'(by simpa using hs):=by simp[x6,hs]
  rw[g]at this
  by_cases z:xs.toList[SetTable.below xs j+i]'(by simpa using hs)=j
  ·exfalso
   by_cases i0:i=0
   ·subst i0
    apply hj
    rw[B3 (by simpa using hs)]
    simpa using z
   ·have r:=R (SetTable.below xs j) (SetTable.below xs j+i) (by omega) hs j
    have:=h3 (SetTable.below xs j) (B0 _) (by omega)
    rw[g,z]at r
    exact this r
  ·omega
 rw[u3]
 refine ⟨p1,E3.mpr ⟨hi',p2⟩,λa ha b hb=>?_⟩
 rcases K0.mp hb with rfl|hb
 ·exact lo a ha
 ·exact p3 a ha b hb
noncomputable def NL(t:SetTable)(j:Nat):Prop:=t.place[SetTable.below t.place j]?≠some j
theorem KF{t:SetTable}{j:Nat}(h:∀i,t.slot j≠.live i):NL t j:=λz=>by
 unfold SetTable.slot at h
 dsimp only at h
 rw[if_pos (by rw[z];simp)]at h
 exact h _ rfl
theorem DJ(t:SetTable)(p:SetTable.Probe):(t.advance p).dummy=p.dummy:=by
 unfold SetTable.advance
 split<;>rfl
theorem WY(t:SetTable)(ha:Nat->Int)(h:Int):∀(fuel:Nat) (p:SetTable.Probe),(∀d,p.dummy=some d->NL t d)->∀j dm,SetTable.probe.go t ha h fuel p=some (.empty j dm)->NL t j/\∀d,dm=some d->NL t d
 | 0,p,_,j,dm,e=>by cases e
 | fuel+1,p,hp,j,dm,e=>by
  unfold SetTable.probe.go at e
  cases hs:t.slot p.j with
  | empty =>
   rw[hs]at e
   cases e
   exact ⟨KF (λi z=>by rw[hs]at z;cases z),hp⟩
  | dummy =>
   rw[hs]at e
   refine WY t ha h fuel _ (λd hd=>?_) j dm e
   rw[DJ]at hd
   cases hd
   exact KF λi z=>by rw[hs]at z;cases z
  | live i =>
   rw[hs]at e
   dsimp only at e
   split at e
   ·cases e
   ·exact WY t ha h fuel _ (λd hd=>by rw[DJ]at hd;exact hp d hd) j dm e
theorem Mw{t:SetTable}{h:Int}{j:Nat}{wd:Bool}(e:t.freeSlot h=some (j,wd)):NL t j:=by
 unfold SetTable.freeSlot at e
 split at e
 ·rename_i j' dm hp
  have:=WY t _ h _ _ (λd hd=>by cases hd) j' dm hp
  cases e
  cases dm with
  | none=>exact this.1
  | some d=>exact this.2 d rfl
 ·cases e
theorem pZ(t:SetTable)(n:Nat):bU (t.standIn n).place:=by
 show bU (Array.range n)
 rw[ris_iff,Array.toList_range]
 exact t8
theorem vW{t:SetTable}{n:Nat}(R:bU t.place):bU (t.orStandIn n).place:=by
 unfold SetTable.orStandIn
 split
 ·exact R
 ·exact pZ t n
theorem xG{t:SetTable}{es:Array (Int×Value)}{h:Int}{x:Value}(R:bU t.place):bU (layNew t es h x).2.1.place:=by
 unfold layNew
 cases e:t.freeSlot h with
 | none=>exact pZ t _
 | some p =>
  obtain⟨j,wd⟩:=p
  exact vW (wG R (Mw e))
theorem Gj{mask finger moves:Nat}{led plain:Bool}{hs:Array Int}{t:SetTable}{o:Array Nat}(e:SetTable.laid mask finger moves led plain hs=some (t,o)):bU t.place:=by
 unfold SetTable.laid at e
 cases ho:SetTable.layClean mask hs with
 | none=>rw[ho]at e;cases e
 | some owner =>
  rw[ho]at e
  cases e
  rw[ris_iff]
  dsimp only
  have gen:∀(g:Nat->Option Nat) (l:List Nat),(l.filterMap λj=>(g j).map (j,·)).map (·.1)=l.filter λj=>(g j).isSome:=by
   intro g l
   induction l with
   | nil=>rfl
   | cons a l ih =>
    cases hg:g a with
    | none=>simp[hg,ih]
    | some b=>simp[hg,ih]
  rw[gen]
  exact List.Pairwise.sublist List.filter_sublist t8
theorem JV{t:SetTable}{es:Array (Int×Value)}{wanted:Nat}:bU (relayAll t es wanted).2.1.place:=by
 unfold relayAll
 cases e:t.relaid (es.map (·.1)) wanted with
 | none=>exact pZ t _
 | some p =>
  obtain⟨t',o⟩:=p
  dsimp only
  split
  ·exact Gj e
  ·exact pZ t _
theorem yG(t:SetTable)(es:Array (Int×Value))(h:Int)(x:Value):(layNew t es h x).2.1.led=t.led:=by
 unfold layNew
 cases e:t.freeSlot h with
 | none=>rfl
 | some p =>
  obtain⟨j,wd⟩:=p
  show (SetTable.orStandIn _ _).led=t.led
  unfold SetTable.orStandIn
  split<;>rfl
theorem LV(t:SetTable)(es:Array (Int×Value))(wanted:Nat):(relayAll t es wanted).2.1.led=t.led:=by
 unfold relayAll
 cases e:t.relaid (es.map (·.1)) wanted with
 | none=>rfl
 | some p =>
  obtain⟨t',o⟩:=p
  dsimp only
  split
  ·show t'.led=t.led
   unfold SetTable.relaid SetTable.laid at e
   cases ho:SetTable.layClean (SetTable.sizeAbove wanted - 1) (es.map (·.1)) with
   | none=>rw[ho]at e;cases e
   | some owner=>rw[ho]at e;cases e;rfl
  ·rfl
open PySem PySem.Spec PyProof.Rows
noncomputable def kX:Value->Int
 | .int n _=>n
 | _=>0
noncomputable def IS(P:Program)(w:World)(ld:Bool)(h:Heap)(a:Addr)(σ:List Int):Prop :=
 ∃o es ep t,h.get? a=some o/\o.ExactSet/\o.data=.set es ep t/\ElemsOf (intKind P w) es.toList/\(es.toList.map λe=>kX e.2).Perm σ/\es.size < scanBound/\t.fits es.size=true/\bU t.place/\t.led=ld
section
variable {P:Program}{w:World}{A:Around}{E:Value->Shared->Prop}{s:Shared}{a:Addr}{σ:List Int}{ld:Bool}
theorem UU{l:List (Int×Value)}(h:ElemsOf (intKind P w) l){e:Int×Value}(he:e∈l):∃tk,e.2=.int (kX e.2) tk:=by
 obtain⟨⟨k,hk,_⟩,_⟩:=h e he
 obtain⟨tk,z⟩:=G7 hk
 rw[z]
 exact ⟨tk,rfl⟩
theorem SD{l:List (Int×Value)}{k:Int}(hl:ElemsOf (intKind P w) l)(hp:(l.map λe=>kX e.2).Perm σ)(hf:l.findIdx? (λe=>(intKind P w).is k e.2)=none):σ.any (·==k)=false:=by
 rw[n4]
 intro z
 obtain⟨m,hm,hk⟩:=S6.mp z
 obtain rfl:m=k:=by simpa using hk
 obtain⟨e,he,rfl⟩:=T0.mp (hp.mem_iff.mpr hm)
 have:=List.findIdx?_eq_none_iff.mp hf e he
 obtain⟨tk,q⟩:=UU hl he
 rw[q]at this
 rw[show kX (G6 (kX e.2) tk)=kX e.2 from rfl,intKind_is]at this
 cases this
theorem UD{l:List (Int×Value)}{k:Int}{j:Nat}(hp:(l.map λe=>kX e.2).Perm σ)(hf:l.findIdx? (λe=>(intKind P w).is k e.2)=some j):σ.any (·==k)=true:=by
 obtain⟨hj,hk,_⟩:=List.findIdx?_eq_some_iff_getElem.mp hf
 obtain⟨tk,q⟩:=G7 hk
 refine S6.mpr ⟨k,hp.mem_iff.mp (T0.mpr ⟨_,Y3 hj,?_⟩),by simp⟩
 rw[q];rfl
theorem VU{h:Heap}{o:Obj}{es:Array (Int×Value)}{ep:Nat}{t:SetTable}(q1:h.get? a=some o)(q2:o.ExactSet)(q3:o.data=.set es ep t){fs:Array (Int×Value)}{u:SetTable}{τ:List Int}
  (r1:ElemsOf (intKind P w) fs.toList) (r2:(fs.toList.map λe=>kX e.2).Perm τ) (r3:fs.size < scanBound) (r4:u.fits fs.size=true) (r5:bU u.place) (r6:u.led=ld) :
  (h.update a (Obj.putSet fs u)).get? a=some { o with data:=.set fs (ep+1) u }/\IS P w ld (h.update a (Obj.putSet fs u)) a τ:=by
 have g:=(SetOf_store (knd:=intKind P w) (S':=λk=>decide (∃e∈fs.toList,(intKind P w).is k e.2=true)) q1 q2 q3 r1 (λk=>by rw[decide_eq_true_eq]) r3 r4).1
 exact ⟨g,_,fs,ep+1,u,g,q2,rfl,r1,r2,r3,r4,r5,r6⟩
end
section
variable {P:Program}{w:World}{A:Around}{E:Value->Shared->Prop}{s:Shared}{a:Addr}{σ:List Int}{ld:Bool}
theorem XY(b:Bool){s₁:Shared}{R:Unit->Shared->Prop}(r:R () s₁):wpAny (model P w) A (match b with|true=>rule "set.scan.the-table-gave-way" | false=>pure ()) R E s₁:=by
 cases b
 ·exact wpAny_pure r
 ·exact wpAny_rule r
theorem LF{g:Bool->Sem Unit}(hg:∀(b:Bool) (s₁:Shared) (R:Unit->Shared->Prop),R () s₁->wpAny (model P w) A (g b) R E s₁){o:Obj}{es:Array (Int×Value)}{ep:Nat}{t:SetTable}
  (q1:s.heap.get? a=some o) (q2:o.ExactSet) (q3:o.data=.set es ep t) {fs:Array (Int×Value)}{u:SetTable}{τ:List Int} (r1:ElemsOf (intKind P w) fs.toList) (r2:(fs.toList.map λe=>kX e.2).Perm τ)
  (r3:fs.size < scanBound) (r4:u.fits fs.size=true) (r5:bU u.place) (r6:u.led=ld) {wd:Bool}{R:Option Bool->Shared->Prop} (k:∀h',W3 a s.heap h'->IS P w ld h' a τ->R (some true) { s with heap:=h' }) :
  wpAny (model P w) A (do
    storeSet a fs u
    if (!wd&&u.tooFull)=true then do
      g (relayAll u fs (SetTable.grown fs.size)).2.2
      storeSet a (relayAll u fs (SetTable.grown fs.size)).1 (relayAll u fs (SetTable.grown fs.size)).2.1
      pure (some true)
    else pure (some true)) R E s:=by
 obtain⟨g1,g2⟩:=VU q1 q2 q3 r1 r2 r3 r4 r5 r6
 have sb:=i4 s.heap a (Obj.putSet fs u)
 refine wpAny_bind (wpAny_storeSet_of q1 q3 ?_ (fits_of_scanBound r3))
 by_cases hb:(!wd&&u.tooFull)=true
 ·rw[if_pos hb]
  have pm:=relayAll_perm u fs (SetTable.grown fs.size)
  have ft:=relayAll_fits u fs (SetTable.grown fs.size)
  have rs:=JV (t:=u) (es:=fs) (wanted:=SetTable.grown fs.size)
  have lr:=LV u fs (SetTable.grown fs.size)
  revert pm ft rs lr
  generalize relayAll u fs (SetTable.grown fs.size)=L
  intro pm ft rs lr
  have sz:L.1.size=fs.size:=by have:=pm.length_eq;simpa using this
  refine wpAny_bind (hg _ _ _ ?_)
  refine wpAny_bind (wpAny_storeSet_of g1 rfl ?_ (fits_of_scanBound (by rw[sz];exact r3)))
  obtain⟨_,z⟩:=VU (P:=P) (w:=w) g1 q2 rfl (r1.perm pm) ((pm.map _).trans r2) (by rw[sz];exact r3) ft rs (lr.trans r6)
  exact wpAny_pure (k _ (sb.trans (i4 _ a _)) z)
 ·rw[if_neg hb]
  exact wpAny_pure (k _ sb g2)
theorem uB{k:Int}{tk:Tok}{Q:Bool->Shared->Prop}(hS:IS P w ld s.heap a σ)(hroom:σ.length+1 < scanBound)(hQ:∀h' b,W3 a s.heap h'->IS P w ld h' a (step_dedup σ k)->Q b { s with heap:=h' }) :
  wpAny (model P w) A (setAddHashed a (.int k tk) ((intKind P w).hash k)) Q E s:=by
 have hS0:=hS
 obtain⟨o,es,ep,t,q1,q2,q3,q4,q5,q6,q7,q8,q9⟩:=hS
 have hsz:es.size=σ.length:=by have:=q5.length_eq;simpa using this
 unfold setAddHashed setAddHashedIn
 refine wpAny_holding (wpAny_bind (wpAny_setState_of q1 q3 q7 ?_))
 dsimp only
 rw[byScan_of (knd:=intKind P w) (x:=.int k tk) rfl q6 q4]
 simp only[↓reduceIte]
 unfold setAddByScan
 refine wpAny_bind (wpAny_bind (wpAny_rule ?_))
 refine wpAny_bind (wpAny_setScan_of (knd:=intKind P w) (intKind_is P w k tk) q1 q3 q7 q4 ?_)
 cases hr:es.toList.findIdx? (λe=>(intKind P w).is k e.2) with
 | some j =>
  dsimp only
  refine wpAny_pure (wpAny_pure ?_)
  have e:step_dedup σ k=σ:=by unfold step_dedup;rw[if_pos (UD q5 hr)]
  have z:=hQ s.heap false (W3.refl a s.heap) (by rw[e];exact hS0)
  cases s
  exact z
 | none =>
  dsimp only
  have e:step_dedup σ k=σ++[k]:=by unfold step_dedup;rw[SD q4 q5 hr];rfl
  rw[e]at hQ
  have pm:=layNew_perm t es ((intKind P w).hash k) (.int k tk)
  have ft:=layNew_fits t es ((intKind P w).hash k) (.int k tk)
  have rs:=xG (es:=es) (h:=(intKind P w).hash k) (x:=.int k tk) q8
  have lr:=(yG t es ((intKind P w).hash k) (.int k tk)).trans q9
  revert pm ft rs lr
  generalize layNew t es ((intKind P w).hash k) (.int k tk)=L
  intro pm ft rs lr
  obtain⟨fs,u,wd,gv⟩:=L
  dsimp only at pm ft rs lr ⊢
  rw[Z5]at pm
  have r1:ElemsOf (intKind P w) fs.toList:=(q4.push (intKind_is P w k tk) rfl).perm pm
  have r2:(fs.toList.map λe=>kX e.2).Perm (σ++[k]):=(pm.map _).trans (by rw[E2];exact q5.append_right _)
  have r3:fs.size < scanBound:=by have:=r2.length_eq;simp at this;omega
  refine wpAny_bind (XY _ ?_)
  by_cases hp:u.plain=true
  ·rw[if_pos hp,hashByValue_scannable 8 rfl]
   refine wpAny_bind (wpAny_pure ?_)
   refine LF (λb s₁ R r=>XY b r) q1 q2 q3 r1 r2 r3 ?_ ?_ ?_ λh' sb z=>wpAny_pure (hQ h' _ sb z)
   ·split
    ·exact ft
    ·exact SetTable.fits_plain_off ft
   ·split
    ·exact rs
    ·exact rs
   ·split
    ·exact lr
    ·exact lr
  ·rw[if_neg hp]
   refine wpAny_bind (wpAny_pure ?_)
   simp only[↓reduceIte]
   exact LF (λb s₁ R r=>XY b r) q1 q2 q3 r1 r2 r3 ft rs lr λh' sb z=>wpAny_pure (hQ h' _ sb z)
end
theorem IS.keeps{P:Program}{w:World}{ld:Bool}{h h':Heap}{a:Addr}{σ:List Int}(x:IS P w ld h a σ)(k:∀o,h.get? a=some o->h'.get? a=some o):IS P w ld h' a σ:=by
 obtain⟨o,es,ep,t,q1,r⟩:=x
 exact ⟨o,es,ep,t,k o q1,r⟩
section
variable {P:Program}{w:World}{A:Around}{R:Result->Shared->Prop}{I:Addr}{fp wr:List Addr}{G:Array GenState->Array GenState->Prop}{n:Nat}{Pv:Nat->Value->Prop}{St:Nat->Shared->Prop}{ld:Bool}
theorem Nw(W:WalksS P w A.in1 I fp wr G n Pv St){S:Addr}(nS:S∉fp){val:Nat->Int}(hv:∀i v,Pv i v->∃tk,v=.int (val i) tk)(hb:n+1 < scanBound) :
  ∀(m i:Nat) (s:Shared),i+m=n->St i s->IS P w ld s.heap S (firstMet val i)->(∀s',Moved (S :: wr) G s s'->IS P w ld s'.heap S (firstMet val n)->R (.ok (.ret .none)) s') ->
   codeAny (model P w) A (.builtin "set.update.loop" ⟨[.ref S,.ref I],[]⟩) R s:=by
 have nw:S∉wr:=λz=>nS (W.sub _ z)
 have up:∀b∈wr,b∈S :: wr:=λb z=>J0 _ z
 intro m
 induction m with
 | zero =>
  intro i s e st x k
  obtain rfl:i=n:=by omega
  refine codeAny_builtin F.entry_set_update_loop ?_;rw[Around.under_plainId F.plain_set_update_loop _];show wpAny _ A.in1 (pyNext (.ref I) >>= _) _ _ s
  refine wpAny_bind (W.done s _ _ st λs' mv=>?_)
  show wpAny _ A.in1 (ret A4) _ _ s'
  exact wpAny_pure (k s' (mv.mono up) (x.keeps λo q=>mv.heap S o nw q))
 | succ m ih =>
  intro i s e st x k
  refine codeAny_builtin F.entry_set_update_loop ?_;rw[Around.under_plainId F.plain_set_update_loop _];show wpAny _ A.in1 (pyNext (.ref I) >>= _) _ _ s
  refine wpAny_bind (W.item i s _ _ (by omega) st λv s1 hp st1 mv=>?_)
  obtain⟨tk,rfl⟩:=hv i v hp
  have x1:IS P w ld s1.heap S (firstMet val i):=x.keeps λo q=>mv.heap S o nw q
  show wpAny _ A.in1 (holding [G6 (val i) tk] (setAdd S (.int (val i) tk)) >>= _) _ _ s1
  refine wpAny_bind (wpAny_holding ?_)
  unfold setAdd
  refine wpAny_holding (wpAny_bind ((intKind P w).pyHash (k:=val i) (intKind_is _ _ _ _) ?_))
  have rm:(firstMet val i).length+1 < scanBound:=by have:=firstMet_length_le val i;omega
  refine uB (s:={ s1 with toks:=s1.toks+1 }) x1 rm λh' b sb x2=>?_
  rw[<- firstMet_succ]at x2
  have oth:∀b o,b≠S->s1.heap.get? b=some o->h'.get? b=some o:=λb o nb q=>(sb.2 b nb).trans q
  refine wpAny_pure ⟨plainId_quiet F.plain_set_update_loop _,ih (i+1) _ (by omega) (W.frame _ s1 h' _ st1 (j5 _) λb z o q=>oth b o (λy=>nS (y ▸ z)) q) x2 λs2 mv2 x3=>?_⟩
  exact k s2 (((mv.mono up).then_heap (j5 _) λb o nb q=>oth b o (λy=>nb (y ▸ G0)) q).trans W.gtrans mv2) x3
end
noncomputable abbrev HK(led:Bool):Obj:={ cls:=.type "set",dict:=none,data:=.set #[] 0 (.fresh 0 0 led) }
theorem vB{P:Program}{w:World}{h:Heap}{a:Addr}{led:Bool}(e:h.get? a=some (HK led)):IS P w led h a [] :=
 ⟨_,#[],0,_,e,⟨rfl,rfl,rfl⟩,rfl,(λx z=>by simp at z),List.Perm.refl _,by decide,rfl,λa b _ z=>absurd z (A8 _),rfl⟩
section
variable {P:Program}{w:World}{A:Around}{E:Value->Shared->Prop}{s:Shared}
theorem Ow{led:Bool}{l:Addr}{items:Array Value}{ns:List Int}{Q:Value->Shared->Prop}(hh:A.handled=none)(hl:s.heap.IsList l items)(hi:IntsAre items.toList ns)(hb:items.size+1 < scanBound)
  (k:∀h' tk,IS P w led h' s.heap.objs.size (firstMet (λi=>ns.getD i 0) items.size)->(∀b o,b < s.heap.objs.size->s.heap.get? b=some o->h'.get? b=some o)->Q .none { s with heap:=h',toks:=tk }) :
  codeAny (model P w) A (.call (.builtin "set.__init__") ⟨[.ref s.heap.objs.size,.ref l],[]⟩) (wants Q E) { s with heap:=s.heap.push (HK led) }:=by
 have e0:(s.heap.push (HK led)).get? s.heap.objs.size=some (HK led):=L0 _ rfl
 refine codeAny_call_builtin F.called_set.init.plain F.entry_set_init (check_set_init_1 ⟨_,e0,rfl⟩ ?_)
 have hl1:(s.heap.push (HK led)).IsList l items:=hl.push _
 have hlS:l < s.heap.objs.size:=by obtain⟨ol,q,_⟩:=hl;exact M0 q
 have z1:=F.sub_list_set
 have z2:=F.sub_list_frozenset
 have z3:(M5 "list"==M5 "dict")=false:=by decide
 have hl2:=hl1
 obtain⟨⟨oc,odc,odt,osl⟩,q1,q2,nl,q3⟩:=hl2
 obtain rfl:oc=.type "list":=q2
 obtain rfl:odt=.seq items nl:=q3
 unfold Builtin.«set.__init__» noKeywords Builtin.Frozenset.updateFrom
 generalize hPI:pyIter=PI
 wp_walk
 subst hPI
 refine wpAny_pyIter_list hl1 ?_
 refine wpAny_bind (wpAny_runValue ?_)
 have sz:(s.heap.push (HK led)).objs.size=s.heap.objs.size+1:=Y2 ..
 have n1:l≠(s.heap.push (HK led)).objs.size:=S0 (by rw[sz];exact O3 hlS)
 have n2:s.heap.objs.size∉[(s.heap.push (HK led)).objs.size,l]:=by
  rw[sz]
  simp only[K0,G1,or_false,not_or]
  exact ⟨S0 (S4 _),W2 hlS⟩
 have vi:∀(i:Nat) (v:Value),items[i]?=some v->∃tk,v=.int ((λi=>ns.getD i 0) i) tk:=λi v hv=>IntsAre.int_at hi i v (by rw[B2];exact hv)
 refine Nw (ld:=led) ((Walks.list (by simp[hh]) _ l n1 items).toS) n2 vi hb items.size 0 _ (j6 _) ⟨⟨_,L0 _ rfl,rfl,rfl⟩,hl1.push _⟩ ?x ?y
 case x =>
  rw[firstMet_zero]
  exact vB (n0 _ e0)
 case y =>
  intro s' mv x
  obtain⟨h',g',d',tk',os'⟩:=s'
  obtain rfl:g'=s.gens:=mv.gens
  obtain rfl:d'=s.drawn:=mv.drawn
  obtain rfl:os'=s.os:=mv.os
  show wpAny _ _ _ _ _ _
  refine wpAny_pure ?_
  show wpAny _ _ (ret A4) _ _ _
  refine wpAny_pure (k h' tk' x λb o lb q=>mv.heap b o ?_ (n0 _ (n0 _ q)))
  rw[sz]
  simp only[K0,G1,or_false,not_or]
  exact ⟨S0 lb,S0 (O3 lb)⟩
theorem wB(a:Value){Q:Value->Shared->Prop}(k:Q (.ref s.heap.objs.size) { s with heap:=s.heap.push (HK (!w.params.followText "set-order")) }) :
  codeAny (model P w) A (.call (.builtin "set.__new__") ⟨[.type "set",a],[]⟩) (wants Q E) s:=by
 refine codeAny_of_tree ?_
 show wpAny _ A.in1 (do checkBuiltinCall "set.__new__" ⟨[.type "set",a],[]⟩;again (.builtin "set.__new__" ⟨[.type "set",a],[]⟩)) _ _ s
 refine wpAny_bind (wpAny_of_eq (F.newCall_set_1 a) (wpAny_pure ⟨plainId_quiet F.plain_set_new _,codeAny_builtin F.entry_set_new ?_⟩));rw[Around.under_plainId F.plain_set_new _]
 unfold Builtin.«set.__new__» Builtin.Frozenset.newClass
 have y:=sub_set_self
 cases s
 dsimp only
 wp_walk
 refine wpAny_askSetting (wpAny_pure ?_)
 dsimp only
 simp only[newObj]
 exact wpAny_bind (wpAny_alloc (wpAny_pure (wpAny_pure k)))
theorem WU{l:Addr}{items:Array Value}{ns:List Int}{Q:Value->Shared->Prop}(hh:A.handled=none)(hl:s.heap.IsList l items)(hi:IntsAre items.toList ns)(hb:items.size+1 < scanBound)
  (k:∀h' tk,IS P w (!w.params.followText "set-order") h' s.heap.objs.size (firstMet (λi=>ns.getD i 0) items.size)->(∀b o,b < s.heap.objs.size->s.heap.get? b=some o->h'.get? b=some o)->Q (.ref s.heap.objs.size) { s with heap:=h',toks:=tk }) :
  wpAny (model P w) A (call (.type "set") [.ref l]) Q E s:=by
 obtain⟨c,tl,y1⟩:=F.called_set.mro
 have y2:=F.called_set.made
 have y3:=F.called_set.sub
 have y4:=F.called_set.notType
 have y5:=F.called_set.canCreate
 have y6:=F.typeCall_set_1 (.ref l)
 refine wpAny_call (codeAny_of_tree ?_)
 show wpAny _ _ (callAny (.type "set") _) _ _ _
 refine wpAny_pure ⟨Code.quiet_builtin _ (by decide +kernel),codeAny_builtin F.entry_type_call ?_⟩
 rw[Around.under_plain (weight_type_call_type "set" [.ref l] []) rfl]
 repeat (any_goals (first|assumption|wp_step))
 refine codeAny_mono (wB (.ref l) (E:=E) (Q:=λv s1=>v=.ref s.heap.objs.size/\s1={ s with heap:=s.heap.push (HK (!w.params.followText "set-order")) }) ⟨rfl,rfl⟩) λr s1 hr=>?_
 match r,hr with
 | .error e,hr=>exact hr
 | .ok (.ret v),⟨e1,e2⟩ =>
  subst e1
  subst e2
  generalize hld:(!w.params.followText "set-order")=led at *
  have e0:(s.heap.push (HK led)).get? s.heap.objs.size=some (HK led):=L0 _ rfl
  have T:Shared.TypeIs { s with heap:=s.heap.push (HK led) } (.ref s.heap.objs.size) "set":=⟨_,e0,rfl⟩
  have i1:=F.called_set.init.lookup
  have i2:=F.called_set.init.bind (.ref s.heap.objs.size)
  repeat (any_goals (first|assumption|wp_step))
  refine codeAny_mono (Ow (s:=s) (led:=led) (E:=E) (Q:=λv s2=>v=.none/\∃h' tk,s2={ s with heap:=h',toks:=tk }/\IS P w led h' s.heap.objs.size (firstMet (λi=>ns.getD i 0) items.size)/\∀b o,b < s.heap.objs.size->s.heap.get? b=some o->h'.get? b=some o)
    (by simp[hh]) hl hi hb λh' tk x kp=>⟨rfl,h',tk,rfl,x,kp⟩) λr2 s2 hr2=>?_
  match r2,hr2 with
  | .error e,hr2=>exact hr2
  | .ok (.ret v),⟨e3,h',tk,e4,x,kp⟩ =>
   subst e3
   subst e4
   repeat (any_goals (first|assumption|wp_step))
   exact k _ _ x kp
  | .ok .next,hr2=>exact hr2.elim
  | .ok .brk,hr2=>exact hr2.elim
  | .ok .cont,hr2=>exact hr2.elim
 | .ok .next,hr=>exact hr.elim
 | .ok .brk,hr=>exact hr.elim
 | .ok .cont,hr=>exact hr.elim
end
theorem RJ{α:Type}:∀(l:List α) (i:Nat) (h:i < l.length),(l[i] :: l.eraseIdx i).Perm l
 | a :: l,0,h=>List.Perm.refl _
 | a :: l,i+1,h=>by
  rw[e8,List.getElem_cons_succ]
  exact (List.Perm.swap a _ _).trans ((RJ l i (by simpa using h)).cons a)
theorem MF{α:Type}(next:Nat->Nat):∀(fuel k:Nat) (left:List α) (out:Array α),left.length=fuel->(pickOrder.go next fuel k left out).toList.Perm (out.toList++left)
 | 0,k,left,out,e=>by
  have:left=[]:=T5.mp e
  subst this
  rw[u4]
  exact List.Perm.refl _
 | fuel+1,k,left,out,e=>by
  have hlt:next k % left.length < left.length:=Nat.mod_lt _ (by omega)
  unfold pickOrder.go
  rw[A0 hlt]
  dsimp only
  refine (MF next fuel (k+1) _ _ (by rw[i6 hlt];omega)).trans ?_
  rw[Z5,T2]
  refine List.Perm.append_left _ ?_
  exact RJ left _ hlt
theorem aV{α:Type}(next:Nat->Nat)(xs:Array α):(pickOrder next xs).toList.Perm xs.toList:=by
 have z:=MF next xs.size 0 xs.toList #[] (by simp)
 exact z
section
variable {M:Model}{A:Around}{E:Value->Shared->Prop}{s:Shared}
theorem zG{src:Source}{n:Nat}{Q:Nat->Shared->Prop}(hn:n≠0)(h:∀i d,i < n->Q i { s with drawn:=d }):wpAny M A (choose src n) Q E s:=λΓ p hΓ =>
 ⟨hn,h _ _ (Nat.mod_lt _ (Nat.pos_of_ne_zero hn))⟩
theorem XU{α:Type}:∀(n:Nat) (xs:List α) {s:Shared}{Q:List α->Shared->Prop},xs.length=n->(∀ys d,ys.Perm xs->Q ys { s with drawn:=d })->wpAny M A (drawOrder n xs) Q E s
 | 0,xs,s,Q,e,h=>by
  have:xs=[]:=T5.mp e
  subst this
  unfold drawOrder
  exact wpAny_pure (h [] s.drawn (List.Perm.refl _))
 | n+1,[],s,Q,e,h=>by cases e
 | n+1,x :: xs,s,Q,e,h=>by
  unfold drawOrder
  refine wpAny_bind (zG (by simp) λi d hi=>?_)
  rw[A0 hi]
  dsimp only
  refine wpAny_bind (XU n _ (by rw[i6 hi];simp at e ⊢;omega) λys d' hp=>?_)
  exact wpAny_pure (h _ d' ((hp.cons _).trans (RJ _ i hi)))
end
theorem YY:Slot "set" "__iter__" "set.__iter__":=.of (owner:="set") (n:="__iter__") (by rw[typeLookup_type,builtinLookup_eq_fast];kernel_rfl) (by decide +kernel) (by decide +kernel) (by decide +kernel) (by first|exact .inl (by decide +kernel)|exact .inr (by decide +kernel)) (by rw[isSubtype_type];kernel_rfl)
theorem slot_snext:Slot "set_iterator" "__next__" "set_iterator.__next__":=.of (owner:="set_iterator") (n:="__next__") (by rw[typeLookup_type,builtinLookup_eq_fast];kernel_rfl) (by decide +kernel) (by decide +kernel) (by decide +kernel) (by first|exact .inl (by decide +kernel)|exact .inr (by decide +kernel)) (by rw[isSubtype_type];kernel_rfl)
theorem YU:entryFor table "set.__iter__"=some Builtin.«frozenset.__iter__»:=entryFor_alias (id':="frozenset.__iter__") (by kernel_rfl) rfl (by decide +kernel) (by kernel_rfl)
theorem qZ:entryFor table "set_iterator.__next__"=some Builtin.«set_iterator.__next__»:=entryFor_of_fast (by kernel_rfl)
theorem AG(a:Value):argsOk "set.__iter__" ⟨[a],[]⟩:=by unfold argsOk;kernel_rfl
theorem TZ(a:Value):argsOk "set_iterator.__next__" ⟨[a],[]⟩:=by unfold argsOk;kernel_rfl
noncomputable abbrev wW(first:Value)(i:Nat)(S:Addr)(n ep:Nat):Obj:={ cls:=.type "set_iterator",data:=.fields #[first,rawInt i,.ref S,rawInt n,rawInt ep] }
section
variable {P:Program}{w:World}{A:Around}{E:Value->Shared->Prop}{s:Shared}{S:Addr}{σ:List Int}{ld:Bool}
theorem Hj{o:Obj}{es:Array (Int×Value)}{ep:Nat}{t:SetTable}{Q:Value->Shared->Prop}(q1:s.heap.get? S=some o)(q2:o.ExactSet)(q3:o.data=.set es ep t)(q4:t.fits es.size=true)(q5:es.size < scanBound)
  (k1:(!w.params.followText "set-order"&&(!t.plain&&decide (es.size > 1)))=false->Q (.ref s.heap.objs.size) { s with heap:=s.heap.push (wW (rawInt 0) 0 S es.size ep) })
  (k2:(!w.params.followText "set-order"&&(!t.plain&&decide (es.size > 1)))=true->∀(ys:List Nat) d,ys.Perm (S1 es.size) ->
    Q (.ref (s.heap.objs.size+1)) { s with heap:=(s.heap.push { cls:=.type "tuple",data:=.seq (ys.map λ(i:Nat)=>rawInt i).toArray }).push (wW (.ref s.heap.objs.size) 0 S es.size ep),drawn:=d }) :
  wpAny (model P w) A (pyIter (.ref S)) Q E s:=by
 have hT:s.TypeIs (.ref S) "set":=⟨o,q1,q2.1⟩
 refine wpAny_pyIter_slot hT YY (wpAny_call_entry YY hT YU ?_ (AG _))
 unfold Builtin.«frozenset.__iter__»
 show wpAny _ _ (T7 S >>= _) _ _ s
 refine wpAny_bind ?_
 unfold T7
 refine wpAny_bind (wpAny_setEntries_of q1 q3 q4 (wpAny_pure ?_))
 refine wpAny_bind ?_
 unfold setDrawn setsByText
 refine wpAny_bind (wpAny_setState_of q1 q3 q4 ?_)
 refine wpAny_bind (wpAny_bind (wpAny_askSetting (wpAny_pure ?_)))
 refine wpAny_pure ?_
 show wpAny _ _ (if (!w.params.followText "set-order"&&(!t.plain&&decide (es.size > 1)))=true then _ else _) _ _ s
 have ne:∀(fv:Value) (s1:Shared) (o1:s1.heap.get? S=some o) (kq:Q (.ref s1.heap.objs.size) { s1 with heap:=s1.heap.push (wW fv 0 S es.size ep) }),
   wpAny (model P w) A.in1 (do let e<-setEpoch S;let v<-newFields "set_iterator" [fv,rawInt 0,B5 S,rawInt (es.size:Nat),rawInt (e:Nat)];ret v)
    (λfin s'=>∃v,fin=Fin.done (Flow.ret v)/\∃T' r,s'.TypeIs v T'/\typeLookup (M5 T') (Str.ofString "__next__")=pure (some r)/\Q v s') E s1:=λfv s1 o1 kq=>by
  unfold setEpoch newFields
  refine wpAny_bind (wpAny_bind (wpAny_setState_of o1 q3 q4 (wpAny_pure ?_)))
  refine wpAny_bind (wpAny_newObj_type (wpAny_pure ⟨_,rfl,"set_iterator",_,⟨_,L0 _ rfl,rfl⟩,slot_snext.lookup,kq⟩))
 by_cases hb:(!w.params.followText "set-order"&&(!t.plain&&decide (es.size > 1)))=true
 ·rw[if_pos hb]
  refine wpAny_bind (XU _ _ (G4) λys d hp=>?_)
  unfold newTuple
  have ysz:(ys.map λ(i:Nat)=>rawInt i).toArray.size=es.size:=by have:=hp.length_eq;simpa using this
  refine wpAny_bind (wpAny_newObj_type ?_ (by unfold sizeOk;dsimp only;rw[ysz];exact fits_of_scanBound q5))
  have z:=ne (.ref s.heap.objs.size) { s with heap:=s.heap.push { cls:=.type "tuple",data:=.seq (ys.map λ(i:Nat)=>rawInt i).toArray },drawn:=d } (n0 _ q1)
  refine z ?_
  have e1:(s.heap.push { cls:=.type "tuple",data:=.seq (ys.map λ(i:Nat)=>rawInt i).toArray }).objs.size=s.heap.objs.size+1:=Y2 ..
  rw[e1]
  exact k2 hb ys d hp
 ·rw[if_neg hb]
  exact ne (rawInt 0) s q1 (k1 (n4.mpr hb))
end
section
variable {P:Program}{w:World}{A:Around}{E:Value->Shared->Prop}{s:Shared}{S:Addr}{σ:List Int}{ld:Bool}{o:Obj}{es:Array (Int×Value)}{ep:Nat}{t:SetTable}
theorem bV{slot i:Nat}{Q:Option (Value×Nat)->Shared->Prop}(q1:s.heap.get? S=some o)(q3:o.data=.set es ep t)(q4:t.fits es.size=true)(hb:w.params.followText "set-order"=true)
  (k:Q ((pickOrder (w.params.setOrder S ep) es)[i]?.map λe=>(e.2,slot)) s):wpAny (model P w) A (setNext S slot i ep) Q E s:=by
 unfold setNext setWalk setsByText
 refine wpAny_bind (wpAny_setState_of q1 q3 q4 ?_)
 refine wpAny_bind (wpAny_bind (wpAny_askSetting (wpAny_pure ?_)))
 show wpAny _ _ (if w.params.followText "set-order"=true then _ else _) _ _ s
 rw[if_pos hb]
 show wpAny _ _ (if (ep != ep)=true then _ else _) _ _ s
 rw[if_neg (by simp)]
 refine wpAny_bind (wpAny_bind (wpAny_setState_of q1 q3 q4 ?_))
 refine wpAny_bind (wpAny_bind (wpAny_askSetting (wpAny_pure ?_)))
 show wpAny _ _ (if w.params.followText "set-order"=true then _ else _) _ _ s
 rw[if_pos hb]
 refine wpAny_bind (wpAny_askSetting (wpAny_pure ?_))
 exact wpAny_pure k
theorem ZY{slot i g:Nat}{Q:Option (Value×Nat)->Shared->Prop}(q1:s.heap.get? S=some o)(q3:o.data=.set es ep t)(q4:t.fits es.size=true)(hb:w.params.followText "set-order"=false)(hp:(!t.plain&&decide (es.size > 1))=false)(hl:t.led=true)
  (hi:SetTable.below t.place slot=i) (k:Q (match es[i]?,t.place[i]? with|some (_,x),some j=>some (x,j+1)|_,_=>none) s):wpAny (model P w) A (setNext S slot g ep) Q E s:=by
 unfold setNext setsByText
 refine wpAny_bind (wpAny_setState_of q1 q3 q4 ?_)
 refine wpAny_bind (wpAny_bind (wpAny_askSetting (wpAny_pure ?_)))
 show wpAny _ _ (if w.params.followText "set-order"=true then _ else _) _ _ s
 rw[if_neg (by rw[hb];decide)]
 show wpAny _ _ (if (!t.plain&&decide (es.size > 1))=true then _ else _) _ _ s
 rw[if_neg (by rw[hp];decide)]
 refine wpAny_bind ?_
 show wpAny _ _ (if (!t.led&&!es.isEmpty)=true then _ else _) _ _ s
 rw[if_neg (by rw[hl];simp)]
 refine wpAny_pure ?_
 dsimp only
 rw[hi]
 exact wpAny_pure k
end
section
variable {P:Program}{w:World}{A:Around}{E:Value->Shared->Prop}{s:Shared}{S:Addr}{σ:List Int}{ld:Bool}{o:Obj}{es:Array (Int×Value)}{ep:Nat}{t:SetTable}
theorem VD{p:Nat}{e:Int×Value}{Q:Value->Shared->Prop}(q1:s.heap.get? S=some o)(q3:o.data=.set es ep t)(q4:t.fits es.size=true)(hx:es[p]?=some e)(k:Q e.2 s) :
  wpAny (model P w) A (setNextDrawn S p ep) Q E s:=by
 unfold setNextDrawn
 refine wpAny_bind (wpAny_setState_of q1 q3 q4 ?_)
 show wpAny _ _ (if (ep != ep)=true then _ else _) _ _ s
 rw[if_neg (by simp)]
 show wpAny _ _ (match es[p]? with|some (_,x)=>_|_=>_) _ _ s
 rw[hx]
 exact wpAny_pure k
theorem Ij{I:Addr}{slot i nx:Nat}{x:Value}{Q:Option Value->Shared->Prop}(hI:s.heap.get? I=some (wW (rawInt slot) i S es.size ep))(q1:s.heap.get? S=some o)(q3:o.data=.set es ep t)(q4:t.fits es.size=true)
  (hn:∀{A':Around}{E':Value->Shared->Prop}{Q':Option (Value×Nat)->Shared->Prop},Q' (some (x,nx)) s->wpAny (model P w) A' (setNext S slot i ep) Q' E' s)
  (k:∀h',h'.get? I=some (wW (rawInt nx) (i+1) S es.size ep)->W3 I s.heap h'->Q (some x) { s with heap:=h' }):wpAny (model P w) A (pyNext (.ref I)) Q E s:=by
 have hT:s.TypeIs (.ref I) "set_iterator":=⟨_,hI,rfl⟩
 unfold pyNext
 refine wpAny_bind (wpAny_attempt (wpAny_callSpecial?_slot (name:=Str.ofString "__next__") hT slot_snext (wpAny_call_entry slot_snext hT qZ ?_ (TZ _))))
 unfold Builtin.«set_iterator.__next__»
 show wpAny _ _ (fieldsOf (.ref I) >>= _) _ _ s
 refine wpAny_bind (wpAny_fieldsOf hI rfl ?_)
 show wpAny _ _ (setEntries S >>= _) _ _ s
 refine wpAny_bind (wpAny_setEntries_of q1 q3 q4 ?_)
 show wpAny _ _ (if (((es.size:Nat):Int) != ((es.size:Nat):Int))=true then _ else _) _ _ s
 rw[if_neg (by simp)]
 show wpAny _ _ (setNext S slot i ep >>= _) _ _ s
 refine wpAny_bind (hn ?_)
 refine wpAny_bind (wpAny_setField hI rfl (by simp) ?_)
 have g1:(s.heap.update I (V6 (·.setIfInBounds 0 (rawInt nx)))).get? I=some (wW (rawInt nx) i S es.size ep):=V2 _ hI (x5 (o5 rfl _))
 refine wpAny_bind (wpAny_setField g1 rfl (by simp) ?_)
 have g2:((s.heap.update I (V6 (·.setIfInBounds 0 (rawInt nx)))).update I (V6 (·.setIfInBounds 1 (rawInt ((i:Int)+1))))).get? I=some (wW (rawInt nx) (i+1) S es.size ep):=V2 _ g1 (x5 (o5 rfl _))
 exact wpAny_pure ⟨x,rfl,wpAny_pure (k _ g2 ((i4 _ I _).trans (i4 _ I _)))⟩
end
section
variable {P:Program}{w:World}{A:Around}{E:Value->Shared->Prop}{s:Shared}{S:Addr}{σ:List Int}{ld:Bool}{o:Obj}{es:Array (Int×Value)}{ep:Nat}{t:SetTable}
theorem WD{I T:Addr}{i p:Nat}{ys:List Nat}{e:Int×Value}{ot:Obj}{c:Nat}{Q:Option Value->Shared->Prop}(hI:s.heap.get? I=some (wW (.ref T) i S es.size ep))(q1:s.heap.get? S=some o)(q3:o.data=.set es ep t)(q4:t.fits es.size=true)
  (hT1:s.heap.get? T=some ot) (hT2:ot.data=.seq (ys.map λ(i:Nat)=>rawInt i).toArray c) (hy:ys[i]?=some p) (hx:es[p]?=some e)
  (k:∀h',h'.get? I=some (wW (.ref T) (i+1) S es.size ep)->W3 I s.heap h'->Q (some e.2) { s with heap:=h' }):wpAny (model P w) A (pyNext (.ref I)) Q E s:=by
 have hT:s.TypeIs (.ref I) "set_iterator":=⟨_,hI,rfl⟩
 unfold pyNext
 refine wpAny_bind (wpAny_attempt (wpAny_callSpecial?_slot (name:=Str.ofString "__next__") hT slot_snext (wpAny_call_entry slot_snext hT qZ ?_ (TZ _))))
 unfold Builtin.«set_iterator.__next__»
 show wpAny _ _ (fieldsOf (.ref I) >>= _) _ _ s
 refine wpAny_bind (wpAny_fieldsOf hI rfl ?_)
 show wpAny _ _ (setEntries S >>= _) _ _ s
 refine wpAny_bind (wpAny_setEntries_of q1 q3 q4 ?_)
 show wpAny _ _ (if (((es.size:Nat):Int) != ((es.size:Nat):Int))=true then _ else _) _ _ s
 rw[if_neg (by simp)]
 show wpAny _ _ (seqItems? (.ref T) >>= _) _ _ s
 refine wpAny_bind (wpAny_seqItems hT1 hT2 ?_)
 show wpAny _ _ (match (ys.map λ(i:Nat)=>rawInt i).toArray[i]? with|some (.int place _)=>_|some _=>_|none=>_) _ _ s
 rw[show (ys.map λ(i:Nat)=>rawInt i).toArray[i]?=some (rawInt p) by simp[hy]]
 show wpAny _ _ (setNextDrawn S p ep >>= _) _ _ s
 refine wpAny_bind (VD q1 q3 q4 hx ?_)
 refine wpAny_bind (wpAny_setField hI rfl (by simp) ?_)
 have g1:(s.heap.update I (V6 (·.setIfInBounds 1 (rawInt ((i:Int)+1))))).get? I=some (wW (.ref T) (i+1) S es.size ep):=V2 _ hI (x5 (o5 rfl _))
 exact wpAny_pure ⟨e.2,rfl,wpAny_pure (k _ g1 (i4 _ I _))⟩
theorem ZU{Q:PySem.Fin->Shared->Prop}(hh:A.handled=none)(k:∀h' e,(∀b o,s.heap.get? b=some o->h'.get? b=some o)->(∃oe,h'.get? e=some oe/\oe.cls=.type "StopIteration")->E (.ref e) { s with heap:=h' }) :
  wpAny (model P w) A (do let e<-newExc (.type "StopIteration") [];raiseNew e) Q E s:=by
 refine wpAny_bind ?_
 simp only[newExc,newTuple]
 refine wpAny_bind (wpAny_newObj_type ?_ (by size_fits));refine wpAny_bind (m:=firstArgMember _ _) (wpAny_of_eq (a:=A4) (by first|rfl|(simp only[firstArgMember];rfl)) ?_)
 refine wpAny_newObj_type ?_ (by size_fits);simp only[raiseNew]
 refine wpAny_bind (wpAny_handled ?_);rw[hh]
 refine wpAny_bind (wpAny_pure (wpAny_throw ?_))
 exact k _ _ (λb o q=>n0 _ (n0 _ q)) ⟨_,L0 _ rfl,rfl⟩
end
section
variable {P:Program}{w:World}{A:Around}{E:Value->Shared->Prop}{s:Shared}{S:Addr}{σ:List Int}{ld:Bool}{o:Obj}{es:Array (Int×Value)}{ep:Nat}{t:SetTable}
theorem UZ{h:Heap}{I:Addr}{f:Obj->Obj}{b:Addr}{u:Obj}(n:b≠I)(q:h.get? b=some u):(h.update I f).get? b=some u:=(V5 _ _ (m4 n)).trans q
theorem Pw{I:Addr}{slot i:Nat}{Q:Option Value->Shared->Prop}(hh:A.handled=none)(hI:s.heap.get? I=some (wW (rawInt slot) i S es.size ep))(q1:s.heap.get? S=some o)(q3:o.data=.set es ep t)(q4:t.fits es.size=true)
  (hn:∀{A':Around}{E':Value->Shared->Prop}{Q':Option (Value×Nat)->Shared->Prop},Q' none s->wpAny (model P w) A' (setNext S slot i ep) Q' E' s)
  (k:∀h',(∀b u,b≠I->s.heap.get? b=some u->h'.get? b=some u)->Q none { s with heap:=h' }):wpAny (model P w) A (pyNext (.ref I)) Q E s:=by
 have hT:s.TypeIs (.ref I) "set_iterator":=⟨_,hI,rfl⟩
 unfold pyNext
 refine wpAny_bind (wpAny_attempt (wpAny_callSpecial?_slot (name:=Str.ofString "__next__") hT slot_snext (wpAny_call_entry slot_snext hT qZ ?_ (TZ _))))
 unfold Builtin.«set_iterator.__next__»
 show wpAny _ _ (fieldsOf (.ref I) >>= _) _ _ s
 refine wpAny_bind (wpAny_fieldsOf hI rfl ?_)
 show wpAny _ _ (setEntries S >>= _) _ _ s
 refine wpAny_bind (wpAny_setEntries_of q1 q3 q4 ?_)
 show wpAny _ _ (if (((es.size:Nat):Int) != ((es.size:Nat):Int))=true then _ else _) _ _ s
 rw[if_neg (by simp)]
 show wpAny _ _ (setNext S slot i ep >>= _) _ _ s
 refine wpAny_bind (hn ?_)
 refine wpAny_bind (wpAny_setField hI rfl (by simp) ?_)
 refine ZU (by simp[hh]) λh' e kp he=>?_
 refine wpAny_bind (wpAny_isInstance (T:="StopIteration") (b:=true) he isSubtype_stop ?_)
 exact wpAny_pure (k h' λb u nb q=>kp b u (UZ nb q))
theorem Jj{I T:Addr}{i:Nat}{ys:List Nat}{ot:Obj}{c:Nat}{Q:Option Value->Shared->Prop}(hh:A.handled=none)(hI:s.heap.get? I=some (wW (.ref T) i S es.size ep))(q1:s.heap.get? S=some o)(q3:o.data=.set es ep t)(q4:t.fits es.size=true)
  (hT1:s.heap.get? T=some ot) (hT2:ot.data=.seq (ys.map λ(i:Nat)=>rawInt i).toArray c) (hy:ys[i]?=none)
  (k:∀h',(∀b u,b≠I->s.heap.get? b=some u->h'.get? b=some u)->Q none { s with heap:=h' }):wpAny (model P w) A (pyNext (.ref I)) Q E s:=by
 have hT:s.TypeIs (.ref I) "set_iterator":=⟨_,hI,rfl⟩
 unfold pyNext
 refine wpAny_bind (wpAny_attempt (wpAny_callSpecial?_slot (name:=Str.ofString "__next__") hT slot_snext (wpAny_call_entry slot_snext hT qZ ?_ (TZ _))))
 unfold Builtin.«set_iterator.__next__»
 show wpAny _ _ (fieldsOf (.ref I) >>= _) _ _ s
 refine wpAny_bind (wpAny_fieldsOf hI rfl ?_)
 show wpAny _ _ (setEntries S >>= _) _ _ s
 refine wpAny_bind (wpAny_setEntries_of q1 q3 q4 ?_)
 show wpAny _ _ (if (((es.size:Nat):Int) != ((es.size:Nat):Int))=true then _ else _) _ _ s
 rw[if_neg (by simp)]
 show wpAny _ _ (seqItems? (.ref T) >>= _) _ _ s
 refine wpAny_bind (wpAny_seqItems hT1 hT2 ?_)
 show wpAny _ _ (match (ys.map λ(i:Nat)=>rawInt i).toArray[i]? with|some (.int place _)=>_|some _=>_|none=>_) _ _ s
 rw[show (ys.map λ(i:Nat)=>rawInt i).toArray[i]?=none by simp at hy ⊢;exact hy]
 refine wpAny_bind (wpAny_setField hI rfl (by simp) ?_)
 have g1:(s.heap.update I (V6 (·.setIfInBounds 0 (rawInt 0)))).get? I=some (wW (rawInt 0) i S es.size ep):=V2 _ hI (x5 (o5 rfl _))
 refine wpAny_bind (wpAny_setField g1 rfl (by simp) ?_)
 refine ZU (by simp[hh]) λh' e kp he=>?_
 refine wpAny_bind (wpAny_isInstance (T:="StopIteration") (b:=true) he isSubtype_stop ?_)
 exact wpAny_pure (k h' λb u nb q=>kp b u (UZ nb (UZ nb q)))
end
theorem aW:Slot "set_iterator" "__iter__" "set_iterator.__iter__":=.of (owner:="set_iterator") (n:="__iter__") (by rw[typeLookup_type,builtinLookup_eq_fast];kernel_rfl) (by decide +kernel) (by decide +kernel) (by decide +kernel) (by first|exact .inl (by decide +kernel)|exact .inr (by decide +kernel)) (by rw[isSubtype_type];kernel_rfl)
theorem aH:entryFor table "set_iterator.__iter__"=some Builtin.«dict_keyiterator.__iter__»:=entryFor_alias (id':="dict_keyiterator.__iter__") (by kernel_rfl) rfl (by decide +kernel) (by kernel_rfl)
theorem BG(a:Value):argsOk "set_iterator.__iter__" ⟨[a],[]⟩:=by unfold argsOk;kernel_rfl
section
variable {P:Program}{w:World}{A:Around}{S I:Addr}{o:Obj}{es:Array (Int×Value)}{ep:Nat}{t:SetTable}{ord:List Value}
theorem bH{E:Value->Shared->Prop}{s:Shared}{Q:Value->Shared->Prop}(hT:s.TypeIs (.ref I) "set_iterator")(k:Q (.ref I) s):wpAny (model P w) A (pyIter (.ref I)) Q E s:=by
 refine wpAny_pyIter_slot hT aW (wpAny_call_entry aW hT aH ?_ (BG _))
 unfold Builtin.«dict_keyiterator.__iter__»
 exact wpAny_pure ⟨_,rfl,"set_iterator",_,hT,slot_snext.lookup,k⟩
theorem cH(C:Nat->Nat->Prop)(hh:A.handled=none)(nI:S≠I)(q3:o.data=.set es ep t)(q4:t.fits es.size=true)
  (step:∀i slot,C i slot->i < es.size->∃x nx,ord[i]?=some x/\C (i+1) nx/\∀{s:Shared}{A':Around}{E':Value->Shared->Prop}{Q':Option (Value×Nat)->Shared->Prop},s.heap.get? S=some o->Q' (some (x,nx)) s->wpAny (model P w) A' (setNext S slot i ep) Q' E' s)
  (stop:∀slot,C es.size slot->∀{s:Shared}{A':Around}{E':Value->Shared->Prop}{Q':Option (Value×Nat)->Shared->Prop},s.heap.get? S=some o->Q' none s->wpAny (model P w) A' (setNext S slot es.size ep) Q' E' s) :
  WalksS P w A I [I,S] [I] (λa b=>b=a) es.size (λi v=>ord[i]?=some v) (λi s=>s.heap.get? S=some o/\∃slot,C i slot/\s.heap.get? I=some (wW (rawInt slot) i S es.size ep)) where
 sub:=λb z=>by rw[Y0.mp z];exact G0
 grefl:=λ_=>rfl
 gtrans:=λ_ _ _ h1 h2=>h2.trans h1
 frame:=λi s h' tk ⟨g1,slot,c,g2⟩ _ kp=>⟨kp S (by simp) _ g1,slot,c,kp I (by simp) _ g2⟩
 item:=λi s Q E hi ⟨g1,slot,c,g2⟩ k=>by
  obtain⟨x,nx,h1,h2,h3⟩:=step i slot c hi
  refine Ij g2 g1 q3 q4 (λr=>h3 g1 r) λh' g3 sb=>k x _ h1 ⟨(sb.2 S nI).trans g1,nx,h2,g3⟩ ⟨λb u nb q=>(sb.2 b (by simpa using nb)).trans q,rfl,rfl,rfl,B0 _⟩
 done:=λs Q E ⟨g1,slot,c,g2⟩ k=>Pw hh g2 g1 q3 q4 (λr=>stop slot c g1 r) λh' kp=>k _ ⟨λb u nb q=>kp b u (by simpa using nb) q,rfl,rfl,rfl,B0 _⟩
 self:=λi s Q E ⟨g1,slot,c,g2⟩ k=>bH ⟨_,g2,rfl⟩ k
theorem XD{T:Addr}{ys:List Nat}{ot:Obj}{c:Nat}(hh:A.handled=none)(nI:S≠I)(nT:T≠I)(q3:o.data=.set es ep t)(q4:t.fits es.size=true)(hT2:ot.data=.seq (ys.map λ(i:Nat)=>rawInt i).toArray c)(hl:ys.length=es.size)
  (step:∀(i p:Nat),ys[i]?=some p->∃e,es[p]?=some e/\ord[i]?=some e.2) :
  WalksS P w A I [I,S,T] [I] (λa b=>b=a) es.size (λi v=>ord[i]?=some v) (λi s=>s.heap.get? S=some o/\s.heap.get? T=some ot/\s.heap.get? I=some (wW (.ref T) i S es.size ep)) where
 sub:=λb z=>by rw[Y0.mp z];exact G0
 grefl:=λ_=>rfl
 gtrans:=λ_ _ _ h1 h2=>h2.trans h1
 frame:=λi s h' tk ⟨g1,g0,g2⟩ _ kp=>⟨kp S (by simp) _ g1,kp T (by simp) _ g0,kp I (by simp) _ g2⟩
 item:=λi s Q E hi ⟨g1,g0,g2⟩ k=>by
  obtain⟨p,hp⟩:∃p,ys[i]?=some p:=⟨_,A0 (by omega)⟩
  obtain⟨e,h1,h2⟩:=step i p hp
  exact WD g2 g1 q3 q4 g0 hT2 hp h1 λh' g3 sb=>k e.2 _ h2 ⟨(sb.2 S nI).trans g1,(sb.2 T nT).trans g0,g3⟩ ⟨λb u nb q=>(sb.2 b (by simpa using nb)).trans q,rfl,rfl,rfl,B0 _⟩
 done:=λs Q E ⟨g1,g0,g2⟩ k=>Jj hh g2 g1 q3 q4 g0 hT2 (by rw[O4];omega) λh' kp=>k _ ⟨λb u nb q=>kp b u (by simpa using nb) q,rfl,rfl,rfl,B0 _⟩
 self:=λi s Q E ⟨g1,g0,g2⟩ k=>bH ⟨_,g2,rfl⟩ k
end
theorem YD:typeLookup (.type "set") "__len__"=pure (some (.builtin "set.__len__")):=by rw[typeLookup_type,builtinLookup_eq_fast];kernel_rfl
section
variable {P:Program}{w:World}{A:Around}{E:Value->Shared->Prop}{s:Shared}{S:Addr}
theorem dH{Q:Bool->Shared->Prop}(hT:s.TypeIs (.ref S) "set")(k:Q false s):wpAny (model P w) A (i7 (.ref S)) Q E s:=by
 unfold i7
 refine wpAny_bind (wpAny_specialOf hT YD ?_)
 have sp:splitId "set.__len__"=some ("set","__len__"):=by decide +kernel
 simp only[sp]
 refine wpAny_bind (wpAny_isInstance hT sub_set_self ?_)
 simp only[R7,S3,if_false]
 rw[if_pos (by decide +kernel)]
 refine wpAny_bind (wpAny_typeOf hT ?_)
 exact wpAny_pure k
theorem bW{I l:Addr}{fp:List Addr}{n:Nat}{Pv:Nat->Value->Prop}{St:Nat->Shared->Prop}{R:Result->Shared->Prop}{E':Value->Shared->Prop}(W:WalksS P w A.in1 I fp [I] (λa b=>b=a) n Pv St)(hn:n<=sizeLine)(nl:l∉fp)
  (hl:s.heap.get? l=some { cls:=.type "list",data:=.seq #[] 0 }) (st:St 0 s)
  (k:∀s' acc c,Moved [l,I] (λa b=>b=a) s s'->s'.heap.get? l=some { cls:=.type "list",dict:=none,data:=.seq acc c,slots:=#[] }->ItemsOf Pv acc n->R (.ok (.ret (.ref l))) s') :
  wpAny (model P w) A.in1 (rule "list.extend.makes-room" >>= λ_=>Builtin.List.listTouch (.ref l) >>= λ_=>again (.builtin "list.extend.loop" ⟨[.ref l,.ref I,.ref l],[]⟩))
   (λfin s'=>match fin with | .done f=>R (.ok f) s' | .again c=>c.quiet=true/\codeAny (model P w) A c R s') E' s:=by
 refine wpAny_bind (wpAny_rule (wpAny_bind ?_))
 show wpAny _ A.in1 (updateSeq l (·.push .none) >>= λ_=>updateSeq l (·.pop)) _ _ _
 refine wpAny_bind (wpAny_updateSeq hl rfl ?_)
 have g1:=V2 (K2 (·.push A4)) hl rfl
 refine wpAny_updateSeq g1 rfl ?_
 have g2:=V2 (K2 (·.pop)) g1 rfl
 have oth:∀b u,b≠l->s.heap.get? b=some u->((s.heap.update l (K2 (·.push A4))).update l (K2 (·.pop))).get? b=some u:=λb u nb q=>UZ nb (UZ nb q)
 refine wpAny_pure ⟨plainId_quiet F.plain_extend_loop _,codeAny_extend_loopS W hn l nl _ n 0 _ _ _ rfl (M4 _) (W.frame 0 s _ s.toks st (B0 _) λb z u q=>oth b u (λy=>nl (y ▸ z)) q) g2 (ItemsOf.nil Pv) λs' acc c mv g3 it=>?_⟩
 have m0:Moved [l,I] (λa b=>b=a) s { s with heap:=(s.heap.update l (K2 (·.push A4))).update l (K2 (·.pop)) }:=⟨λb u nb q=>oth b u (λy=>nb (by rw[y];exact G0)) q,rfl,rfl,rfl,B0 _⟩
 exact k s' acc c (Moved.trans W.gtrans m0 mv) g3 it
end
theorem ZD{ord:List Value}{acc:Array Value}{n:Nat}(h:ItemsOf (λi v=>ord[i]?=some v) acc n)(hl:ord.length=n):acc.toList=ord:=by
 refine m6 (by rw[W0,h.1,hl]) λi h1 h2=>?_
 have:=h.2 i (acc.toList[i]) (by rw[<- B2,A0 h1])
 have this:ord[i]?=some acc.toList[i]:=this
 rw[A0 h2]at this
 exact (Q1 this).symm
theorem qK:∀{l:List Value},(∀v∈l,∃tk,v=.int (kX v) tk)->IntsAre l (l.map kX)
 | [],_=>.nil
 | v :: l,h=>by
  obtain⟨tk,e⟩:=h v G0
  have r:=qK (l:=l) λx hx=>h x (J0 _ hx)
  rw[Z1]
  generalize kX v=m at e ⊢
  subst e
  exact .cons m tk r
section
variable {P:Program}{w:World}{A:Around}{E:Value->Shared->Prop}{s:Shared}{S:Addr}{σ:List Int}
theorem fH{Q:List Value->Shared->Prop}(hh:A.handled=none)(hS:IS P w (!w.params.followText "set-order") s.heap S σ)
  (k:∀h' d tk vs ms,(∀b u,s.heap.get? b=some u->h'.get? b=some u)->s.heap.objs.size < h'.objs.size->IntsAre vs ms->ms.Perm σ->Q vs { s with heap:=h',drawn:=d,toks:=tk }):wpAny (model P w) A (collect (.ref S)) Q E s:=by
 obtain⟨o,es,ep,t,q1,q2,q3,q4,q5,q6,q7,q8,q9⟩:=hS
 have lS:S < s.heap.objs.size:=M0 q1
 have psz:t.place.size=es.size:=by unfold SetTable.fits at q7;simp at q7;exact q7.1
 have fin:∀(ord:List Value),ord.Perm (es.toList.map (·.2))->IntsAre ord (ord.map kX)/\(ord.map kX).Perm σ/\ord.length=es.size:=λord hp=>by
  refine ⟨qK λv hv=>?_,?_,?_⟩
  ·obtain⟨e,he,rfl⟩:=T0.mp (hp.mem_iff.mp hv)
   exact UU q4 he
  ·refine (hp.map kX).trans ?_
   rw[B1]
   exact q5
  ·have:=hp.length_eq;simpa using this
 unfold collect
 refine wpAny_bind (wpAny_runValue (codeAny_builtin F.entry_proto_collect ?_));rw[Around.under_plainId F.plain_proto_collect _]
 show wpAny _ A.in1 (newList [] >>= λl=>again (.builtin "list.__iadd__" ⟨[l,.ref S],[]⟩)) _ _ s
 refine wpAny_bind (wpAny_newObj_type ?_)
 refine wpAny_pure ⟨plainId_quiet F.plain_list_iadd _,codeAny_builtin F.entry_list_iadd ?_⟩;rw[Around.under_plainId F.plain_list_iadd _]
 have nS:s.heap.objs.size≠S:=W2 lS
 have e0:=n0 (h:=s.heap) { cls:=.type "list",data:=.seq ([]:List Value).toArray } q1
 have el:(s.heap.push { cls:=.type "list",data:=.seq ([]:List Value).toArray }).get? s.heap.objs.size=some { cls:=.type "list",data:=.seq ([]:List Value).toArray }:=L0 _ rfl
 have sz:(s.heap.push { cls:=.type "list",data:=.seq ([]:List Value).toArray }).objs.size=s.heap.objs.size+1:=Y2 ..
 show wpAny _ A.in1 (j7 (.ref s.heap.objs.size) (.ref S) (.ref s.heap.objs.size)) _ _ _
 unfold j7
 refine wpAny_bind (wpAny_typeOf (T:="set") ⟨o,e0,q2.1⟩ ?_)
 have h1:U7 (.ref s.heap.objs.size) (.ref S)=false:=by simp[U7,nS]
 have h2:(M5 "set"==M5 "list")=false:=by decide
 have h3:(M5 "set"==M5 "tuple")=false:=by decide
 simp only[h1,h2,h3,Bool.or_false,S3,if_false]
 have done:∀(ord:List Value) (I:Addr) (s2 s':Shared) (acc:Array Value) (c:Nat),ord.Perm (es.toList.map (·.2))->s.heap.objs.size<=I->s2.gens=s.gens->s2.os=s.os->(∀b u,s.heap.get? b=some u->s2.heap.get? b=some u)->Moved [s.heap.objs.size,I] (λa b=>b=a) s2 s' ->
   s'.heap.get? s.heap.objs.size=some { cls:=.type "list",dict:=none,data:=.seq acc c,slots:=#[] }->ItemsOf (λi v=>ord[i]?=some v) acc es.size ->
   wpAny (model P w) A (load s.heap.objs.size >>= λob=>match ob.data with | .seq xs _=>pure xs.toList|_=>unsupported "internal:collect") Q E s':=λord I s2 s' acc c hp nI hg ho kp mv g it=>by
  obtain⟨f1,f2,f3⟩:=fin ord hp
  obtain⟨h',g',d',tk',os'⟩:=s'
  obtain rfl:g'=s.gens:=mv.gens.trans hg
  obtain rfl:os'=s.os:=mv.os.trans ho
  refine wpAny_bind (wpAny_load g (wpAny_pure ?_))
  rw[ZD it f3]
  refine k h' d' tk' ord _ (λb u q=>mv.heap b u ?_ (kp b u q)) (M0 g) f1 f2
  have lb:=M0 q
  simp only[K0,G1,or_false,not_or]
  exact ⟨S0 lb,S0 (U0 lb nI)⟩
 let RR:Result->Shared->Prop:=λr s'=>match r with
  | .ok (.ret v)=>wpAny (model P w) A (match v with | .ref a=>(do let ob<-load a;match ob.data with | .seq xs _=>pure xs.toList|_=>unsupported "internal:collect")|_=>unsupported "internal:collect") Q E s'
  | .ok _=>False
  | .error e=>E e s'
 have nIS:S≠s.heap.objs.size+1:=S0 (O3 lS)
 have hn:=fits_of_scanBound q6
 refine wpAny_bind (Hj e0 q2 q3 q7 q6 (λhb=>?a) (λhb ys d hp=>?b))
 case a =>
  refine wpAny_bind (wpAny_holding (dH ⟨o,n0 _ e0,q2.1⟩ ?_))
  rw[if_pos (by decide +kernel)]
  rw[show (s.heap.push { cls:=.type "list",data:=.seq ([]:List Value).toArray }).objs.size=s.heap.objs.size+1 from sz]
  have nl:s.heap.objs.size∉[s.heap.objs.size+1,S]:=by
   simp only[K0,G1,or_false,not_or]
   exact ⟨S0 (S4 _),nS⟩
  have gI:((s.heap.push { cls:=.type "list",data:=.seq ([]:List Value).toArray }).push (wW (rawInt 0) 0 S es.size ep)).get? (s.heap.objs.size+1)=some (wW (rawInt ((0:Nat):Int)) 0 S es.size ep):=by rw[<- sz];exact L0 _ rfl
  let s2:Shared:={ s with heap:=(s.heap.push { cls:=.type "list",data:=.seq ([]:List Value).toArray }).push (wW (rawInt 0) 0 S es.size ep) }
  cases ht:w.params.followText "set-order" with
  | true =>
   have pz:(pickOrder (w.params.setOrder S ep) es).size=es.size:=by have:=(aV (w.params.setOrder S ep) es).length_eq;simpa using this
   refine wpAny_mono (bW (R:=RR) (E':=λe s'=>E e s') (s:=s2) (cH (ord:=(pickOrder (w.params.setOrder S ep) es).toList.map (·.2)) (λ_ _=>True) (A:=A.in1) hh nIS q3 q7 (λi slot _ hi=>?_) (λslot _=>?_)) hn nl (n0 _ el) ⟨n0 _ e0,0,trivial,gI⟩ λs' acc c mv g it=>?_) (λfin s' h=>by cases fin with|done f=>(cases f<;>exact h)|again c=>exact ⟨h.1,codeAny_mono h.2 λr s3 hr=>by cases r with|error e=>exact hr|ok f=>(cases f<;>exact hr)⟩) (λ_ _ h=>h)
   ·obtain⟨e,he⟩:∃e,(pickOrder (w.params.setOrder S ep) es)[i]?=some e:=⟨_,B3 (by rw[pz];exact hi)⟩
    exact ⟨e.2,slot,by rw[R0,B2,he];rfl,trivial,λg1 r=>bV g1 q3 q7 ht (by rw[he];exact r)⟩
   ·exact λg1 r=>bV g1 q3 q7 ht (by rw[u8 (by rw[pz];exact B0 _)];exact r)
   ·exact done _ _ s2 s' acc c ((aV _ es).map _) (j5 _) rfl rfl (λb u q=>n0 _ (n0 _ q)) mv g it
  | false =>
   rw[ht]at hb q9
   have hpl:(!t.plain&&decide (es.size > 1))=false:=hb
   have hld:t.led=true:=q9
   refine wpAny_mono (bW (R:=RR) (E':=λe s'=>E e s') (s:=s2) (cH (ord:=es.toList.map (·.2)) (λi slot=>SetTable.below t.place slot=i) (A:=A.in1) hh nIS q3 q7 (λi slot hc hi=>?_) (λslot hc=>?_)) hn nl (n0 _ el) ⟨n0 _ e0,0,vG q8,gI⟩ λs' acc c mv g it=>?_) (λfin s' h=>by cases fin with|done f=>(cases f<;>exact h)|again c=>exact ⟨h.1,codeAny_mono h.2 λr s3 hr=>by cases r with|error e=>exact hr|ok f=>(cases f<;>exact hr)⟩) (λ_ _ h=>h)
   ·obtain⟨e,he⟩:∃e,es[i]?=some e:=⟨_,B3 hi⟩
    have hj:t.place[i]?=some (t.place.getD i 0):=by rw[B3 (by rw[psz];exact hi)];simp[x6,show i < t.place.size by rw[psz];exact hi]
    exact ⟨e.2,t.place.getD i 0+1,by rw[R0,B2,he];rfl,uG q8 (by rw[psz];exact hi),λg1 r=>ZY g1 q3 q7 ht hpl hld hc (by rw[he,hj];exact r)⟩
   ·exact λg1 r=>ZY g1 q3 q7 ht hpl hld hc (by rw[u8 (B0 _)];exact r)
   ·exact done _ _ s2 s' acc c (List.Perm.refl _) (j5 _) rfl rfl (λb u q=>n0 _ (n0 _ q)) mv g it
 case b =>
  refine wpAny_bind (wpAny_holding (dH ⟨o,n0 _ (n0 _ e0),q2.1⟩ ?_))
  rw[if_pos (by decide +kernel)]
  rw[show (s.heap.push { cls:=.type "list",data:=.seq ([]:List Value).toArray }).objs.size=s.heap.objs.size+1 from sz]
  have nl:s.heap.objs.size∉[s.heap.objs.size+1+1,S,s.heap.objs.size+1]:=by
   simp only[K0,G1,or_false,not_or]
   exact ⟨S0 (O3 (S4 _)),nS,S0 (S4 _)⟩
  let ot:Obj:={ cls:=.type "tuple",data:=.seq (ys.map λ(i:Nat)=>rawInt i).toArray }
  have gT:((s.heap.push { cls:=.type "list",data:=.seq ([]:List Value).toArray }).push ot).get? (s.heap.objs.size+1)=some ot:=by rw[<- sz];exact L0 _ rfl
  have sz2:((s.heap.push { cls:=.type "list",data:=.seq ([]:List Value).toArray }).push ot).objs.size=s.heap.objs.size+1+1:=by rw[Y2,sz]
  have gI:(((s.heap.push { cls:=.type "list",data:=.seq ([]:List Value).toArray }).push ot).push (wW (.ref (s.heap.objs.size+1)) 0 S es.size ep)).get? (s.heap.objs.size+1+1)=some (wW (.ref (s.heap.objs.size+1)) 0 S es.size ep):=by rw[<- sz2];exact L0 _ rfl
  have hyl:ys.length=es.size:=by have:=hp.length_eq;simpa using this
  let s2:Shared:={ s with heap:=((s.heap.push { cls:=.type "list",data:=.seq ([]:List Value).toArray }).push ot).push (wW (.ref (s.heap.objs.size+1)) 0 S es.size ep),drawn:=d }
  have hdf:∀p,p∈ys->p < es.size:=λp z=>Q3.mp (hp.mem_iff.mp z)
  have oe:(ys.map λp=>(es.getD p (0,A4)).2).Perm (es.toList.map (·.2)):=by
   refine (hp.map _).trans (List.Perm.of_eq ?_)
   refine m6 (by simp) λi h1 h2=>?_
   have:i < es.size:=by simpa using h1
   simp[x6,this]
  refine wpAny_mono (bW (R:=RR) (E':=λe s'=>E e s') (s:=s2) (XD (ord:=ys.map λp=>(es.getD p (0,A4)).2) (A:=A.in1) hh (S0 (O3 (O3 lS))) (S0 (S4 _)) q3 q7 (ot:=ot) rfl hyl (λi p hy=>?_)) hn nl
    (n0 _ (n0 _ el)) ⟨n0 _ (n0 _ e0),n0 _ gT,gI⟩ λs' acc c mv g it=>?_) (λfin s' h=>by cases fin with|done f=>(cases f<;>exact h)|again c=>exact ⟨h.1,codeAny_mono h.2 λr s3 hr=>by cases r with|error e=>exact hr|ok f=>(cases f<;>exact hr)⟩) (λ_ _ h=>h)
  ·have hp2:p < es.size:=hdf p (A1 hy)
   refine ⟨es.getD p (0,A4),by rw[B3 hp2];simp[x6,hp2],by rw[R0,hy];rfl⟩
  ·exact done _ _ s2 s' acc c oe (P7 (j5 _)) rfl rfl (λb u q=>n0 _ (n0 _ (n0 _ q))) mv g it
end
open PySem PySem.Spec PyProof.Rows PySem.W
noncomputable def Qw(ns:List Int)(v:Value):Nat:=(ns.filter λm=>decide (m < kX v)).length
theorem NF{ns:List Int}{a b:Int}(h:a<=b):(ns.filter λm=>decide (m < a)).length<=(ns.filter λm=>decide (m < b)).length:=by
 induction ns with
 | nil=>exact B0 _
 | cons c ns ih =>
  by_cases h1:c < a
  ·have h2:c < b:=by omega
   simp[h1,h2];exact ih
  ·by_cases h2:c < b
   ·simp[h1,h2];omega
   ·simp[h1,h2];exact ih
theorem Rw{ns:List Int}{a b:Int}(h:a < b)(ha:a∈ns):(ns.filter λm=>decide (m < a)).length < (ns.filter λm=>decide (m < b)).length:=by
 induction ns with
 | nil=>cases ha
 | cons c ns ih =>
  by_cases e:a=c
  ·subst e
   have:=NF (ns:=ns) (a:=a) (b:=b) (by omega)
   simp[h];omega
  ·have ih:=ih (by rcases K0.mp ha with z|z;exact absurd z e;exact z)
   by_cases h1:c < a
   ·have h2:c < b:=by omega
    simp[h1,h2];exact ih
   ·by_cases h2:c < b
    ·simp[h1,h2];omega
    ·simp[h1,h2];exact ih
theorem MV{ns:List Int}{x y:Value}(hx:kX x∈ns)(hy:kX y∈ns):Qw ns x < Qw ns y ↔ kX x < kX y:=by
 constructor
 ·intro h
  by_cases z:kX x < kX y
  ·exact z
  ·have:=NF (ns:=ns) (a:=kX y) (b:=kX x) (by omega)
   unfold Qw at h
   omega
 ·intro h;exact Rw h hx
theorem rK:∀{vs:List Value}{ns:List Int},IntsAre vs ns->vs.map kX=ns/\∀v∈vs,∃tk,v=.int (kX v) tk
 | _,_,.nil=>⟨rfl,λv h=>by cases h⟩
 | _,_,.cons n t r=>by
  obtain⟨h1,h2⟩:=rK r
  refine ⟨by rw[Z1,h1];rfl,λv hv=>?_⟩
  rcases K0.mp hv with rfl|hv
  ·exact ⟨t,rfl⟩
  ·exact h2 v hv
section
variable {P:Program}{w:World}{A:Around}{E:Value->Shared->Prop}{s:Shared}
theorem Kj{a:Addr}{n:Nat}{vs:List Value}{ns:List Int}{R:PySem.Fin->Shared->Prop}(ho:s.heap.get? a=some (seqObj "list" vs.toArray n))(hz:vs.length<=sizeLine)(hI:IntsAre vs ns)
  (k:∀(out:List Value),out.Perm vs->(out.map kX).Pairwise (·<=·)->R (.done (.ret .none)) { s with heap:=sortedHeap s.heap a vs out.toArray }):wpAny (model P w) A (Builtin.«list.sort» ⟨[.ref a],[]⟩) R E s:=by
 obtain⟨v1,v2⟩:=rK hI
 have mem:∀v∈vs,kX v∈ns:=λv hv=>by rw[<- v1];exact T0.mpr ⟨v,hv,rfl⟩
 refine pK (κ:=oneType') (rk:=Qw ns) ho hz (λh2 s' _ Q' q=>?_) (λs' _ x y hx hy Q' q=>?_) λout o1 o2=>k out o1 ?_
 ·match vs,h2,hI with
  | x :: y :: r,_,hI=>rw[keyKind_ints hI];exact wpAny_pure q
  | [_],h2,_=>simp at h2
  | [],h2,_=>simp at h2
 ·obtain⟨t1,e1⟩:=v2 x hx
  obtain⟨t2,e2⟩:=v2 y hy
  have r:=MV (mem x hx) (mem y hy)
  rw[show decide (Qw ns x < Qw ns y)=decide (kX x < kX y) from by simp only[r]]at q
  rw[keyLt'_oneType]
  generalize kX x=m1 at e1 q
  generalize kX y=m2 at e2 q
  subst e1
  subst e2
  exact oneLt_int q
 ·rw[K5]
  refine o2.imp_of_mem λ{x y} hx hy h=>?_
  have r:=MV (mem y (o1.mem_iff.mp hy)) (mem x (o1.mem_iff.mp hx))
  omega
end
theorem YE{h:Heap}{a:Addr}{vs:List Value}{n:Nat}{out:Array Value}(q:h.get? a=some (seqObj "list" vs.toArray n)):(∃e,(sortedHeap h a vs out).get? a=some (seqObj "list" out e))/\∀b u,b≠a->h.get? b=some u->(sortedHeap h a vs out).get? b=some u:=by
 obtain⟨e1,g1⟩:∃e1,(h.update a (K2 λ_=>#[])).get? a=some (seqObj "list" #[] e1):=⟨_,get?_update_seq q (λ_=>#[])⟩
 have g2:=n0 (seqObj "list" #[] 0) (n0 (seqObj "tuple" vs.toArray 0) g1)
 exact ⟨⟨_,get?_update_seq g2 (λ_=>out)⟩,λb u nb z=>UZ nb (n0 _ (n0 _ (UZ nb z)))⟩
section
variable {P:Program}{w:World}{A:Around}{E:Value->Shared->Prop}{s:Shared}{S:Addr}{σ:List Int}
theorem CG{Q:Value->Shared->Prop}(hh:A.handled=none)(hS:IS P w (!w.params.followText "set-order") s.heap S σ)(hz:σ.length<=sizeLine)
  (k:∀h' d tk p out e,(∀b u,s.heap.get? b=some u->h'.get? b=some u)->s.heap.objs.size<=p->h'.get? p=some (seqObj "list" out e)->(∃ms,IntsAre out.toList ms/\ms.Perm σ/\ms.Pairwise (·<=·))->Q (.ref p) { s with heap:=h',drawn:=d,toks:=tk }) :
  wpAny (model P w) A (call (.builtin "sorted") [.ref S]) Q E s:=by
 refine Calls.call_function_entry kind_sorted plain_sorted entry_sorted (args_sorted1 _) ?_;unfold Builtin.«sorted»
 refine wpAny_bind (m:=checkCount "sorted" 1 1 _) (wpAny_pure (wpAny_bind (fH hh hS λh1 d tk vs ms kp sz hI hp=>?_)))
 have vl:vs.length<=sizeLine:=by rw[IntsAre.length hI,hp.length_eq];exact hz
 refine wpAny_bind (wpAny_newList ?_ vl)
 have g:(h1.push (seqObj "list" vs.toArray 0)).get? h1.objs.size=some (seqObj "list" vs.toArray 0):=L0 _ rfl
 refine wpAny_bind (wpAny_holding (wpAny_call_entry slot_list_sort ⟨_,g,rfl⟩ entry_list_sort (Kj g vl hI λout o1 o2=>⟨_,rfl,?_⟩) (args_list_sort _)))
 obtain⟨⟨e,z1⟩,z2⟩:=YE (out:=out.toArray) g
 obtain⟨v1,v2⟩:=rK hI
 refine wpAny_pure ⟨_,rfl,k _ d tk _ out.toArray e (λb u q=>z2 b u (S0 (M0 (kp b u q))) (n0 _ (kp b u q))) (Y4 sz) z1 ⟨out.map kX,?_,?_,o2⟩⟩
 ·exact qK λv hv=>v2 v (o1.mem_iff.mp hv)
 ·refine (o1.map kX).trans ?_
  rw[v1]
  exact hp
end
noncomputable abbrev Sw(P:Program)(w:World)(p:Addr)(σ:List Int):HO:=.ext λh=>IS P w (!w.params.followText "set-order") h p σ
noncomputable def uy(P:Program)(w:World)(K:q0):List V->Hp->VK->Prop:=λxs H Q=>∃(a:Addr) (ns:List Int),xs=[.ref a]/\SqL K H a (ns.map V.int)/\ns.length+1 < scanBound /\
 ∀p,H p=none->Q (.ref p) (dX H p (Sw P w p (firstMet (λi=>ns.getD i 0) ns.length)))
theorem aq{X:Cx}(hc:X.calm=true):TQ X (.type "set") (uy X.prog X.w X.K):=by
 intro pins s σ H xs us Q I r h
 obtain⟨a,ns,rfl,hs,hb,q⟩:=h
 obtain⟨u,rfl,ru⟩:=XX r
 cases ru
 obtain⟨its,rv,⟨o,n,e,c,d1,d2⟩,hz⟩:=I.list hs
 have hl:=rv.length
 rw[p0]at hl
 refine WU (I.ok.hd hc) (items:=its.toArray) (ns:=ns) ⟨o,e,c,n,by first|exact d2|exact d1⟩ (by simpa using lX rv) (by simpa [<- hl]using hb) λh' tk x kp=>?_
 have hn:H s.heap.objs.size=none:=I.hok.fresh (B0 _)
 have x2:IS X.prog X.w (!X.w.params.followText "set-order") h' s.heap.objs.size (firstMet (λi=>ns.getD i 0) ns.length):=by
  have z:its.toArray.size=ns.length:=by simp[hl]
  rw[z]at x
  exact x
 obtain⟨oo,_,_,_,g1,_⟩:=id x2
 refine ⟨.ref s.heap.objs.size,dX H s.heap.objs.size (Sw X.prog X.w s.heap.objs.size (firstMet (λi=>ns.getD i 0) ns.length)),I.laid (t':=tk) (λb u e=>kp b u (M0 e) e) (B0 _) ?_,rfl,q _ hn⟩
 exact ⟨x2,⟨oo,g1⟩,λh1 h2 y z=>y.keeps z⟩
noncomputable def Lj(P:Program)(w:World):List V->Hp->VK->Prop:=λxs H Q=>∃(a:Addr) (σ:List Int),xs=[.ref a]/\H a=some (Sw P w a σ)/\σ.length<=sizeLine/\∀(p:Addr) (ms:List Int),H p=none->ms.Perm σ->ms.Pairwise (·<=·)->Q (.ref p) (dX H p (.lst (ms.map V.int)))
theorem DG{X:Cx}(hc:X.calm=true):TQ X (.builtin "sorted") (Lj X.prog X.w):=by
 intro pins s σ H xs us Q I r h
 obtain⟨a,τ,rfl,hs,hz,q⟩:=h
 obtain⟨u,rfl,ru⟩:=XX r
 cases ru
 have x:IS X.prog X.w (!X.w.params.followText "set-order") s.heap a τ:=(I.hok a _ hs).1
 refine CG (I.ok.hd hc) x hz λh' d tk p out e kp hp g ⟨ms,m1,m2,m3⟩=>?_
 have hn:H p=none:=I.hok.fresh hp
 have J:=I.laid (a:=p) (o:=.lst (ms.map V.int)) (h':=h') (t':=tk) kp hp ⟨by rw[p0,m2.length_eq];exact hz,out.toList,e,SZ m1,by rw[g]⟩
 exact ⟨.ref p,_,⟨J.ok,J.os,J.bare,J.base,J.loc,J.cell,J.free,J.freeC,J.pin,J.hok,J.len⟩,rfl,q p ms hn m2 m3⟩
end L2
namespace L3
open PySem PySem.Spec PyProof.Rows L2
noncomputable def TM:D->(Sl->Prop)->Prop
 | .list ds,Q=>∃ns:List Int,ds=ns.map j0/\ns.length+1 < scanBound/\∀ms:List Int,ms.Perm (firstMet (λi=>ns.getD i 0) ns.length)->ms.Pairwise (·<=·)->Q (.ow (.list (ms.map j0)))
 | _,_=>False
theorem ZE{P:Program}{wd:World}{K:Fg}:WQ K (λvs H Q=>uy P wd K vs H λv H1=>Lj P wd [v] H1 Q) (o1 TM):=xH λG F σ H ρ x d Q Qd R h1 w k=>by
 cases d with
 | list ds =>
  obtain⟨ns,e,hb,w⟩:=w
  subst e
  obtain⟨a,us,rfl,e1,d1⟩:=h1.list R.sub
  have:=d1.ints_of
  subst this
  have sl:(firstMet (λi=>ns.getD i 0) ns.length).length<=sizeLine:=Z0 (firstMet_length_le _ _) (fits_of_scanBound (Nat.lt_of_succ_lt hb))
  refine ⟨a,ns,rfl,SqL.of e1,hb,λp hp=>⟨p,_,rfl,JQ,sl,λp2 ms hp2 m1 m2=>?_⟩⟩
  have R1:=R.laid (o:=Sw P wd p (firstMet (λi=>ns.getD i 0) ns.length)) hp
  obtain⟨R',r'⟩:=R1.newOw (o:=.lst (ms.map V.int)) (d:=.list (ms.map j0)) hp2 (DaAll.ints ms)
  exact k _ _ F _ (Sub.refl _) R' r' (w ms m1 m2)
 | _=>exact (w:False).elim
section
variable {X:Cx}{K:Fg}{e1:Expr}{a:AD}{p p2 pos pos':Pos}
theorem bq(hc:X.calm=true)(hK:X.K=K)(hm:X.mg "sorted"=none)(hm2:X.mg "set"=none)(ha:WA X [e1] (DQ ([a].map (qQ K))))(hg:Gl X "sorted":=by rfl)(hg2:Gl X "set":=by rfl)(he:KQ e1=true:=by rfl) :
  WE X (.Call (.Name "sorted" p) [.Call (.Name "set" p2) [e1] [] pos'] [] pos) (lift K (fY [a] (o1 TM))):=by
 subst hK
 exact ⟨NK (rY (DG hc) hg hm boot_sorted (WJ (xJ (aq hc) hg2 hm2 boot_set ha.h (by decide) (by decide) (rQ he) (qX rfl)) oV (rQ rfl)) (by decide) (by decide) (rQ rfl) (qX rfl)) λq=>CY ZE q⟩
end
end L3
namespace L2
open PySem PySem.Spec PyProof.Rows PySem.W
section
variable {P:Program}{w:World}{A:Around}{E:Value->Shared->Prop}{s:Shared}
theorem Mj{vs:List Value}{ns:List Int}(hI:IntsAre vs ns)(h2:2<=vs.length){Q:SortKind->Shared->Prop}(q:Q oneType' s):wpAny (model P w) A (keyKind' vs.toArray) Q E s:=by
 match vs,h2,hI with
 | x :: y :: r,_,hI=>rw[keyKind_ints hI];exact wpAny_pure q
 | [_],h2,_=>simp at h2
 | [],h2,_=>simp at h2
theorem EG{l:Addr}{vs:List Value}{ns:List Int}{Q:Value->Shared->Prop}(hl:s.heap.IsList l vs.toArray)(hz:vs.length<=sizeLine)(hI:IntsAre vs ns)
  (k:∀(out:Array Value) (ns':List Int),IntsAre out.toList ns'->ns'.Perm ns->ns'.Pairwise (·<=·)->Q (.ref (s.heap.objs.size+1)) { s with heap:=sortedAll s.heap vs out }) :
  wpAny (model P w) A (call (.builtin "sorted") [.ref l]) Q E s:=by
 obtain⟨v1,v2⟩:=rK hI
 have mem:∀v∈vs,kX v∈ns:=λv hv=>by rw[<- v1];exact T0.mpr ⟨v,hv,rfl⟩
 refine ZW (κ:=oneType') (rk:=Qw ns) hl hz ?_ ?_ ?_
 ·exact λh2 s' _ E' Q' q=>Mj hI h2 q
 ·intro s' _ x y hx hy Q' q
  obtain⟨t1,e1⟩:=v2 x hx
  obtain⟨t2,e2⟩:=v2 y hy
  have r:=MV (mem x hx) (mem y hy)
  rw[show decide (Qw ns x < Qw ns y)=decide (kX x < kX y) from by simp only[r]]at q
  rw[keyLt'_oneType]
  generalize kX x=m1 at e1 q
  generalize kX y=m2 at e2 q
  subst e1
  subst e2
  exact oneLt_int q
 ·intro out o1 o2
  have g1:IntsAre out.toArray.toList (out.map kX):=qK λv hv=>v2 v (o1.mem_iff.mp hv)
  have g2:(out.map kX).Perm ns:=by rw[<- v1];exact o1.map kX
  refine k out.toArray (out.map kX) g1 g2 ?_
  rw[K5]
  refine o2.imp_of_mem λ{x y} hx hy h=>?_
  have r:=MV (mem y (o1.mem_iff.mp hy)) (mem x (o1.mem_iff.mp hx))
  omega
end
noncomputable def FG(K:q0):List V->Hp->VK->Prop:=λxs H Q=>∃(a:Addr) (ns:List Int),xs=[.ref a]/\SqL K H a (ns.map V.int) /\
 ∀(p:Addr) (ns':List Int),H p=none->ns'.Perm ns->ns'.Pairwise (·<=·)->Q (.ref p) (dX H p (.lst (ns'.map V.int)))
theorem GG{X:Cx}:TQ X (.builtin "sorted") (FG X.K):=by
 intro pins s σ H xs us Q I r h
 obtain⟨a,ns,rfl,hs,q⟩:=h
 obtain⟨u,rfl,ru⟩:=XX r
 cases ru
 obtain⟨its,rv,⟨o,n,e,c,d1,d2⟩,hz⟩:=I.list hs
 have hl:=rv.length
 rw[p0]at hl hz
 refine EG (vs:=its) (ns:=ns) ⟨o,e,c,n,by first|exact d2|exact d1⟩ (by rw[<- hl];exact hz) (lX rv) λout ns' hI hp hw=>?_
 obtain⟨ep,he⟩:=sortedAll_at s.heap its out
 have hn:H (s.heap.objs.size+1)=none:=I.hok.fresh (j5 _)
 have hl2:ns'.length=ns.length:=hp.length_eq
 refine ⟨.ref (s.heap.objs.size+1),dX H (s.heap.objs.size+1) (.lst (ns'.map V.int)),I.laid (t':=s.toks) (λb u e=>sortedAll_old e) (j5 _) ?_,rfl,q _ ns' hn hp hw⟩
 exact ⟨by rw[p0,hl2];exact hz,out.toList,ep,SZ hI,by rw[he]⟩
end L2
namespace L3
open PySem PySem.Spec PyProof.Rows L2
noncomputable def xB:D->(Sl->Prop)->Prop
 | .list ds,Q=>∃ns:List Int,ds=ns.map j0/\∀ns':List Int,ns'.Perm ns->ns'.Pairwise (·<=·)->Q (.ow (.list (ns'.map j0)))
 | _,_=>False
theorem Nj{K:Fg}:WQ K (FG K) (o1 xB):=xH λG F σ H ρ x d Q Qd R h1 w k=>by
 cases d with
 | list ds =>
  obtain⟨ns,e,w⟩:=w
  subst e
  obtain⟨a,us,rfl,e1,d1⟩:=h1.list R.sub
  have:=d1.ints_of
  subst this
  refine ⟨a,ns,rfl,SqL.of e1,λp ns' hp h2 h3=>?_⟩
  obtain⟨R',r'⟩:=R.newOw (o:=.lst (ns'.map V.int)) (d:=.list (ns'.map j0)) hp (DaAll.ints ns')
  exact k _ _ F _ (Sub.refl _) R' r' (w ns' h2 h3)
 | _=>exact (w:False).elim
theorem gH{X:Cx}{K:Fg}(h:X.K=K):TQ X (.builtin "sorted") (FG K):=by subst h;exact GG
end L3
namespace HT
open PySem PyProof.Rows
section
open PySem.SeqAt
open PySem.AutoSeq1 (wpAny_loadPart')
open PySem.MeetsSeq PySem.MeetsSeq2 PySem.MeetsSeq3
variable {prog:Program}{w:World}{A:Around}{E:Value->Shared->Prop}{s:Shared}
theorem whole_tup{t sl:Addr}{items:Array Value}{vl vu:Value}{lo hi:Option Int}{Q:Value->Shared->Prop}(hT:IsTup s.heap t items)(hS:s.heap.IsSliceOf sl vl vu .none)(p1:IsPart vl lo)(p2:IsPart vu hi)
  (z1:sIx items.size 0 lo=0) (z2:sIx items.size items.size hi=items.size) (q:Q (.ref t) s):wpAny (model prog w) A (getItem (.ref t) (.ref sl)) Q E s:=by
 obtain⟨os,g1,g2,g3⟩:=id hS
 have tS:s.TypeIs (.ref sl) "slice":=⟨os,g1,g2⟩
 unfold getItem
 try with_reducible refine wpAny_holding ?_
 first|refine wpAny_bind (wpAny_pure ?_)|skip
 refine wpAny_bind (wpAny_sequenceKey hT.typeIs (by decide) ?_)
 refine wpAny_bind (wpAny_callSpecial?_slot (name:=Str.ofString "__getitem__") hT.typeIs N4 (wpAny_call_entry N4 hT.typeIs entry_tuple_getitem ?_ (args_tuple_getitem _ _)))
 show wpAny _ _ (A7 (.ref t) >>= _) _ _ s
 refine wpAny_bind (tupleItemsOf_ hT (wpAny_bind (wpAny_typeOf tS ?_)))
 rw[if_pos (by decide)]
 refine wpAny_bind (BZ hS p1 p2 ?_)
 have yes:((((sIx items.size 0 lo:Nat):Int)==0&&(1:Int)==1&&(sIx items.size items.size hi - sIx items.size 0 lo)==items.size)=true):=by
  rw[z1,z2]
  simp
 show wpAny _ _ (if (((sIx items.size 0 lo:Nat):Int)==0&&(1:Int)==1&&(sIx items.size items.size hi - sIx items.size 0 lo)==items.size)=true then _ else _) _ _ s
 rw[if_pos yes]
 refine wpAny_bind (m:=Builtin.Tuple.tupleIsExact _) (wpAny_bind (wpAny_typeOf hT.typeIs (wpAny_pure ?_)))
 rw[if_pos (by decide)]
 exact wpAny_bind (wpAny_rule (wpAny_pure ⟨_,rfl,wpAny_pure q⟩))
end
end HT
namespace L2
open PySem PySem.Spec PyProof.Rows
noncomputable def Oj(K:q0):V->Option Int->Option Int->Hp->VK->Prop:=λx lo hi H Q=>∃a xs,x=.ref a/\SqT K H a xs /\
 (zJ xs lo hi=xs->Q (.ref a) H)/\∀p,H p=none->Q (.ref p) (dX H p (.tup (zJ xs lo hi)))
theorem OF{X:Cx}:eL X (Oj X.K):=by
 intro pins s σ H x v vl vu lo hi sl Q I rx hS p1 p2 h
 obtain⟨a,xs,rfl,hx,q1,q2⟩:=h
 by_cases z:HT.sIx xs.length 0 lo=0/\HT.sIx xs.length xs.length hi=xs.length
 ·cases rx
  obtain⟨its,r,hT,hz⟩:=I.tuple hx
  have hl:its.toArray.size=xs.length:=by rw[P0];exact r.length.symm
  refine ⟨"tuple",_,N4.lookup,hT.typeIs,HT.whole_tup hT hS p1 p2 (by rw[hl];exact z.1) (by rw[hl];exact z.2) ⟨.ref a,H,I,rfl,q1 ?_⟩⟩
  unfold zJ
  rw[z.1,z.2]
  simp
 ·exact xu pins s σ H (.ref a) v vl vu lo hi sl Q I rx hS p1 p2 ⟨a,xs,rfl,hx,z,q2⟩
theorem PF(xs:List V){j:Int}(hj:0<=j):zJ xs none (some j)=xs.take j.toNat:=by
 unfold zJ
 have e2:HT.sIx xs.length xs.length (some j)=min j.toNat xs.length:=by
  show (if j < 0 then (j+(xs.length:Int)).toNat else min j.toNat xs.length)=_
  rw[if_neg (by omega)]
 rw[e2]
 show (xs.drop 0).take (min j.toNat xs.length - 0)=_
 rw[F8,Nat.sub_zero]
 by_cases h2:j.toNat<=xs.length
 ·rw[W5 h2]
 ·rw[Nat.min_eq_right (by omega),Y1 (by omega),Y1 (by omega)]
end L2
namespace L3
open PySem PySem.Spec PyProof.Rows L2
noncomputable def lN(a b c:AD)(f:D->Int->Int->(Sl->Prop)->Prop):TD:=λρ Q=>AX [a,b] ρ λxs ρ1=>gX ρ1 xs λds=>match ds with
 | [_,.int i]=>AX [c] ρ1 λzs ρ2=>gX ρ2 (xs.take 1++zs) λes=>match es with
  | [d,.int j]=>f d i j λr=>Q r ρ2
  | _=>False
 | _=>False
noncomputable def aI(r:V->Option Int->Option Int->Hp->VK->Prop):R2:=λx z H Q=>∃j,z=.int j/\r x none (some j) H Q
noncomputable def UM:D->Int->Int->(Sl->Prop)->Prop
 | .tuple ds,i,j,Q=>0<=i/\0<=j/\Q (.fz (.tuple ((ds.take j.toNat).drop i.toNat)))
 | _,_,_,_=>False
noncomputable def vy:D->D->(Sl->Prop)->Prop
 | .tuple ds,.int j,Q=>0<=j/\Q (.fz (.tuple (ds.take j.toNat)))
 | _,_,_=>False
theorem Tw{K:Fg}:WQ K (uK (aI (Oj K))) (o2 vy):=bG λG F σ H ρ x y d e Q Qd R h1 h2 w k=>by
 cases d<;>first|exact w.elim|(cases e<;>first|exact w.elim|skip)
 rename_i ds j
 obtain⟨w1,w⟩:=w
 cases h2.int
 obtain⟨a,us,rfl,f1,e1,d1⟩:=h1.tuple R.sub
 have dc:=d1.take j.toNat
 refine ⟨j,rfl,a,us,rfl,SqT.of e1,λz=>?_,λp hp=>?_⟩
 ·rw[PF us w1]at z
  refine k _ H F (.fz _) (Sub.refl _) R (Da.tup f1 ?_) w
  rw[z]at dc
  exact dc
 ·rw[PF us w1]
  obtain⟨sb,R',dd⟩:=R.newTup hp dc
  exact k _ _ _ (.fz _) sb R' dd w
section
variable {X:Cx}{K:Fg}{e1 e2 e3:Expr}{a b c:AD}{p pos p2 apos cpos:Pos}{x:Str}
theorem IK(hK:X.K=K)(ha:WE X e1 (qQ K a))(hb:WE X e2 (qQ K b)):WE X (.Subscript e1 (.Slice none (some e2) none p2) pos) (lift K (fY [a,b] (o2 vy))):=by
 subst hK
 exact ⟨NK (YJ OF ha.h dY (eY hb.h)) λq=>VH (P:=λx z H=>aI (Oj X.K) x z H _) (CY Tw q)⟩
end
section
variable {X:Cx}{K:Fg}{ec:Expr}{p p1 p2 p3 p4 p5 p6 p7 p8 p9 pa pb pc pd pe pf pg ph pi' pj pk pl:Pos}{x y a b c:Str}{tc:CK}
end
noncomputable def Uw:D->(Sl->Prop)->Prop
 | .int j,Q=>vE 0 j/\j.toNat<=2 ^ 24/\Q (.ow (.list (PQ 0 j.toNat)))
 | _,_=>False
theorem Vw{K:Fg}{G:Gh}{F:Hp}{σ:L2.St}{H:Hp}{ρ:Ev}{x:V}{j:Int}{Q:VK}{Qd:Sl->Prop}(R:Rel K G F σ H ρ)(h1:At K F H x (.int j))(w:Uw (.int j) Qd)(k:∀v H' F' s,Sub F F'->Rel K G F' σ H' ρ->Res K G F' H' σ ρ v s->Qd s->Q v H'):tw [x] H λv H1=>jY [v] H1 Q:=by
 cases h1.int
 refine ⟨0,j,.inr ⟨rfl,rfl⟩,λp hp=>⟨p,0,j,rfl,JQ,w.1,by have:=w.2.1;omega,λl hl=>?_⟩⟩
 have ej:(j - 0).toNat=j.toNat:=by omega
 rw[ej]
 have R1:Rel K G F σ (dX H p (.rng 0 j)) ρ:=R.laid hp
 have da:DaAll K F ((S1 j.toNat).map λ(n:Nat)=>V.int (0+n)) (PQ 0 j.toNat):=by
  have:=DaAll.ints (K:=K) (F:=F) ((S1 j.toNat).map λ(n:Nat)=>(0:Int)+(n:Int))
  simpa [PQ,B1,Function.comp_def]using this
 obtain⟨R',r'⟩:=R1.newOw (o:=.lst _) (d:=.list (PQ 0 j.toNat)) hl da
 exact k _ _ F _ (Sub.refl _) R' r' w.2.2
theorem yB{K:Fg}:WQ K (λvs H Q=>tw vs H λv H1=>jY [v] H1 Q) (o1 Uw):=xH λG F σ H ρ x d Q Qd R h1 w k=>by
 cases d with
 | int j=>exact Vw R h1 w k
 | _=>exact w.elim
section
variable {X:Cx}{K:Fg}{e e1:Expr}{a:AD}{p p2 pos pos':Pos}
theorem AB(h:PE X e (EC jY (Jq (EC tw (DQ ([a].map (qQ K)))) nu))):PE X e (lift K (fY [a] (o1 Uw))):=NK h λq=>CY yB q
theorem bI(hc:X.calm=true)(hm:X.mg "list"=none)(hm2:X.mg "range"=none)(ha:WA X [e1] (DQ ([a].map (qQ K))))(hg:Gl X "list":=by rfl)(hg2:Gl X "range":=by rfl)(he:KQ e1=true:=by rfl) :
  WE X (.Call (.Name "list" p) [.Call (.Name "range" p2) [e1] [] pos'] [] pos) (lift K (fY [a] (o1 Uw))) :=
 ⟨AB (xJ (JU hc) hg hm boot_list (WJ (xJ Tz hg2 hm2 boot_range ha.h (by decide) (by decide) (rQ he) (qX rfl)) oV (rQ rfl)) (by decide) (by decide) (rQ rfl) (qX rfl))⟩
end
end L3
namespace L2
open PySem PySem.Spec PyProof.Rows PySem.W
noncomputable abbrev mZ:=List Int×List Int
noncomputable def Ww(x y:mZ):Bool:=if x.1=y.1 then HT.lexLt x.2 y.2 else HT.lexLt x.1 y.1
theorem BB:SG.Wk Ww:=by
 have W:=SG.lex_wk
 refine ⟨λa=>?_,λa b c h1 h2=>?_,λa b c h1 h2=>?_⟩
 ·unfold Ww;rw[if_pos rfl];exact W.irr _
 ·unfold Ww at h1 h2 ⊢
  by_cases e1:a.1=b.1
  ·rw[if_pos e1]at h1
   by_cases e2:b.1=c.1
   ·rw[if_pos e2]at h2
    rw[if_pos (e1.trans e2)]
    exact W.tr _ _ _ h1 h2
   ·rw[if_neg e2]at h2
    rw[if_neg (by rw[e1];exact e2),e1]
    exact h2
  ·rw[if_neg e1]at h1
   by_cases e2:b.1=c.1
   ·rw[if_neg (by rw[<- e2];exact e1),<- e2]
    exact h1
   ·rw[if_neg e2]at h2
    have h3:=W.tr _ _ _ h1 h2
    rw[if_neg (λz=>by rw[z,W.irr]at h3;cases h3)]
    exact h3
 ·unfold Ww at h1 h2 ⊢
  by_cases e1:a.1=b.1
  ·rw[if_pos e1]at h1
   by_cases e2:b.1=c.1
   ·rw[if_pos e2]at h2
    rw[if_pos (e1.trans e2)]
    exact W.nt _ _ _ h1 h2
   ·rw[if_neg e2]at h2
    rw[if_neg (by rw[e1];exact e2),e1]
    exact h2
  ·rw[if_neg e1]at h1
   by_cases e2:b.1=c.1
   ·rw[if_neg (by rw[<- e2];exact e1),<- e2]
    exact h1
   ·rw[if_neg e2]at h2
    have h3:=W.nt _ _ _ h1 h2
    by_cases e3:a.1=c.1
    ·exfalso
     rw[<- e3]at h2
     exact e1 (SG.lex_eq h1 h2)
    ·rw[if_neg e3];exact h3
noncomputable def xW(H:Hp)(c:Addr)(x:mZ):Prop:=∃a b,H c=some (.tup [.ref a,.ref b])/\H a=some (.tup (x.1.map V.int))/\H b=some (.tup (x.2.map V.int))
noncomputable def Pj(H:Hp):V->mZ
 | .ref c=>match H c with
  | some (.tup [x,y])=>(aU H x,aU H y)
  | _=>([],[])
 | _=>([],[])
theorem Qj{H:Hp}{c:Addr}{r:List Int}(h:H c=some (.tup (r.map V.int))):aU H (.ref c)=r:=by
 show (match H c with|some (.tup xs)=>xs.map AE|_=>[])=r
 rw[h]
 exact pJ r
theorem cW(H:Hp)(c:Addr)(x:mZ)(h:xW H c x):Pj H (.ref c)=x:=by
 obtain⟨a,b,h1,h2,h3⟩:=h
 show (match H c with|some (.tup [x,y])=>(aU H x,aU H y)|_=>([],[]))=x
 rw[h1]
 show (aU H (.ref a),aU H (.ref b))=x
 rw[Qj h2,Qj h3]
theorem Rj{X:Cx}{pins:List (Addr×Obj)}{σ:St}{H:Hp}{s:Shared}{a b:Addr}{x y:List Int}{A:Around}(I:Inv X pins σ H s)(hu:A.units < cLine)(ha:H a=some (.tup (x.map V.int)))(hb:H b=some (.tup (y.map V.int))){s':Shared}(k:∀b o,s.heap.get? b=some o->s'.heap.get? b=some o) :
  SeqAt.EqAt A s' (.ref a) (.ref b) (decide (x=y)):=by
 by_cases e:a=b
 ·subst e
  rw[ha]at hb
  injection hb with hb;injection hb with hb
  rw[oj hb,decide_eq_true rfl]
  exact SeqAt.EqAt.same _
 ·have I':Inv X pins σ H { s with heap:=s'.heap }:=I.kept (t':=s.toks) k
  obtain⟨_,ia,ra,ta⟩:=(show ObjOk X.prog X.w H s'.heap a (.tup (x.map V.int)) from I'.hok a _ ha)
  obtain⟨_,ib,rb,tb⟩:=(show ObjOk X.prog X.w H s'.heap b (.tup (y.map V.int)) from I'.hok b _ hb)
  have la:=ra.length
  have lb:=rb.length
  rw[p0]at la lb
  have h:=SeqAt.RcAt.tuples (A:=A) (s:=s') (e:=λk=>x.getD k 0==y.getD k 0) ta.t tb.t hu λj h1 h2=>by
   obtain⟨t1,e1⟩:=QK ra (k:=j) (by simpa using h1)
   obtain⟨t2,e2⟩:=QK rb (k:=j) (by simpa using h2)
   simp only[List.getElem_toArray]
   rw[e1,e2]
   exact SeqAt.EqAt.int_int _ _ _ _
  have hv:((S1 (min ia.toArray.size ib.toArray.size)).all (λk=>x.getD k 0==y.getD k 0)&&ia.toArray.size==ib.toArray.size)=decide (x=y):=by
   simp only[P0,<- la,<- lb]
   by_cases z:x=y
   ·subst z
    rw[decide_eq_true rfl]
    simp
   ·rw[decide_eq_false z,n4]
    intro hb
    rw[Q4,Q6,beq_iff_eq]at hb
    refine z (m6 hb.2 λk k1 k2=>?_)
    have:=hb.1 k (Q3.mpr (by omega))
    rw[beq_iff_eq,Z2,Z2,A0 k1,A0 k2]at this
    exact this
  rw[<- hv]
  exact SeqAt.EqAt.of_refs e h
theorem HG{X:Cx}(hu:X.A.units+2 < cLine):TQ X (.builtin "sorted") (PJ X.K xW Pj Ww):=by
 have hu1:X.A.in1.in1.units < cLine:=by show X.A.units+2 < cLine;exact hu
 refine VY (κ:=tuples' false) BB cW (λ{pins s σ H} I its h2 at' s' k E' Q' q'=>?_) (λ{pins s σ H} I c d x y hx hy s' k Q' q'=>?_)
 ·have gen:∀(l:List Value),(∀v∈l,∃(c:Addr) (r:mZ),v=.ref c/\xW H c r)->∃fs:List Value,KatTups s'.heap l fs/\fs.length=l.length/\∀v∈fs,Looks (model X.prog X.w) s'.heap (typeOf v) (.type "tuple"):=by
   intro l
   induction l with
   | nil=>intro _;exact ⟨[],.nil,rfl,λv hv=>by simp at hv⟩
   | cons v l ih =>
    intro hl
    obtain⟨fs,f1,f2,f3⟩:=ih λx hx=>hl x (J0 _ hx)
    obtain⟨c,r,rfl,a,b,hc,ha,hb⟩:=hl v G0
    obtain⟨_,itc,rc,ob,e1,e2,m,e3,_⟩:=(show ObjOk X.prog X.w H s.heap c (.tup [.ref a,.ref b]) from I.hok c _ hc)
    obtain⟨u1,u2,rfl,r1,r2⟩:=aJ rc
    cases r1
    obtain⟨_,itb,rb,oa,g1,g2,_⟩:=(show ObjOk X.prog X.w H s.heap a (.tup (r.1.map V.int)) from I.hok a _ ha)
    refine ⟨.ref a :: fs,.cons (k _ _ e1) e2 e3 rfl f1,by simp[f2],λv hv=>?_⟩
    rcases K0.mp hv with rfl|hv
    ·have:=(show Looks (model X.prog X.w) s'.heap (typeOf (.ref a)) oa.cls from (Looks.ld (k _ _ g1)).andThen .now)
     rw[g2]at this
     exact this
    ·exact f3 v hv
  obtain⟨fs,f1,f2,f3⟩:=gen its at'
  exact kat_kind (T:=.type "tuple") f1 (by omega) f3 (by decide) q'
 ·obtain⟨a1,b1,hc1,ha1,hb1⟩:=hx
  obtain⟨a2,b2,hc2,ha2,hb2⟩:=hy
  obtain⟨_,ic,rc,oc,c1,c2,m1,c3,_⟩:=(show ObjOk X.prog X.w H s.heap c (.tup [.ref a1,.ref b1]) from I.hok c _ hc1)
  obtain⟨_,id',rd,od,d1,d2,m2,d3,_⟩:=(show ObjOk X.prog X.w H s.heap d (.tup [.ref a2,.ref b2]) from I.hok d _ hc2)
  obtain⟨u1,u2,rfl,r1,r2⟩:=aJ rc
  cases r1;cases r2
  obtain⟨w1,w2,rfl,r3,r4⟩:=aJ rd
  cases r3;cases r4
  have I':Inv X pins σ H { s with heap:=s'.heap }:=I.kept (t':=s.toks) k
  have lt1:∀{a b:Addr}{x y:List Int}{Q:Bool->Shared->Prop},H a=some (.tup (x.map V.int))->H b=some (.tup (y.map V.int))->Q (HT.lexLt x y) s'->wpAny (model X.prog X.w) X.A.in1.in1 (oneLt' false (.ref a) (.ref b)) Q (λ_ _=>False) s':=λ{a b x y Q} ha hb hq=>by
   obtain⟨_,ia,ra,ta⟩:=(show ObjOk X.prog X.w H s'.heap a (.tup (x.map V.int)) from I'.hok a _ ha)
   obtain⟨_,ib,rb,tb⟩:=(show ObjOk X.prog X.w H s'.heap b (.tup (y.map V.int)) from I'.hok b _ hb)
   exact kat_one _ _ (HT.lt_tupInts ta.t tb.t (lX ra) (lX rb) hu1 hq)
  refine kat_lt (k _ _ c1) c3 (k _ _ d1) d3 (kat_cons ?_)
  refine Rj I hu1 ha1 ha2 k _ _ _ _ ?_
  unfold Ww at q'
  refine kat_go (λq=>kat_yes (kat_cons ?_)) (λq=>kat_no ?_)
  ·have q:=of_decide_eq_true q
   rw[if_pos q]at q'
   refine Rj I hu1 hb1 hb2 k _ _ _ _ ?_
   refine kat_go (λz=>kat_yes ?_) (λz=>kat_no ?_)
   ·have z:=of_decide_eq_true z
    rw[z,SG.lex_wk.irr]at q'
    exact q'
   ·exact lt1 hb1 hb2 q'
  ·have q:=of_decide_eq_false q
   rw[if_neg q]at q'
   exact lt1 ha1 ha2 q'
end L2
namespace L3
open PySem PySem.Spec PyProof.Rows L2
noncomputable abbrev fQ(b:mZ):D:=.tuple [.tuple (b.1.map j0),.tuple (b.2.map j0)]
noncomputable def CB:D->(Sl->Prop)->Prop
 | .list ds,Q=>∃rows:List mZ,ds=rows.map fQ/\rows.length<=sizeLine/\∀rows':List mZ,rows'.Perm rows->rows'.Pairwise (λa b=>Ww b a=false)->Q (.ow (.list (rows'.map fQ)))
 | _,_=>False
theorem Sj{K:Fg}{F:Hp}{v:V}{r:mZ}(h:Da K F v (fQ r)):∃c,v=.ref c/\xW F c r:=by
 cases h with
 | tup h t =>
  cases t with
  | cons h1 t =>
   cases t with
   | cons h2 t =>
    cases t
    obtain⟨a,rfl,ha⟩:=HV h1
    obtain⟨b,rfl,hb⟩:=HV h2
    exact ⟨_,rfl,a,b,h,ha,hb⟩
theorem Xw{K:Fg}{F:Hp}{c:Addr}{r:mZ}(h:xW F c r):Da K F (.ref c) (fQ r):=by
 obtain⟨a,b,h1,h2,h3⟩:=h
 exact .tup h1 (.cons (.tup h2 (DaAll.ints _)) (.cons (.tup h3 (DaAll.ints _)) .nil))
theorem Tj{K:Fg}:WQ K (PJ K xW Pj Ww) (o1 CB):=xH λG F σ H ρ x d Q Qd R h1 w k=>by
 cases d<;>first|exact w.elim|skip
 case list ds =>
  obtain⟨rows,e,hz,w⟩:=w
  subst e
  obtain⟨a,us,rfl,e1,d1⟩:=h1.list R.sub
  have hl:=d1.length
  rw[p0]at hl
  have hrep:∀v∈us,∃c r,v=.ref c/\xW F c r/\r∈rows:=λv hv=>by
   obtain⟨d,hd,dv⟩:=d1.mem v hv
   obtain⟨r,hr,rfl⟩:=T0.mp hd
   obtain⟨c,rfl,hc⟩:=Sj dv
   exact ⟨c,r,rfl,hc,hr⟩
  have up:∀{c:Addr}{r:mZ},xW F c r->xW H c r:=λ{c r} ⟨a,b,h1,h2,h3⟩=>⟨a,b,R.sub _ _ h1,R.sub _ _ h2,R.sub _ _ h3⟩
  have hfe:∀v∈us,Pj H v=Pj F v:=λv hv=>by
   obtain⟨c,r,rfl,hc,_⟩:=hrep v hv
   rw[cW F c r hc,cW H c r (up hc)]
  refine ⟨a,us,rfl,SqL.of e1,by omega,λv hv=>?_,λp us' hp p' o'=>?_⟩
  ·obtain⟨c,r,rfl,hc,_⟩:=hrep v hv
   exact ⟨c,r,rfl,up hc⟩
  ·have em:us.map (Pj F)=rows:=by
    refine DaAll.map_eq (K:=K) (F:=F) (g:=fQ) (λv a h=>?_) d1
    obtain⟨c,rfl,hc⟩:=Sj h
    exact cW F c a hc
   have ee:us'.map (Pj H)=us'.map (Pj F):=K4 λv hv=>hfe v (p'.mem_iff.mp hv)
   rw[ee]at o'
   have dall:DaAll K F us' ((us'.map (Pj F)).map fQ):=by
    rw[B1]
    refine DaAll.map_of λv hv=>?_
    obtain⟨c,r,rfl,hc,_⟩:=hrep v (p'.mem_iff.mp hv)
    show Da K F (.ref c) (fQ (Pj F (.ref c)))
    rw[cW F c r hc]
    exact Xw hc
   obtain⟨R',r'⟩:=R.newOw (o:=.lst us') (d:=.list _) hp dall
   exact k _ _ F _ (Sub.refl _) R' r' (w _ (by rw[<- em];exact p'.map _) o')
theorem iH{X:Cx}{K:Fg}(h:X.K=K)(hu:X.A.units+2 < cLine):TQ X (.builtin "sorted") (PJ K xW Pj Ww):=by subst h;exact HG hu
noncomputable abbrev dI(ps:List (Int×Int)):D:=.dict (ps.map λp=>(.int p.1,.int p.2))
noncomputable def yW:List (Int×Int)->Int->Int->Int
 | [],_,x=>x
 | p :: ps,k,x=>if p.1=k then p.2 else yW ps k x
noncomputable def Uj(i j f:Nat):TD:=λρ Q=>∃(n m:Int) (ts:List Int) (u v:Int),ρ[i]?=some (some (.fz (.int n)))/\ρ[j]?=some (some (.fz (.int m)))/\ρ[f]?=some (some (.fz (.tuple (ts.map j0)))) /\
 n≠m/\TJ ts m=some u/\TJ ts n=some v/\Q (.ow (dI [(n,u),(m,v)])) ρ
theorem Yw{K:Fg}{i j f:Nat}{σ:L2.St}{H:Hp}{Q:VK}(h:lift K (Uj i j f) σ H Q) :
  Zq [(DX i,Ax (ZZ (kU K) (lU K)) (DX f) (DX j)),(DX j,Ax (ZZ (kU K) (lU K)) (DX f) (DX i))] σ H Q:=by
 obtain⟨G,F,ρ,Qd,R,⟨n,m,ts,u,v,e1,e2,e3,ne,a1,a2,w⟩,k⟩:=h
 obtain⟨v1,g1,d1⟩:=R.fz i _ e1
 cases d1
 obtain⟨v2,g2,d2⟩:=R.fz j _ e2
 cases d2
 obtain⟨v3,g3,d3⟩:=R.fz f _ e3
 obtain⟨a,xs,rfl,ea,da⟩:∃a xs,v3=.ref a/\H a=some (.tup xs)/\DaAll K F xs (ts.map j0):=by
  cases d3 with
  | tup h t=>exact ⟨_,_,rfl,R.sub _ _ h,t⟩
 have:=da.intsV
 subst this
 intro p hp
 have ea':dX H p (.dK []) a=some (.tup (ts.map V.int)):=by rw[oQ (pQ ea hp)];exact ea
 refine ⟨_,g1,_,g3,_,g2,.inr ⟨a,_,m,_,rfl,rfl,SqT.of ea',iY V.int a1,?_⟩⟩
 refine ⟨_,g2,_,g3,_,g1,.inr ⟨a,_,n,_,rfl,rfl,SqT.of ea',iY V.int a2,?_⟩⟩
 refine ⟨JQ,[(.inl n,.int u),(.inl m,.int v)],rfl,by show 2<=15;decide,?_⟩
 have em:GJ [] [(.inl n,V.int u),(.inl m,V.int v)]=[(.inl n,V.int u),(.inl m,V.int v)]:=by
  have:¬(Sum.inl n:HQ)=Sum.inl m:=λz=>ne (by injection z)
  simp[GJ,JZ,this]
 rw[em]
 obtain⟨R',r'⟩:=R.newOw (o:=.dK [(.inl n,.int u),(.inl m,.int v)]) (d:=dI [(n,u),(m,v)]) hp (DaKV.cons (k:=.inl n) (.int u) (DaKV.cons (k:=.inl m) (.int v) .nil))
 rw[Ix]
 exact k _ _ F _ ρ (Sub.refl _) R' r' w
noncomputable def wy(i k j:Nat):TD:=λρ Q=>∃(s:Sl) (ps:List (Int×Int)) (n x:Int),ρ[i]?=some (some s)/\s.d=dI ps/\ps≠[]/\ρ[k]?=some (some (.fz (.int n)))/\ρ[j]?=some (some (.fz (.int x)))/\Q (.fz (.int (yW ps n x))) ρ
theorem QF{K:Fg}{F:Hp}{k x:Int}:∀{kvs:List (HQ×V)}{ps:List (Int×Int)},DaKV K F kvs (ps.map λp=>(.int p.1,.int p.2))->(YZ kvs (.inl k)).getD (.int x)=.int (yW ps k x)
 | [],[],_=>rfl
 | [],_ :: _,h=>by cases h
 | _ :: _,[],h=>by cases h
 | (k0,v0) :: kvs,p :: ps,h=>by
  generalize e:((p :: ps).map λp=>((.int p.1,.int p.2):D×D))=es at h
  cases h with
  | cons hv hr =>
   injection e with e1 e2
   injection e1 with e1 e3
   subst e2
   subst e3
   cases hv
   cases k0 with
   | inr x=>cases e1
   | inl j =>
    have ej:p.1=j:=by injection e1
    subst ej
    unfold yW
    by_cases z:p.1=k
    ·rw[if_pos z,ZJ (by rw[z])]
     rfl
    ·rw[if_neg z,aK λq=>z (by injection q)]
     exact QF hr
theorem cI{K:Fg}{F:Hp}{v:V}{ps:List (Int×Int)}(ne:ps≠[])(h:Da K F v (dI ps)):∃a kvs,v=.ref a/\Rd F a (.dK kvs)/\DaKV K F kvs (ps.map λp=>(.int p.1,.int p.2)):=by
 cases ps with
 | nil=>exact absurd rfl ne
 | cons t tb =>
  generalize e:dI (t :: tb)=d at h
  cases h with
  | dk h1 h2 =>
   injection e with e
   rw[e]
   exact ⟨_,_,rfl,h1,h2⟩
  | dt h1 h2 =>
   injection e with e
   cases h2 with
   | nil=>cases e
   | cons _ _=>injection e with e _;injection e with e _;cases e
  | scr h1 =>
   injection e with e
   injection e with e _
   injection e with e _
   cases e
  | exc h1 =>
   injection e with e
   injection e with e _
   injection e with e _
   cases e
  | _=>cases e
theorem DB{K:Fg}{F:Hp}{o:HO}{ps:List (Int×Int)}(ne:ps≠[])(h:Own1 K F o (dI ps)):∃kvs,o=.dK kvs/\DaKV K F kvs (ps.map λp=>(.int p.1,.int p.2)):=by
 cases o with
 | dK kvs=>exact ⟨kvs,rfl,h⟩
 | dT kvs =>
  have h:DaKT K F kvs (ps.map λp=>(.int p.1,.int p.2)):=h
  cases ps with
  | nil=>exact absurd rfl ne
  | cons t tb =>
   generalize e:((t :: tb).map λp=>((.int p.1,.int p.2):D×D))=d at h
   cases h with
   | nil=>cases e
   | cons _ _=>injection e with e _;injection e with e _;cases e
 | _=>exact h.elim
theorem EB{K:Fg}{i k j:Nat}{σ:L2.St}{H:Hp}{Q:VK}(h:lift K (wy i k j) σ H Q):PH (DX i) (DX k) (DX j) σ H Q:=by
 obtain⟨G,F,ρ,Qd,R,⟨s,ps,n,x,ei,es,ne,ek,ej,w⟩,q⟩:=h
 obtain⟨v1,g1,d1⟩:=R.fz k _ ek
 cases d1
 obtain⟨v2,g2,d2⟩:=R.fz j _ ej
 cases d2
 have fin:∀a kvs,σ[i]?=some (some (V.ref a))->Rd H a (.dK kvs)->DaKV K F kvs (ps.map λp=>(.int p.1,.int p.2))->PH (DX i) (DX k) (DX j) σ H Q:=λa kvs hv hr hk =>
  ⟨_,hv,a,rfl,.inl ⟨kvs,hr⟩,_,g1,_,g2,YZ kvs (.inl n),.inl ⟨kvs,.inl n,hr,rfl,rfl⟩,by
    rw[QF (k:=n) (x:=x) hk]
    exact q _ _ F (.fz (.int (yW ps n x))) ρ (Sub.refl _) R (.int _) w⟩
 cases hs:fX s with
 | false =>
  cases s with
  | fz d =>
   have es:d=dI ps:=es
   subst es
   obtain⟨v,hv,dv⟩:=R.fz i _ ei
   obtain⟨a,kvs,rfl,hr,hk⟩:=cI ne dv
   exact fin a kvs hv (R.sub.rd hr) hk
  | ow d=>cases hs
  | io d=>cases hs
 | true =>
  obtain⟨a,o,hv,_,ho,w1⟩:=R.ow i s ei hs
  rw[es]at w1
  obtain⟨kvs,rfl,hk⟩:=DB ne w1
  exact fin a kvs hv (.inl ho) hk
section
variable {X:Cx}{K:Fg}{i j f k:Nat}{x y z:Str}{e:Expr}{p p1 p2 p3 apos cpos:Pos}
theorem Zw(h:PE X e (Zq [(DX i,Ax (ZZ (kU K) (lU K)) (DX f) (DX j)),(DX j,Ax (ZZ (kU K) (lU K)) (DX f) (DX i))])):WE X e (lift K (Uj i j f)):=⟨NK h Yw⟩
theorem FB(hu:X.A.units+1 < cLine)(hv:WE X (.Name x p1) (qQ K (.inl i)))(hk:WE X (.Name y p2) (qQ K (.inl k)))(hz:WE X (.Name z p3) (qQ K (.inl j)))(m:M2 X (.Name x p1) "get" apos (.Name y p2) (.Name z p3) cpos) :
  WE X (.Call (.Attribute (.Name x p1) "get" apos) [.Name y p2,.Name z p3] [] cpos) (lift K (wy i k j)):=⟨NK (bz hu hv.h hk.h hz.h m) EB⟩
end
noncomputable abbrev yH(ps:List (List HQ×List Int)):D:=.dict (ps.map λp=>(.tuple (p.1.map OX),.tuple (p.2.map j0)))
inductive TV (H:Hp):List (List HQ×V)->List (List HQ×List Int)->Prop
 | nil:TV H [] []
 | cons {ks b l kvs ps}:H b=some (.tup (l.map V.int))->TV H kvs ps->TV H ((ks,.ref b) :: kvs) ((ks,l) :: ps)
noncomputable def Vj(K:Fg):List V->Hp->VK->Prop:=λxs H Q=>∃(a:Addr) (kvs:List (List HQ×V)) (ps:List (List HQ×List Int)),xs=[.ref a]/\Rd H a (.dT kvs)/\TV H kvs ps /\
 (yH ps).showable=true/\(yH ps).depth+1<=64/\(yH ps).shown.length<=sizeLine/\Q (.str (yH ps).shown) H
theorem dW{h:Heap}:∀{l:List Int}{us:List Value},Vals (l.map V.int) us->ReadsAll h us (l.map j0) []
 | [],_,.nil=>.nil
 | i :: l,_,.cons r t=>by
  obtain⟨k,rfl⟩:=r
  exact ReadsAll.cons (as:=[]) (bs:=[]) (.int i k) (dW t)
theorem SJ{h:Heap}:∀{l:List HQ}{us:List Value},Vals (l.map kV) us->ReadsAll h us (l.map OX) []
 | [],_,.nil=>.nil
 | .inl i :: l,_,.cons r t=>by
  obtain⟨k,rfl⟩:=r
  exact ReadsAll.cons (as:=[]) (bs:=[]) (.int i k) (SJ t)
 | .inr x :: l,_,.cons r t=>by
  obtain⟨k,rfl⟩:=r
  exact ReadsAll.cons (as:=[]) (bs:=[]) (.str x k) (SJ t)
section
variable {X:Cx}{pins:List (Addr×Obj)}{σ:L2.St}{H:Hp}{s:Shared}
theorem IG(I:Inv X pins σ H s){b:Addr}{l:List Int}(h:H b=some (.tup (l.map V.int))):Reads s.heap (.ref b) (.tuple (l.map j0)) []:=by
 obtain⟨_,its,rv,o,e,c,n,q,_⟩:=(show ObjOk X.prog X.w H s.heap b (.tup (l.map V.int)) from I.hok b _ h)
 exact .tuple e c q (by simpa using dW rv)
theorem JG(I:Inv X pins σ H s){b:Addr}{l:List HQ}(h:H b=some (.tup (l.map kV))):Reads s.heap (.ref b) (.tuple (l.map OX)) []:=by
 obtain⟨_,its,rv,o,e,c,n,q,_⟩:=(show ObjOk X.prog X.w H s.heap b (.tup (l.map kV)) from I.hok b _ h)
 exact .tuple e c q (by simpa using SJ rv)
theorem jH(I:Inv X pins σ H s){knd:HeapKind X.prog X.w (List HQ)}:∀{kvs:List (List HQ×V)}{ps:List (List HQ×List Int)}{xs:List (List HQ×Addr×Value)},TV H kvs ps->KT H kvs xs ->
  ReadsAll s.heap ((xs.map (entryOfKey knd)).map (·.key)) (ps.map λp=>.tuple (p.1.map OX)) []/\ReadsAll s.heap ((xs.map (entryOfKey knd)).map (·.val)) (ps.map λp=>.tuple (p.2.map j0)) []
 | _,_,_,.nil,.nil=>⟨.nil,.nil⟩
 | _,_,(ks',b',v') :: xs,.cons (ks:=ks) (l:=l) hb t,.cons ⟨e,hk,hv⟩ r=>by
  obtain⟨i1,i2⟩:=jH I (knd:=knd) t r
  have hv:RelV (.ref _) v':=hv
  cases hv
  exact ⟨ReadsAll.cons (as:=[]) (bs:=[]) (JG I hk) i1,ReadsAll.cons (as:=[]) (bs:=[]) (IG I hb) i2⟩
end
theorem KG{X:Cx}{K:Fg}{k:Nat}(hK:X.K=K)(hr:Room k X.A):TQ X (.builtin "repr") (Vj K):=by
 subst hK
 intro pins s σ H xs us Q I r h
 obtain⟨a,kvs,ps,rfl,hd,tv,hs,hz,hl,q⟩:=h
 obtain⟨u,rfl,ru⟩:=XX r
 cases ru
 have hu:=hr.units
 have ho:ObjOk X.prog X.w H s.heap a (.dT kvs):=by
  rcases hd with e|⟨o,e⟩
  ·exact I.hok a _ e
  ·exact (show _/\_ from I.hok a _ e).2
 obtain⟨_,hsm,xs,kt,o,es,ep,e1,e2,e3,e4,_⟩:=ho
 obtain⟨r1,r2⟩:=jH I (knd:=tupleKind (OQ X.prog X.w)) tv kt
 have ra:Reads s.heap (.ref a) (yH ps) (a :: []++[]):=.dict (kvs:=ps.map λp=>(.tuple (p.1.map OX),.tuple (p.2.map j0))) e1 e2.1 e3 (by rw[e4,B1 (l:=ps)];exact r1) (by rw[e4,B1 (l:=ps)];exact r2)
 exact repr_of_reads' ra hs (λ_ z=>by
   have z:sysModules=a:=by simpa using z
   rw[z]at hsm
   simp at hsm) hr.gd (by omega) (λ_ _ e=>e) (λh' u tk hk=>⟨.str _,H,I.kept hk,⟨u,rfl⟩,q⟩) hl
noncomputable def Wj(K:Fg):List V->Hp->VK->Prop:=λxs H Q=>Uv K xs H Q\/Vj K xs H Q
theorem eW{X:Cx}{K:Fg}{k:Nat}(hK:X.K=K)(hr:Room k X.A):TQ X (.builtin "repr") (Wj K):=λpins s σ H xs us Q I r h=>h.elim (kG hK hr pins s σ H xs us Q I r) (KG hK hr pins s σ H xs us Q I r)
noncomputable def Xj(d:D)(Q:Sl->Prop):Prop:=wE d Q\/∃ps:List (List HQ×List Int),d=yH ps/\ps≠[]/\d.showable=true/\d.depth+1<=64/\d.shown.length<=sizeLine/\Q (.fz (.str d.shown))
theorem xy{K:Fg}{F H:Hp}(s:Sub F H):∀{kvs:List (List HQ×V)}{ps:List (List HQ×List Int)},DaKT K F kvs (ps.map λp=>(.tuple (p.1.map OX),.tuple (p.2.map j0)))->TV H kvs ps
 | [],[],_=>.nil
 | [],_ :: _,h=>by cases h
 | _ :: _,[],h=>by cases h
 | (ks,v) :: kvs,p :: ps,h=>by
  generalize e:((p :: ps).map λp=>((.tuple (p.1.map OX),.tuple (p.2.map j0)):D×D))=es at h
  cases h with
  | cons hv hr =>
   injection e with e1 e2
   injection e1 with e1 e3
   subst e2
   subst e3
   have ek:p.1=ks:=by
    injection e1 with e1
    refine (E6 λa b z=>?_).mp e1
    cases a<;>cases b<;>cases z<;>rfl
   obtain⟨k',l⟩:=p
   subst ek
   cases hv with
   | tup hb t =>
    have:=t.intsV
    subst this
    exact .cons (s _ _ hb) (xy s hr)
theorem GB{K:Fg}{F:Hp}{v:V}{ps:List (List HQ×List Int)}(ne:ps≠[])(h:Da K F v (yH ps)):∃a kvs,v=.ref a/\Rd F a (.dT kvs)/\DaKT K F kvs (ps.map λp=>(.tuple (p.1.map OX),.tuple (p.2.map j0))):=by
 cases ps with
 | nil=>exact absurd rfl ne
 | cons t tb =>
  generalize e:yH (t :: tb)=d at h
  cases h with
  | dt h1 h2 =>
   injection e with e
   rw[e]
   exact ⟨_,_,rfl,h1,h2⟩
  | dk h1 h2 =>
   injection e with e
   cases h2 with
   | nil=>cases e
   | @cons k _ _ _ _ _ _=>injection e with e _;injection e with e _;cases k<;>cases e
  | scr h1 =>
   injection e with e
   injection e with e _
   injection e with e _
   cases e
  | exc h1 =>
   injection e with e
   injection e with e _
   injection e with e _
   cases e
  | _=>cases e
theorem kH{K:Fg}:WQ K (Wj K) (o1 Xj):=xH λG F σ H ρ x d Q Qd R h1 w k=>by
 rcases w with⟨p1,p2,p3,p4,w⟩|⟨ps,rfl,ne,p2,p3,p4,w⟩
 ·exact .inl ⟨x,d,rfl,h1.is R.sub p1,p2,lK p1,p3,p4,k _ H F (.fz _) (Sub.refl _) R (Da.str _) w⟩
 ·obtain⟨a,kvs,rfl,hr,hk⟩:∃a kvs,x=.ref a/\Rd H a (.dT kvs)/\DaKT K F kvs (ps.map λp=>(.tuple (p.1.map OX),.tuple (p.2.map j0))):=by
   rcases h1 with h1|⟨a,o,rfl,_,e,h1⟩
   ·obtain⟨a,kvs,rfl,hr,hk⟩:=GB ne h1
    exact ⟨a,kvs,rfl,R.sub.rd hr,hk⟩
   ·cases o with
    | dT kvs=>exact ⟨a,kvs,rfl,.inl e,h1⟩
    | dK kvs =>
     have h1:DaKV K F kvs (ps.map λp=>(.tuple (p.1.map OX),.tuple (p.2.map j0))):=h1
     cases ps with
     | nil=>exact absurd rfl ne
     | cons t tb =>
      generalize e:((t :: tb).map λp=>((.tuple (p.1.map OX),.tuple (p.2.map j0)):D×D))=es at h1
      cases h1 with
      | nil=>cases e
      | @cons k _ _ _ _ _ _=>injection e with e _;injection e with e _;cases k<;>cases e
    | _=>exact h1.elim
  exact .inr ⟨a,kvs,ps,rfl,hr,xy R.sub hk,p2,p3,p4,k _ H F (.fz _) (Sub.refl _) R (Da.str _) w⟩
theorem RF(us:List V){i:Int}(h:0<=i):zJ us (some i) none=us.drop i.toNat:=by
 unfold zJ
 have e1:HT.sIx us.length 0 (some i)=min i.toNat us.length:=by
  show (if i < 0 then (i+(us.length:Int)).toNat else min i.toNat us.length)=_
  rw[if_neg (by omega)]
 rw[e1]
 show (us.drop (min i.toNat us.length)).take (us.length - min i.toNat us.length)=_
 rw[Y1 (by rw[P1];exact B0 _)]
 by_cases z:i.toNat<=us.length
 ·rw[W5 z]
 ·rw[Nat.min_eq_right (by omega),J4 (B0 _),J4 (by omega)]
noncomputable def eI(r:V->Option Int->Option Int->Hp->VK->Prop):R2:=λx z H Q=>∃j,z=.int j/\r x (some j) none H Q
noncomputable def yy:D->D->(Sl->Prop)->Prop
 | .tuple ds,.int j,Q=>0<=j/\Q (.fz (.tuple (ds.drop j.toNat)))
 | _,_,_=>False
theorem av{K:Fg}:WQ K (uK (eI (Oj K))) (o2 yy):=bG λG F σ H ρ x y d e Q Qd R h1 h2 w k=>by
 cases d<;>first|exact w.elim|(cases e<;>first|exact w.elim|skip)
 rename_i ds j
 obtain⟨w1,w⟩:=w
 cases h2.int
 obtain⟨a,us,rfl,f1,e1,d1⟩:=h1.tuple R.sub
 have dc:=d1.drop j.toNat
 refine ⟨j,rfl,a,us,rfl,SqT.of e1,λz=>?_,λp hp=>?_⟩
 ·rw[RF us w1]at z
  refine k _ H F (.fz _) (Sub.refl _) R (Da.tup f1 ?_) w
  rw[z]at dc
  exact dc
 ·rw[RF us w1]
  obtain⟨sb,R',dd⟩:=R.newTup hp dc
  exact k _ _ _ (.fz _) sb R' dd w
theorem JK{X:Cx}{K:Fg}{e1 e2:Expr}{a b:AD}{pos p2:Pos}(hK:X.K=K)(ha:WE X e1 (qQ K a))(hb:WE X e2 (qQ K b)):WE X (.Subscript e1 (.Slice (some e2) none none p2) pos) (lift K (fY [a,b] (o2 yy))):=by
 subst hK
 exact ⟨NK (YJ OF ha.h (eY hb.h) dY) λq=>VH (P:=λx z H=>eI (Oj X.K) x z H _) (CY av q)⟩
end L3
namespace L2
open PySem PySem.Spec PyProof.Rows
theorem LG:fillsNumberSlot (.type "tuple") "mul"=pure false :=
 PySem.fillsNumberSlot_seq (id:="tuple.__mul__") (r:=some (.builtin "tuple.__rmul__")) PySem.F.slot_tuple_mul.lookup (by decide +kernel) PySem.F.slot_tuple_rmul.lookup (by decide +kernel)
theorem bv:seqRepeat? (.type "tuple")=pure (some (.builtin "tuple.__mul__")):=by
 unfold seqRepeat?
 rw[PySem.seqSlot_of (T:="tuple") (name:="__mul__") (id:="tuple.__mul__") PySem.F.slot_tuple_mul.lookup (by decide +kernel),PySem.seqSlot_of (T:="tuple") (name:="__rmul__") (id:="tuple.__rmul__") PySem.F.slot_tuple_rmul.lookup (by decide +kernel)]
 rfl
theorem NV(a:Int)(t:Tok)(l:Addr)(items:Array Value)(n:Nat)(sl:Array (Option Value)) :
  Meets (Builtin.«int.__rmul__» ⟨[.int a t,.ref l],[]⟩) (λ_ R s=>s.heap.get? l=some { cls:=.type "tuple",dict:=none,data:=.seq items n,slots:=sl }/\R (.ok (.ret K8)) s) :=
 .of_wp λprog w A R s h=>by
  obtain⟨hp,g,d,tk,os⟩:=s
  obtain⟨hl,h⟩:=h
  wp_walk
  exact ⟨_,rfl,h⟩
theorem cv(l:Addr)(items:Array Value)(n:Nat)(sl:Array (Option Value))(k:Int)(t:Tok)(h1:2<=k)(h2:k < 2 ^ 63)(h3:items.isEmpty=false)(h4:items.size * k.toNat<=sizeLine) :
  Meets (Builtin.«tuple.__mul__» ⟨[.ref l,.int k t],[]⟩) (λ_ R s=>s.heap.get? l=some { cls:=.type "tuple",dict:=none,data:=.seq items n,slots:=sl } /\
    R (.ok (.ret (.ref s.heap.objs.size))) { s with heap:=s.heap.push { cls:=.type "tuple",data:=.seq (P6 (λx1 x2=>x1++x2) #[] (O0 k.toNat items)) } }) :=
 .of_wp λprog w A R s h=>by
  obtain⟨hp,g,d,tk,os⟩:=s
  obtain⟨hl,h⟩:=h
  have c1:(decide (k < -2 ^ 63)||decide (k ≥ 2 ^ 63))=false:=by simp;omega
  have c2:(items.isEmpty||k==1)=false:=by rw[h3];simp;omega
  have c3:(decide (k<=0)||items.isEmpty)=false:=by rw[h3];simp;omega
  have hk:((k.toNat:Nat):Int)=k:=by omega
  have hm:(items.size:Int) * k<=(sizeLine:Nat):=by rw[<- hk];exact_mod_cast h4
  have hs:(sizeLine:Nat)<=(2 ^ 63 - 1) / 8:=by decide
  have c4:¬((items.size:Int) * k > (2 ^ 63 - 1) / 8):=by omega
  wp_walk
  refine wpAny_ite_false (decide_eq_false (by rw[c1];exact X0)) ?_
  wp_walk
  refine wpAny_ite_false (decide_eq_false (by rw[c2];exact X0)) ?_
  wp_walk
  refine wpAny_ite_false (decide_eq_false (by rw[c3];exact X0)) ?_
  wp_walk
  rw[if_neg c4]
  wp_walk
  have c5:Builtin.Tuple.tupleTooMany ((items.size:Int) * k)=false:=decide_eq_false (by omega)
  refine wpAny_ite_false (decide_eq_false (by rw[c5];exact X0)) ?_
  have hsz:(P6 (λx1 x2=>x1++x2) #[] (O0 k.toNat items)).size<=sizeLine:=by
   have f0:∀(m:Nat) (acc:Array Value),(P6 (λx1 x2=>x1++x2) acc (O0 m items)).size=acc.size+m * items.size:=by
    intro m
    induction m with
    | zero=>intro acc;simp
    | succ m ih=>intro acc;rw[J3,X6,ih,Array.size_append,i8];omega
   rw[f0,Y8]
   simpa using h4
  wp_walk
  exact ⟨_,rfl,h⟩
noncomputable def zy:R2:=λx y H Q=>∃l k xs,x=.ref l/\y=.int k/\H l=some (.tup xs)/\xs≠[]/\2<=k/\k < 2 ^ 63/\xs.length * k.toNat<=sizeLine/\∀p,H p=none->Q (.ref p) (dX H p (.tup (O0 k.toNat xs).flatten))
theorem OV{X:Cx}:OpR X (binaryOp .Mult) zy:=by
 intro pins s σ H x y v u Q I rx ry h
 obtain⟨l,k,xs,rfl,rfl,hH,hne,h1,h2,hz,q⟩:=h
 cases rx
 obtain⟨t,rfl⟩:=ry
 obtain⟨z,its,r,⟨cls,dd,data,sl⟩,e,c,m,d,dn⟩:=(show ObjOk X.prog X.w H s.heap l (.tup xs) from I.hok l _ hH)
 simp only at c d dn
 subst c d dn
 have hl:=r.length
 have hem:its.toArray.isEmpty=false:=by
  cases its with
  | nil=>exact absurd (T5.mp hl) hne
  | cons=>rfl
 refine wpAny_binaryOp_repeat_ref (T:="tuple") (U:="int") (by decide) ⟨_,e,rfl⟩ (λs'=>typeIs_int s' k t) LG PySem.F.fills_int_mul PySem.F.slot_int_rmul bv PySem.F.slot_int_index.lookup
  (call_meets PySem.F.slot_int_rmul (typeIs_int s k t) PySem.F.entry_int_rmul (PySem.F.args_int_rmul_2 _ _) (NV k t l its.toArray m sl)
    ⟨e,rfl,⟨_,e,rfl⟩,call_meets PySem.F.slot_tuple_mul ⟨_,e,rfl⟩ PySem.F.entry_tuple_mul (PySem.F.args_tuple_mul_2 _ _) (cv l its.toArray m sl k t h1 h2 hem (by rw[P0,<- hl];exact hz)) ⟨e,?_⟩⟩)
 have f0:P6 (λx1 x2=>x1++x2) #[] (O0 k.toNat its.toArray)=(O0 k.toNat its).flatten.toArray:=by
  have:=yK its k.toNat []
  rw[v8]at this
  exact this
 rw[f0]
 exact ⟨.ref _,_,I.laid (t':=s.toks) (λb o e=>n0 _ e) (B0 _) (show ObjOk X.prog X.w _ _ _ (.tup (O0 k.toNat xs).flatten) from ⟨by rw[iF,Y8];exact hz,_,r.rep k.toNat,IsTupD.new _ _⟩),rfl,q _ I.fresh⟩
end L2
namespace L3
open PySem PySem.Spec PyProof.Rows L2
noncomputable def iI:D->D->(Sl->Prop)->Prop
 | .tuple ds,.int k,Q=>ds≠[]/\2<=k/\k < 2 ^ 63/\ds.length * k.toNat<=sizeLine/\Q (.fz (.tuple (O0 k.toNat ds).flatten))
 | _,_,_=>False
theorem PV{K:Fg}:WQ K (uK zy) (o2 iI):=bG λG F σ H ρ x y d e Q Qd R h1 h2 w k=>by
 cases d<;>first|exact w.elim|(cases e<;>first|exact w.elim|skip)
 rename_i ds n
 obtain⟨w0,w1,w2,w3,w⟩:=w
 cases h2.int
 obtain⟨a,us,rfl,f1,e1,d1⟩:=h1.tuple R.sub
 have hl:=d1.length
 refine ⟨a,n,us,rfl,rfl,e1,λz=>w0 (by rw[z]at hl;exact T5.mp hl.symm),w1,w2,by rw[hl];exact w3,λp hp=>?_⟩
 obtain⟨sb,R',dd⟩:=R.newTup hp (d1.rep n.toNat)
 exact k _ _ _ (.fz _) sb R' dd w
theorem DaAll.eraseIdx{K:Fg}{F:Hp}:∀{xs:List V}{ds:List D} (_:DaAll K F xs ds) (k:Nat),DaAll K F (xs.eraseIdx k) (ds.eraseIdx k)
 | _,_,.nil,_=>.nil
 | _,_,.cons _ t,0=>t
 | _,_,.cons h t,k+1=>.cons h (DaAll.eraseIdx t k)
noncomputable def HB:List D->List D->(D->D->Prop)->Prop
 | es,[.int i],k=>0<=i/\i < es.length/\i < 2 ^ 63/\∀d,es[i.toNat]?=some d->k (.list (es.eraseIdx i.toNat)) d
 | _,_,_=>False
theorem Yj{K:Fg}:Dx K Tq HB:=by
 intro F H a xs es vs ds Q k s e d1 d2 w q
 rcases ds with _|⟨d,_|⟨x,ds⟩⟩<;>first|exact w.elim|(cases d<;>first|exact w.elim|skip)
 rename_i i
 obtain⟨w0,w1,w2,w3⟩:=w
 cases d2 with|cons h t=>?_
 cases t
 cases h
 have hi:i.toNat < es.length:=by omega
 obtain⟨v,h1,h2⟩:=d1.get (A0 hi)
 exact ⟨a,xs,i,i.toNat,v,rfl,rfl,e,by omega,w2,by rw[d1.length];exact seqIndex_of w0 w1,h1,q v (.lst (xs.eraseIdx i.toNat)) (.list (es.eraseIdx i.toNat)) _ (d1.eraseIdx _) h2 (w3 _ (A0 hi))⟩
end L3
namespace R39
open PySem L2 L3 PyProof.Rows
noncomputable def top(i:Nat):Stmt:=PySem.Challenge.pw_boxsums_k39_no_partings.main.body.getD i (.Pass ⟨0,0,0,0⟩)
structure Txt(mg:Str->Option Value):Prop where
 len_:mg "len"=none
 max_:mg "max"=none
 min_:mg "min"=none
 all_:mg "all"=none
 isinstance_:mg "isinstance"=none
 tuple_:mg "tuple"=none
 list_:mg "list"=none
 dict_:mg "dict"=none
 set_:mg "set"=none
 int_:mg "int"=none
 bool_:mg "bool"=none
 range_:mg "range"=none
 zip_:mg "zip"=none
 enumerate_:mg "enumerate"=none
 repr_:mg "repr"=none
 sorted_:mg "sorted"=none
section
variable {P:Program}{w:World}{K:q0}{mg:Str->Option Value}{base:Heap}
noncomputable abbrev XQ(l:List Int):PyData:=.list (l.map j0)
noncomputable abbrev uQ(a b c:Int):PyData:=.list [.int a,.int b,.int c]
noncomputable def jI:Con:=λargs Q=>∃(ns:List Int) (k:Int),args=[.fz (uZ ns),.fz (.int k)]/\0<=k/\k<=1000/\∀(a b:Int) (o:Ev),0<=a->0<=b->Q (.ow (uQ a b 0)) o
theorem kI:FnScope ["_law_script","_law_k","_law_cell"] ["_law_script","_law_k"] (jQ (top 14)):=⟨rfl,rfl,rfl,by decide +kernel,rfl,by decide +kernel,by decide +kernel⟩
theorem IB{f:Addr}{fd:FuncData}(F:Fun K "_law_pen" "_law_pen" (top 14) f fd)(T:Txt mg):FnOk P w K mg base WZ 1 f fd ["_law_script","_law_k"] (lQ K jI):=by
 have S:=kI
 refine OK F S (λcdv A outer s H E hr=>(dQ (xQ (i:=2) S.nd rfl (Or.inl rfl) cQ)
     (dQ (tX (FQ SW CW (wx (mQ CQ (kQ (K:=K) rfl) T.len_ PySem.boot_len (aQ (wn 0) bQ))) (wx cQ)) (nQ (xQ (i:=2) S.nd rfl (Or.inl rfl) (GQ rfl (wn 0) (wx (w_bin KJ FJ (wn 1) (wx (mQ CQ (kQ (K:=K) rfl) T.len_ PySem.boot_len (aQ (wn 0) bQ)))))))) UQ)
     (dQ (tX (ww (Xv (FQ JY pY (wn 1) (wx (mQ CQ (kQ (K:=K) rfl) T.len_ PySem.boot_len (aQ (wn 0) bQ)))) (Yz (FQ Tv Hv (wn 2) (wx (w_bin Sz Fq (wx cQ) (wx cQ))))))) (nQ (AQ (RQ (aQ (wx (wv 2)) (aQ (wx cQ) (aQ (wx cQ) bQ)))))) UQ)
     (nQ (AQ (RQ (aQ (wx cQ) (aQ (wx (w_bin gQ eQ (wx (w_bin KJ FJ (wn 2) (wx cQ))) (wx (w_bin JJ PZ (wx cQ) (wn 1))))) (aQ (wx cQ) bQ)))))))))) ?_ ?_
 ·rintro args Qd ⟨ns,k,rfl,_⟩;rfl
 ·rintro args Qd ⟨ns,k,rfl,k0,k1,q⟩
  have fin:∀(c:Int) (o:Ev),Qd (.ow (uQ 0 (c % 999999937+70001 * k) 0)) o:=λc o=>by
   have:=Z6 c (show (999999937:Int)≠0 by decide)
   exact q _ _ _ (by decide) (by omega)
  refine ⟨BQ rfl,?_⟩
  refine ⟨ns,rfl,?_⟩
  refine eX (λh1=>?_) (λh1=>?_)
  ·have hp:0 < ns.length:=by have:(0:Int) < (ns.length:Int):=of_decide_eq_true h1;omega
   have hb:=u7 k (show (0:Int) < ns.length by omega)
   have ha:=Z6 k (show (ns.length:Int)≠0 by omega)
   obtain⟨j,hj⟩:=K1 ha
   have hjl:j < ns.length:=by omega
   refine ⟨ns,rfl,by show (0:Int) < (ns.length:Int);omega,ns,ns[j],rfl,by rw[hj];exact YQ (A0 hjl),?_⟩
   refine ⟨ns,rfl,?_⟩
   refine eX (λh3=>?_) (λh3=>?_)
   ·refine ⟨⟨by decide,by decide,by decide⟩,eX (λh4=>?_) (λh4=>?_)⟩
    ·have h4:(10:Int) ^ 18<=ns[j]:=of_decide_eq_true h4
     exact q _ _ _ (by omega) (by decide)
    ·exact ⟨by show (0:Int) < 999999937;decide,.inl ⟨by decide,by decide⟩,fin _ _⟩
   ·exact ⟨by show (0:Int) < 999999937;decide,.inl ⟨by decide,by decide⟩,fin _ _⟩
  ·refine ⟨ns,rfl,?_⟩
   refine eX (λh3=>?_) (λh3=>?_)
   ·exfalso
    have h3:k < (ns.length:Int):=of_decide_eq_true h3
    exact h1 (decide_eq_true (by omega))
   ·exact ⟨by show (0:Int) < 999999937;decide,.inl ⟨by decide,by decide⟩,fin _ _⟩
noncomputable def fW:Con:=λargs Q=>∃(a b c m:Int),args=[.io (uQ a b c),.fz (.int m)]/\0<=a/\0<=b/\0<=c/\0 < m/\m < 1000000 /\
 ∀(r a' b' c':Int) (o:Ev),0<=r->r < m->0<=a'->0<=b'->0<=c'->Q (.fz (.int r)) (some (.io (uQ a' b' c')) :: o)
theorem JB:FnScope ["_law_pen_here","_law_many","_law_found","_law_number_here"] ["_law_pen_here","_law_many"] (jQ (top 15)):=⟨rfl,rfl,rfl,by decide +kernel,rfl,by decide +kernel,by decide +kernel⟩
theorem jv{f:Addr}{fd:FuncData}(F:Fun K "_law_draw" "_law_draw" (top 15) f fd):FnOk P w K mg base WZ 1 f fd ["_law_pen_here","_law_many"] (lQ K fW):=by
 have S:=JB
 refine OK F S (λcdv A outer s H E hr=>(dQ (tX (FQ SW CW (wx (GQ rfl (wn 0) (wx cQ))) (wx cQ)) (dQ (xQ (i:=2) S.nd rfl (Or.inl rfl) (w_bin KJ FJ (wx (GQ rfl (wn 0) (wx cQ))) (wn 1)))
     (dQ (dB (w_bin kK VJ (wx (GQ rfl (wn 0) (wx cQ))) (wn 1)) (wn 0) (wx cQ))
     (nQ (BV (wn 2))))) UQ)
     (dQ (dB (w_bin gQ eQ (wx (GQ rfl (wn 0) (wx cQ))) (wx cQ)) (wn 0) (wx cQ))
     (dQ (xQ (i:=3) S.nd rfl (Or.inl rfl) (w_bin KJ FJ (wx (w_bin gQ eQ (wx (w_bin gQ eQ (wx (w_bin JJ PZ (wx (GQ rfl (wn 0) (wx cQ))) (wx cQ))) (wx (w_bin JJ PZ (wx (GQ rfl (wn 0) (wx cQ))) (wx cQ))))) (wx cQ))) (wx cQ)))
     (dQ (xQ (i:=3) S.nd rfl (Or.inl rfl) (w_bin KJ FJ (wx (w_bin JJ PZ (wn 3) (wx (w_bin gQ eQ (wx (w_bin KJ FJ (wn 3) (wx cQ))) (wx (GQ rfl (wn 0) (wx cQ))))))) (wx cQ)))
     (nQ (AQ (w_bin KJ FJ (wx (w_bin kK VJ (wn 3) (wx cQ))) (wn 1))))))))) ?_ ?_
 ·rintro args Qd ⟨a,b,c,m,rfl,_⟩;rfl
 ·rintro args Qd ⟨a,b,c,m,rfl,ha,hb,hc,m0,m1,q⟩
  have hmd:∀x:Int,0<=x % m/\x % m < m:=λx=>⟨Z6 _ (by omega),u7 _ m0⟩
  refine ⟨BQ rfl,?_⟩
  refine ⟨_,rfl,?_⟩
  refine eX (λh1=>?_) (λh1=>?_)
  ·refine ⟨_,rfl,m0,_,rfl,⟨m0,by omega⟩,0,rfl,?_⟩
   exact q _ _ _ _ _ (hmd _).1 (hmd _).2 (Int.ediv_nonneg ha (by omega)) hb hc
  refine ⟨_,rfl,2,rfl,?_⟩
  refine ⟨_,rfl,.inr ⟨by decide,by decide⟩,_,rfl,.inr ⟨by decide,by decide⟩,by show (0:Int) < 2147483647;decide,?_⟩
  have hx:∀x:Int,0<=x % 2147483647/\x % 2147483647 < 2147483647:=λx=>⟨Z6 _ (by decide),u7 _ (by decide)⟩
  generalize ey:(b * 48271+(c+1) * 39373+11:Int) % 2147483647=y
  have hy:=hx (b * 48271+(c+1) * 39373+11)
  rw[ey]at hy
  refine ⟨by show (0:Int) < 65521;decide,_,rfl,.inl ⟨by omega,by omega⟩,by show (0:Int) < 2147483629;decide,?_⟩
  exact ⟨⟨by decide,by decide⟩,m0,q _ _ _ _ _ (hmd _).1 (hmd _).2 ha hb (by omega)⟩
noncomputable def HL(c:Int):Prop:=-(10 ^ 30) < c/\c < 10 ^ 30
structure CalsN(P:Program)(w:World)(K:q0)(mg:Str->Option Value)(base:Heap):Prop where
 law_draw:Cal P w K mg base 1 "_law_draw" ["_law_pen_here","_law_many"] (lQ K fW)
noncomputable def SF:Con:=λargs Q=>∃(a b c:Int),args=[.io (uQ a b c)]/\0<=a/\0<=b/\0<=c /\
 ∀(r a' b' c':Int) (o:Ev),HL r->0<=a'->0<=b'->0<=c'->Q (.fz (.int r)) (some (.io (uQ a' b' c')) :: o)
theorem Zj:FnScope ["_law_pen_here","_law_way"] ["_law_pen_here"] (jQ (top 16)):=⟨rfl,rfl,rfl,by decide +kernel,rfl,by decide +kernel,by decide +kernel⟩
theorem cq{f:Addr}{fd:FuncData}(F:Fun K "_law_number" "_law_number" (top 16) f fd)(C:CalsN P w K mg base):FnOk P w K mg base WZ 2 f fd ["_law_pen_here"] (lQ K SF):=by
 have S:=Zj
 refine OK F S (λcdv A outer s H E hr=>(dQ (xQ (i:=1) S.nd rfl (Or.inl rfl) (NQ C.law_draw (hr.mono (by first|decide|omega)) (aQ (wn 0) (aQ (wx cQ) bQ))))
     (dQ (tX (FQ JX (nX (K:=K) rfl hr.units) (wn 1) (wx cQ)) (nQ (AQ (w_bin JJ PZ (wx (w_bin gQ eQ (wx (w_bin Sz Fq (wx cQ) (wx cQ))) (wx (NQ C.law_draw (hr.mono (by first|decide|omega)) (aQ (wn 0) (aQ (wx cQ) bQ)))))) (wx (w_bin wZ tZ (wx cQ) (wx (w_bin JJ PZ (wx cQ) (wx (NQ C.law_draw (hr.mono (by first|decide|omega)) (aQ (wn 0) (aQ (wx cQ) bQ))))))))))) UQ)
     (dQ (tX (FQ SW CW (wn 1) (wx cQ)) (nQ (AQ (w_bin wZ tZ (wx (NQ C.law_draw (hr.mono (by first|decide|omega)) (aQ (wn 0) (aQ (wx cQ) bQ)))) (wx cQ)))) UQ)
     (nQ (AQ (w_bin wZ tZ (wx (NQ C.law_draw (hr.mono (by first|decide|omega)) (aQ (wn 0) (aQ (wx cQ) bQ)))) (wx cQ)))))))) ?_ ?_
 ·rintro args Qd ⟨a,b,c,rfl,_⟩;rfl
 ·rintro args Qd ⟨a,b,c,rfl,ha,hb,hc,q⟩
  refine ⟨BQ rfl,?_⟩
  refine ⟨a,b,c,_,rfl,ha,hb,hc,by decide,by decide,λr a1 b1 c1 _ r0 r1 ha1 hb1 hc1=>?_⟩
  refine eX (λh1=>?_) (λh1=>?_)
  ·refine ⟨⟨by decide,by decide,by decide⟩,?_⟩
   refine ⟨a1,b1,c1,_,rfl,ha1,hb1,hc1,by decide,by decide,λu a2 b2 c2 _ u0 u1 ha2 hb2 hc2=>?_⟩
   refine ⟨a2,b2,c2,_,rfl,ha2,hb2,hc2,by decide,by decide,λv a3 b3 c3 _ v0 v1 ha3 hb3 hc3=>?_⟩
   refine ⟨.inl ⟨by decide,by decide⟩,.inr ⟨by omega,by omega⟩,?_⟩
   refine q _ _ _ _ _ ?_ ha3 hb3 hc3
   show HL ((10 ^ 29+u) * (1 - 2 * v))
   have:v=0\/v=1:=by omega
   rcases this with rfl|rfl
   ·exact ⟨by omega,by omega⟩
   ·exact ⟨by omega,by omega⟩
  refine eX (λh2=>?_) (λh2=>?_)
  ·refine ⟨a1,b1,c1,_,rfl,ha1,hb1,hc1,by decide,by decide,λu a2 b2 c2 _ u0 u1 ha2 hb2 hc2=>?_⟩
   exact q _ _ _ _ _ ⟨by omega,by omega⟩ ha2 hb2 hc2
  ·refine ⟨a1,b1,c1,_,rfl,ha1,hb1,hc1,by decide,by decide,λu a2 b2 c2 _ u0 u1 ha2 hb2 hc2=>?_⟩
   exact q _ _ _ _ _ ⟨by omega,by omega⟩ ha2 hb2 hc2
structure CalsW(P:Program)(w:World)(K:q0)(mg:Str->Option Value)(base:Heap):Prop where
 law_draw:Cal P w K mg base 1 "_law_draw" ["_law_pen_here","_law_many"] (lQ K fW)
 law_number:Cal P w K mg base 2 "_law_number" ["_law_pen_here"] (lQ K SF)
noncomputable def lI:Con:=λargs Q=>∃(a b c m:Int),args=[.io (uQ a b c),.fz (.int m)]/\0<=a/\0<=b/\0<=c/\0 < m/\m<=120 /\
 ∀(cs:List Int) (a' b' c':Int) (o:Ev),1<=cs.length->(cs.length:Int)<=m->(∀x∈cs,HL x)->0<=a'->0<=b'->0<=c'->Q (.ow (XQ cs)) (some (.io (uQ a' b' c')) :: o)
theorem mI:FnScope ["_law_pen_here","_law_most"] ["_law_pen_here","_law_most"] (jQ (top 17)):=⟨rfl,rfl,rfl,by decide +kernel,rfl,by decide +kernel,by decide +kernel⟩
theorem KB{f:Addr}{fd:FuncData}(F:Fun K "_law_row" "_law_row" (top 17) f fd)(T:Txt mg)(C:CalsW P w K mg base):FnOk P w K mg base WZ 3 f fd ["_law_pen_here","_law_most"] (lQ K lI):=by
 have S:=mI
 refine OK F S (λcdv A outer s H E hr=>(nQ (AQ (xZ rfl (own:=["_law_k"]) (fr:=[0]) (by kernel_rfl) (nJ T.range_ (aQ (wx (w_bin gQ eQ (wx cQ) (wx (NQ C.law_draw (hr.mono (by first|decide|omega)) (aQ (wn 0) (aQ (wn 1) bQ)))))) bQ)) (λ_ _ _ _=>(wQ (i:=0) (by decide +kernel:K3 (["_law_k","_law_pen_here"]:List Str)) rfl (Or.inl rfl))) (λ_ _ _ _=>Fx) (λ_ _ _ _=>(NQ C.law_number (hr.mono (by first|decide|omega)) (aQ (wn 1) bQ))))))) ?_ ?_
 ·rintro args Qd ⟨a,b,c,m,rfl,_⟩;rfl
 ·rintro args Qd ⟨a,b,c,m,rfl,ha,hb,hc,m0,m1,q⟩
  refine ⟨BQ rfl,?_⟩
  refine ⟨a,b,c,_,rfl,ha,hb,hc,m0,by omega,λr a1 b1 c1 _ r0 r1 ha1 hb1 hc1=>?_⟩
  refine ⟨by omega,by omega,by rw[PQ,p0,G4];exact iQ (by omega),xF (λrest acc τ=>∃(cs:List Int) (a4 b4 c4:Int),τ=[none,some (.io (uQ a4 b4 c4))]/\acc=cs.map j0/\(cs.length+rest.length:Int)=1+r/\(∀x∈cs,HL x)/\0<=a4/\0<=b4/\0<=c4) ?_ ?_
      ⟨[],a1,b1,c1,rfl,rfl,by simp[PQ];omega,λc hc=>by simp at hc,ha1,hb1,hc1⟩⟩
  ·rintro d ds acc τ ⟨cs,a4,b4,c4,rfl,rfl,hlen,hB,ha4,hb4,hc4⟩ N hN
   refine ⟨a4,b4,c4,rfl,ha4,hb4,hc4,λx a5 b5 c5 _ hx ha5 hb5 hc5=>?_⟩
   exact hN _ _ ⟨cs++[x],a5,b5,c5,rfl,by simp[Sl.d],by simp at hlen ⊢;omega,λc' hc=>by rcases V0.mp hc with z|z;exact hB c' z;rw[Y0.mp z];exact hx,ha5,hb5,hc5⟩
  ·rintro acc τ ⟨cs,a4,b4,c4,rfl,rfl,hlen,hB,ha4,hb4,hc4⟩
   simp at hlen
   exact q cs a4 b4 c4 _ (by omega) (by omega) hB ha4 hb4 hc4
end
open PySem PySem.Spec L2 L3 PyProof.Rows
noncomputable def ZK(x:Int):List Int->List Int
 | []=>[x]
 | y :: ys=>if x < y then x :: y :: ys else if x=y then y :: ys else y :: ZK x ys
noncomputable def iX(ns:List Int):List Int:=ns.foldr ZK []
theorem gW(x z:Int):∀l:List Int,z∈ZK x l ↔ z=x\/z∈l
 | []=>by simp[ZK]
 | y :: ys=>by
  unfold ZK
  split
  ·simp
  ·split
   ·rename_i h;subst h;simp
   ·rw[K0,gW x z ys,K0]
    constructor
    ·rintro (h|h|h)
     ·exact .inr (.inl h)
     ·exact .inl h
     ·exact .inr (.inr h)
    ·rintro (h|h|h)
     ·exact .inr (.inl h)
     ·exact .inl h
     ·exact .inr (.inr h)
theorem cV(x:Int):∀l:List Int,l.Pairwise (· < ·)->(ZK x l).Pairwise (· < ·)
 | [],_=>W4 _ _
 | y :: ys,h=>by
  have h':=E3.mp h
  unfold ZK
  split
  ·rename_i hl
   refine E3.mpr ⟨λz hz=>?_,h⟩
   rcases K0.mp hz with rfl|hz
   ·exact hl
   ·have:=h'.1 z hz;omega
  ·split
   ·exact h
   ·refine E3.mpr ⟨λz hz=>?_,cV x ys h'.2⟩
    rcases (gW x z ys).mp hz with rfl|hz
    ·omega
    ·exact h'.1 z hz
theorem lH(x:Int):∀l:List Int,(ZK x l).length<=l.length+1
 | []=>by simp[ZK]
 | y :: ys=>by
  have:=lH x ys
  unfold ZK
  split
  ·simp
  ·split
   ·simp
   ·simp;omega
theorem rZ(z:Int):∀ns:List Int,z∈iX ns ↔ z∈ns
 | []=>by simp[iX]
 | n :: ns=>by
  show z∈ZK n (iX ns) ↔ _
  rw[gW,rZ z ns,K0]
theorem lZ:∀ns:List Int,(iX ns).Pairwise (· < ·)
 | []=>.nil
 | n :: ns=>cV n _ (lZ ns)
theorem NX:∀ns:List Int,(iX ns).length<=ns.length
 | []=>B0 _
 | n :: ns=>by
  have h1:=lH n (iX ns)
  have h2:=NX ns
  show (ZK n (iX ns)).length<=_
  simp
  omega
theorem eV:∀l m:List Int,l.Pairwise (· < ·)->m.Pairwise (· < ·)->(∀z,z∈l ↔ z∈m)->l=m
 | [],[],_,_,_=>rfl
 | [],y :: m,_,_,h=>absurd ((h y).mpr G0) (by simp)
 | x :: l,[],_,_,h=>absurd ((h x).mp G0) (by simp)
 | x :: l,y :: m,h1,h2,h=>by
  have a:=E3.mp h1
  have b:=E3.mp h2
  have e:x=y:=by
   rcases K0.mp ((h x).mp G0) with e|e
   ·exact e
   ·rcases K0.mp ((h y).mpr G0) with e'|e'
    ·exact e'.symm
    ·have:=b.1 x e;have:=a.1 y e';omega
  subst e
  refine congrArg _ (eV l m a.2 b.2 λz=>?_)
  constructor
  ·intro hz
   rcases K0.mp ((h z).mp (J0 _ hz)) with e|e
   ·subst e;have:=a.1 z hz;omega
   ·exact e
  ·intro hz
   rcases K0.mp ((h z).mpr (J0 _ hz)) with e|e
   ·subst e;have:=b.1 z hz;omega
   ·exact e
theorem MG{ns l:List Int}(h:l.Pairwise (· < ·))(hm:∀z,z∈l ↔ z∈ns):l=iX ns:=eV _ _ h (lZ ns) λz=>by rw[hm,rZ]
theorem lY{ns:List Int}(h:1<=ns.length):1<=(iX ns).length:=by
 cases ns with
 | nil=>simp at h
 | cons n ns=>exact e5 ((rZ n _).mpr G0)
noncomputable def ixW(w:List Int)(x:Int):Nat:=w.idxOf x
theorem ax{w:List Int}{x:Int}(h:x∈w):ixW w x < w.length:=List.idxOf_lt_length_of_mem h
theorem NG{w:List Int}{x:Int}(h:x∈w):w[ixW w x]?=some x:=by
 rw[A0 (ax h)]
 exact congrArg some (List.getElem_idxOf (ax h))
theorem uJ{w:List Int}(h:w.Pairwise (· < ·)){i j:Nat}{a b:Int}(e1:w[i]?=some a)(e2:w[j]?=some b):(i<=j ↔ a<=b)/\(i < j ↔ a < b):=by
 have hp:=S2.mp h
 obtain⟨h1,rfl⟩:=O1.mp e1
 obtain⟨h2,rfl⟩:=O1.mp e2
 by_cases z:i=j
 ·subst z;omega
 ·by_cases y:i < j
  ·have:=hp i j h1 h2 y;omega
  ·have:=hp j i h2 h1 (by omega);omega
noncomputable def vK(ns:List Int):List Int:=ns.map λx=>(ixW (iX ns) x:Int)
noncomputable def cU(st:List Int)(p:Int×Int):List Int:=(st.filter λx=>decide (p.1<=x)&&decide (x<=p.2)).map λx=>if (p.1+p.2) / 2+1<=x then 1 else 0
theorem QV(st:List Int)(p:Int×Int):(cU st p).length<=st.length:=by
 unfold cU
 rw[p0]
 exact N3 _ _
theorem TF(st:List Int)(p:Int×Int):∀x∈cU st p,x=0\/x=1:=λx hx=>by
 obtain⟨y,_,e⟩:=T0.mp hx
 split at e<;>omega
theorem OG{ns:List Int}{a b m:Nat}{wa wb wm:Int}(ha:(iX ns)[a]?=some wa)(hb:(iX ns)[b]?=some wb)(hm:(iX ns)[m]?=some wm)(em:((a:Int)+b) / 2=m) :
  ((ns.filter λx=>decide (wa<=x)&&decide (x<=wb)).map λx=>if wm < x then (1:Int) else 0)=cU (vK ns) (a,b):=by
 unfold cU vK
 rw[w6,B1]
 have key:∀x∈ns,((a:Int)<=(ixW (iX ns) x:Int) ↔ wa<=x)/\((ixW (iX ns) x:Int)<=b ↔ x<=wb)/\(((a:Int)+b) / 2+1<=(ixW (iX ns) x:Int) ↔ wm < x):=λx hx=>by
  have ix:=NG ((rZ x ns).mpr hx)
  have r:=lZ ns
  have h1:=(uJ r ha ix).1
  have h2:=(uJ r ix hb).1
  have h3:=(uJ r hm ix).2
  refine ⟨by omega,by omega,by omega⟩
 have e1:(ns.filter λx=>decide (wa<=x)&&decide (x<=wb))=ns.filter ((λx:Int=>decide ((a:Int)<=x)&&decide (x<=b)) ∘ λx=>(ixW (iX ns) x:Int)):=by
  refine List.filter_congr λx hx=>?_
  obtain⟨k1,k2,_⟩:=key x hx
  simp only[Function.comp,k1,k2]
 rw[e1]
 refine K4 λx hx=>?_
 obtain⟨_,_,k3⟩:=key x (U3.mp hx).1
 simp only[Function.comp,k3]
noncomputable def hl(lo hi:Int):List (List Int):=[lo,hi] :: if h:lo < hi then hl ((lo+hi) / 2+1) hi++hl lo ((lo+hi) / 2) else []
termination_by (hi - lo).toNat
decreasing_by all_goals omega
theorem hW{lo hi:Int}(h:lo < hi):hl lo hi=[lo,hi] :: (hl ((lo+hi) / 2+1) hi++hl lo ((lo+hi) / 2)):=by rw[hl,dif_pos h]
theorem iW{lo hi:Int}(h:¬lo < hi):hl lo hi=[[lo,hi]]:=by rw[hl,dif_neg h]
theorem QG:∀(n:Nat) (lo hi:Int),(hi - lo).toNat=n->lo<=hi->((hl lo hi).length:Int)=2 * (hi - lo+1) - 1:=by
 intro n
 induction n using e7 with
 | _ n ih =>
  intro lo hi e h
  by_cases hlt:lo < hi
  ·rw[hW hlt,V1,Q0]
   have h1:=ih _ (by omega) ((lo+hi) / 2+1) hi rfl (by omega)
   have h2:=ih _ (by omega) lo ((lo+hi) / 2) rfl (by omega)
   omega
  ·rw[iW hlt]
   simp
   omega
noncomputable abbrev AZ(p:Int×Int):PyData:=.tuple [.int p.1,.int p.2]
noncomputable abbrev tQ(r:List Int):PyData:=.tuple (r.map j0)
noncomputable def SX(wt:List (Int×Int)):List (List Int):=wt.reverse.flatMap λp=>hl p.1 p.2
theorem fV(wt:List (Int×Int))(p:Int×Int):SX (wt++[p])=hl p.1 p.2++SX wt:=by simp[SX]
theorem LB(a b:Int):1<=(hl a b).length:=by rw[hl];simp
theorem mH(wt:List (Int×Int)):wt.length<=(SX wt).length:=by
 induction wt with
 | nil=>simp
 | cons p wt ih =>
  have e:SX (p :: wt)=SX wt++hl p.1 p.2:=by simp[SX]
  have:=LB p.1 p.2
  rw[e,Q0,V1]
  omega
theorem Ay:∀(n:Nat) (lo hi:Int),(hi - lo).toNat=n->∀r∈hl lo hi,r≠[]:=by
 intro n
 induction n using e7 with
 | _ n ih =>
  intro lo hi e r hr
  by_cases hlt:lo < hi
  ·rw[hW hlt]at hr
   rcases K0.mp hr with rfl|hr
   ·simp
   ·rcases V0.mp hr with hr|hr
    ·exact ih _ (by omega) _ _ rfl r hr
    ·exact ih _ (by omega) _ _ rfl r hr
  ·rw[iW hlt]at hr
   simp at hr
   subst hr
   simp
theorem hV:∀(n:Nat) (lo hi:Int),(hi - lo).toNat=n->lo<=hi->∀r∈hl lo hi,∃a b:Int,r=[a,b]/\lo<=a/\a<=b/\b<=hi:=by
 intro n
 induction n using e7 with
 | _ n ih =>
  intro lo hi e h r hr
  by_cases hlt:lo < hi
  ·rw[hW hlt]at hr
   rcases K0.mp hr with rfl|hr
   ·exact ⟨lo,hi,rfl,by omega,by omega,by omega⟩
   ·rcases V0.mp hr with hr|hr
    ·obtain⟨a,b,e,h1,h2,h3⟩:=ih _ (by omega) _ _ rfl (by omega) r hr
     exact ⟨a,b,e,by omega,h2,by omega⟩
    ·obtain⟨a,b,e,h1,h2,h3⟩:=ih _ (by omega) _ _ rfl (by omega) r hr
     exact ⟨a,b,e,by omega,h2,by omega⟩
  ·rw[iW hlt]at hr
   simp at hr
   subst hr
   exact ⟨lo,hi,rfl,by omega,by omega,by omega⟩
section
variable {P:Program}{w:World}{K:q0}{mg:Str->Option Value}{base:Heap}
noncomputable def MB:Con:=λargs Q=>∃a b:Int,args=[.fz (AZ (a,b))]/\0<=a/\0<=b/\a<=10000/\b<=10000/\∀o,Q (.ow (.list [AZ (a,(a+b) / 2),AZ ((a+b) / 2+1,b)])) o
theorem oI:FnScope ["stretch","middle"] ["stretch"] (jQ (top 1)):=⟨rfl,rfl,rfl,by decide +kernel,rfl,by decide +kernel,by decide +kernel⟩
theorem NB{f:Addr}{fd:FuncData}(F:Fun K "two_halves" "two_halves" (top 1) f fd):FnOk P w K mg base WZ 1 f fd ["stretch"] (lQ K MB):=by
 have S:=oI
 refine OK F S (λcdv A outer s H E hr=>(dQ (xQ (i:=1) S.nd rfl (Or.inl rfl) (w_bin kK VJ (wx (w_bin gQ eQ (wx (GQ rfl (wn 0) (wx cQ))) (wx (GQ rfl (wn 0) (wx cQ))))) (wx cQ)))
     (nQ (AQ (RQ (aQ (wx (zQ (aQ (wx (GQ rfl (wn 0) (wx cQ))) (aQ (wx (wv 1)) bQ)))) (aQ (wx (zQ (aQ (wx (w_bin gQ eQ (wn 1) (wx cQ))) (aQ (wx (GQ rfl (wn 0) (wx cQ))) bQ)))) bQ))))))) ?_ ?_
 ·rintro args Qd ⟨a,b,rfl,_⟩;rfl
 ·rintro args Qd ⟨a,b,rfl,a0,b0,a1,b1,q⟩
  refine ⟨BQ rfl,?_⟩
  refine ⟨_,rfl,_,rfl,⟨by decide,by decide⟩,?_⟩
  refine ⟨_,rfl,_,rfl,?_⟩
  exact q _
structure CalsS(P:Program)(w:World)(K:q0)(mg:Str->Option Value)(base:Heap):Prop where
 two_halves:Cal P w K mg base 1 "two_halves" ["stretch"] (lQ K MB)
noncomputable def pI:Con:=λargs Q=>∃n:Int,args=[.fz (.int n)]/\1<=n/\n<=1000/\∀(rows:List (List Int)) (o:Ev),rows.Perm (hl 0 (n - 1))->rows.Pairwise (λa b=>HT.lexLt b a=false)->Q (.ow (.list (rows.map tQ))) o
theorem qI:FnScope ["side","found","waiting","stretch"] ["side"] (jQ (top 2)):=⟨rfl,rfl,rfl,by decide +kernel,rfl,by decide +kernel,by decide +kernel⟩
theorem OB{f:Addr}{fd:FuncData}(F:Fun K "stretches" "stretches" (top 2) f fd)(T:Txt mg)(C:CalsS P w K mg base):FnOk P w K mg base WZ 2 f fd ["side"] (lQ K pI):=by
 have S:=qI
 refine OK F S (λcdv A outer s H E hr=>(dQ (xQ (i:=1) S.nd rfl (Or.inl rfl) (RQ bQ))
     (dQ (xQ (i:=2) S.nd rfl (Or.inl rfl) (RQ (aQ (wx (zQ (aQ (wx cQ) (aQ (wx (w_bin wZ tZ (wn 0) (wx cQ))) bQ)))) bQ)))
     (dQ (BF PassesOwn.never (FQ SW CW (wx (mQ CQ (kQ (K:=K) rfl) T.len_ PySem.boot_len (aQ (wn 2) bQ))) (wx cQ)) (dQ (xQ (i:=3) S.nd rfl (Or.inl rfl) (yE Lz rfl PySem.F.slot_list_pop PySem.F.type_list_pop Rq (wn 2)))
     (dQ (LX (zF yX rfl PySem.F.slot_list_append PySem.F.type_list_append vX (wn 1) (aQ (wx (wv 3)) bQ)))
     (nQ (tX (FQ JY pY (wx (GQ rfl (wn 3) (wx cQ))) (wx (GQ rfl (wn 3) (wx cQ)))) (nQ (LX (zF OW rfl PySem.F.slot_list_extend PySem.F.type_list_extend IW (wn 2) (aQ (wx (YX C.two_halves (hr.mono (by first|decide|omega)) (aQ (wn 3) bQ))) bQ)))) UQ)))))
     (nQ (AQ (mQ TU (RK rfl) T.sorted_ boot_sorted (aQ (wn 1) bQ)))))))) ?_ ?_
 ·rintro args Qd ⟨n,rfl,_⟩;rfl
 ·rintro args Qd ⟨n,rfl,n1,n2,q⟩
  refine ⟨BQ rfl,?_⟩
  have hlen:=QG _ 0 (n - 1) rfl (by omega)
  refine ⟨λm ρ=>∃(dn:List (List Int)) (wt:List (Int×Int)) (x:Option Sl),ρ=[some (.fz (.int n)),some (.ow (.list (dn.map tQ))),some (.ow (.list (wt.map AZ))),x]/\dn++SX wt=hl 0 (n - 1)/\(∀p∈wt,0<=p.1/\p.1<=p.2/\p.2<=1000)/\m=(SX wt).length/\(x=none\/∃d,x=some (.fz d)),⟨_,[],[(0,n - 1)],none,rfl,by simp[SX],by simp;omega,rfl,.inl rfl⟩,?_⟩
  rintro m ρ ⟨dn,wt,x,rfl,hp,hw,rfl,hx⟩
  rcases hx with rfl|⟨xd,rfl⟩
  all_goals
   refine eX (λh=>?_) (λh=>?_)
   ·refine ⟨λρ'=>∃m',m' < (SX wt).length/\_,λρ' h=>h,?_⟩
    obtain⟨wt',p,rfl⟩:∃wt' p,wt=wt'++[p]:=by
     rcases Y5 wt with e|⟨a,b,e⟩
     ·subst e;simp at h
     ·exact ⟨a,b,by simpa using e⟩
    have e1:((wt'++[p]).map AZ)[((wt'++[p]).map AZ).length - 1]?=some (AZ p):=by simp
    have e2:((wt'++[p]).map AZ).dropLast=wt'.map AZ:=by simp
    have ea:(dn++[[p.1,p.2]]).map tQ=dn.map tQ++[AZ p]:=by rw[E2];rfl
    have eb:(wt'++[(p.1,(p.1+p.2) / 2),((p.1+p.2) / 2+1,p.2)]).map AZ=wt'.map AZ++[AZ (p.1,(p.1+p.2) / 2),AZ ((p.1+p.2) / 2+1,p.2)]:=by rw[E2];rfl
    have hpp:=hw p (by simp)
    have hw':∀p∈wt',0<=p.1/\p.1<=p.2/\p.2<=1000:=λx hx=>hw x (by simp[hx])
    rw[fV]at hp ⊢
    have hL:=congrArg L4 hp
    rw[Q0,Q0]at hL
    have hwl:wt'.length<=(SX wt').length:=mH wt'
    refine ⟨_,e1,?_⟩
    rw[e2]
    refine ⟨by rw[p0];exact O2 (show dn.length<=1999 by omega) (by decide),?_⟩
    refine ⟨_,rfl,_,rfl,eX (λh3=>?_) (λh3=>?_)⟩
    ·have h3:p.1 < p.2:=of_decide_eq_true h3
     refine ⟨p.1,p.2,rfl,by omega,by omega,by omega,by omega,λo=>?_⟩
     refine ⟨by rw[p0];exact Z0 (show wt'.length+2<=3000 by omega) (by decide),?_⟩
     rw[hW h3]at hp hL ⊢
     refine ⟨(SX (wt'++[(p.1,(p.1+p.2) / 2),((p.1+p.2) / 2+1,p.2)])).length,?_,dn++[[p.1,p.2]],wt'++[(p.1,(p.1+p.2) / 2),((p.1+p.2) / 2+1,p.2)],_,by rw[ea,eb];rfl,?_,?_,rfl,.inr ⟨_,rfl⟩⟩
     ·simp[SX]
     ·rw[<- hp];simp[SX]
     ·intro x hx
      simp only[V0,K0,G1,or_false]at hx
      rcases hx with hx|rfl|rfl
      ·exact hw' x hx
      ·exact ⟨by omega,by show p.1<=(p.1+p.2) / 2;omega,by show (p.1+p.2) / 2<=1000;omega⟩
      ·exact ⟨by show 0<=(p.1+p.2) / 2+1;omega,by show (p.1+p.2) / 2+1<=p.2;omega,by show p.2<=1000;omega⟩
    ·have h3:¬p.1 < p.2:=λz=>h3 (decide_eq_true z)
     rw[iW h3]at hp hL ⊢
     refine ⟨(SX wt').length,by simp,dn++[[p.1,p.2]],wt',_,by rw[ea];rfl,?_,hw',rfl,.inr ⟨_,rfl⟩⟩
     rw[<- hp];simp
   ·have e:wt=[]:=by
     cases wt with
     | nil=>rfl
     | cons a b=>exact absurd (decide_eq_true (by simp)) h
    subst e
    have hp:dn=hl 0 (n - 1):=by simpa [SX]using hp
    subst hp
    refine ⟨hl 0 (n - 1),rfl,Z0 (show _<=3000 by omega) (by decide),Ay _ _ _ rfl,λrows r1 r2=>?_⟩
    exact q rows _ r1 r2
theorem lv(wt:List (Int×Int)):Nice 2 (.list (wt.map AZ)):=.list λd hd=>by
 obtain⟨p,_,rfl⟩:=T0.mp hd
 exact Nice.tup [p.1,p.2]
theorem PB(wt:List (Int×Int)):SeqAt.noMix (.list (wt.map AZ)) (.list [])=true:=by cases wt<;>simp[SeqAt.noMix,SeqAt.noMixAll]
theorem UF(wt:List (Int×Int)):same (.list (wt.map AZ)) (.list [])=decide (wt=[]):=by cases wt<;>simp[same,sameAll]
noncomputable def sI:Con:=λargs Q=>∃n:Int,args=[.fz (.int n)]/\1<=n/\n<=1000/\∀(rows:List (List Int)) (o:Ev),rows.Perm (hl 0 (n - 1))->rows.Pairwise (λa b=>HT.lexLt b a=false)->Q (.ow (.list (rows.map tQ))) o
theorem tI:FnScope ["_law_size","_law_left","_law_found","_law_first","_law_last","_law_middle"] ["_law_size"] (jQ (top 19)):=⟨rfl,rfl,rfl,by decide +kernel,rfl,by decide +kernel,by decide +kernel⟩
theorem QB{f:Addr}{fd:FuncData}(F:Fun K "_law_halves" "_law_halves" (top 19) f fd)(T:Txt mg):FnOk P w K mg base WZ 1 f fd ["_law_size"] (lQ K sI):=by
 have S:=tI
 refine OK F S (λcdv A outer s H E hr=>(dQ (xQ (i:=1) S.nd rfl (Or.inl rfl) (RQ (aQ (wx (zQ (aQ (wx cQ) (aQ (wx (w_bin wZ tZ (wn 0) (wx cQ))) bQ)))) bQ)))
     (dQ (xQ (i:=2) S.nd rfl (Or.inl rfl) (RQ bQ))
     (dQ (BF PassesOwn.never (FQ KY (LJ (K:=K) rfl hr.units) (wn 1) (wx (RQ bQ))) (dQ (MJ (yE Lz rfl PySem.F.slot_list_pop PySem.F.type_list_pop Rq (wn 1)) (BJ rfl rfl (QQ (wQ (i:=3) S.nd rfl (Or.inl rfl)) (QQ (wQ (i:=4) S.nd rfl (Or.inl rfl)) kZ))))
     (dQ (LX (zF yX rfl PySem.F.slot_list_append PySem.F.type_list_append vX (wn 2) (aQ (wx (zQ (aQ (wx (wv 3)) (aQ (wx (wv 4)) bQ)))) bQ)))
     (nQ (tX (FQ JY pY (wn 3) (wn 4)) (dQ (xQ (i:=5) S.nd rfl (Or.inl rfl) (w_bin kK VJ (wx (w_bin gQ eQ (wn 3) (wn 4))) (wx cQ)))
     (nQ (LX (zF OW rfl PySem.F.slot_list_extend PySem.F.type_list_extend IW (wn 1) (aQ (wx (RQ (aQ (wx (zQ (aQ (wx (wv 3)) (aQ (wx (wv 5)) bQ)))) (aQ (wx (zQ (aQ (wx (w_bin gQ eQ (wn 5) (wx cQ))) (aQ (wx (wv 4)) bQ)))) bQ)))) bQ))))) UQ)))))
     (nQ (AQ (mQ TU (RK rfl) T.sorted_ boot_sorted (aQ (wn 2) bQ)))))))) ?_ ?_
 ·rintro args Qd ⟨n,rfl,_⟩;rfl
 ·rintro args Qd ⟨n,rfl,n1,n2,q⟩
  refine ⟨BQ rfl,?_⟩
  have hlen:=QG _ 0 (n - 1) rfl (by omega)
  refine ⟨λm ρ=>∃(dn:List (List Int)) (wt:List (Int×Int)) (x y z:Option Sl),ρ=[some (.fz (.int n)),some (.ow (.list (wt.map AZ))),some (.ow (.list (dn.map tQ))),x,y,z]/\dn++SX wt=hl 0 (n - 1)/\(∀p∈wt,0<=p.1/\p.1<=p.2/\p.2<=1000)/\m=(SX wt).length/\((x=none/\y=none)\/∃d e,x=some (.fz d)/\y=some (.fz e))/\(z=none\/∃d,z=some (.fz d)),⟨_,[],[(0,n - 1)],none,none,none,rfl,by simp[SX],by simp;omega,rfl,.inl ⟨rfl,rfl⟩,.inl rfl⟩,?_⟩
  rintro m ρ ⟨dn,wt,x,y,z,rfl,hp,hw,rfl,hx,hz⟩
  have nw:=lv wt
  rcases hx with⟨rfl,rfl⟩|⟨xd,xe,rfl,rfl⟩<;>rcases hz with rfl|⟨zd,rfl⟩
  all_goals
   refine ⟨nw.p,rfl,nw.sh (by decide),rfl,PB wt,?_⟩
   refine eX (λh=>?_) (λh=>?_)
   ·refine ⟨λρ'=>∃m',m' < (SX wt).length/\_,λρ' h=>h,?_⟩
    obtain⟨wt',p,rfl⟩:∃wt' p,wt=wt'++[p]:=by
     rcases Y5 wt with e|⟨a,b,e⟩
     ·subst e;exact absurd h (by show ¬((!same (.list (([]:List (Int×Int)).map AZ)) (.list []))=true);rw[UF];decide)
     ·exact ⟨a,b,by simpa using e⟩
    have e1:((wt'++[p]).map AZ)[((wt'++[p]).map AZ).length - 1]?=some (AZ p):=by simp
    have e2:((wt'++[p]).map AZ).dropLast=wt'.map AZ:=by simp
    have ea:(dn++[[p.1,p.2]]).map tQ=dn.map tQ++[AZ p]:=by rw[E2];rfl
    have eb:(wt'++[(p.1,(p.1+p.2) / 2),((p.1+p.2) / 2+1,p.2)]).map AZ=wt'.map AZ++[AZ (p.1,(p.1+p.2) / 2),AZ ((p.1+p.2) / 2+1,p.2)]:=by rw[E2];rfl
    have hpp:=hw p (by simp)
    have hw':∀p∈wt',0<=p.1/\p.1<=p.2/\p.2<=1000:=λx hx=>hw x (by simp[hx])
    rw[fV]at hp ⊢
    have hL:=congrArg L4 hp
    rw[Q0,Q0]at hL
    have hwl:wt'.length<=(SX wt').length:=mH wt'
    refine ⟨_,e1,?_⟩
    rw[e2]
    refine ⟨rfl,?_⟩
    refine ⟨by rw[p0];exact O2 (show dn.length<=1999 by omega) (by decide),?_⟩
    refine eX (λh3=>?_) (λh3=>?_)
    ·have h3:p.1 < p.2:=of_decide_eq_true h3
     refine ⟨⟨by decide,by decide⟩,by rw[p0];exact Z0 (show wt'.length+2<=3000 by omega) (by decide),?_⟩
     rw[hW h3]at hp hL ⊢
     refine ⟨(SX (wt'++[(p.1,(p.1+p.2) / 2),((p.1+p.2) / 2+1,p.2)])).length,?_,dn++[[p.1,p.2]],wt'++[(p.1,(p.1+p.2) / 2),((p.1+p.2) / 2+1,p.2)],_,_,_,by rw[ea,eb];rfl,?_,?_,rfl,.inr ⟨_,_,rfl,rfl⟩,.inr ⟨_,rfl⟩⟩
     ·simp[SX]
     ·rw[<- hp];simp[SX]
     ·intro x hx
      simp only[V0,K0,G1,or_false]at hx
      rcases hx with hx|rfl|rfl
      ·exact hw' x hx
      ·exact ⟨by omega,by show p.1<=(p.1+p.2) / 2;omega,by show (p.1+p.2) / 2<=1000;omega⟩
      ·exact ⟨by show 0<=(p.1+p.2) / 2+1;omega,by show (p.1+p.2) / 2+1<=p.2;omega,by show p.2<=1000;omega⟩
    ·have h3:¬p.1 < p.2:=λz=>h3 (decide_eq_true z)
     rw[iW h3]at hp hL ⊢
     refine ⟨(SX wt').length,by simp,dn++[[p.1,p.2]],wt',_,_,_,by rw[ea];rfl,?_,hw',rfl,.inr ⟨_,_,rfl,rfl⟩,by first|exact .inl rfl|exact .inr ⟨_,rfl⟩⟩
     rw[<- hp];simp
   ·have e:wt=[]:=by
     have h:¬((!same (.list (wt.map AZ)) (.list []))=true):=h
     rw[UF]at h
     simpa using h
    subst e
    have hp:dn=hl 0 (n - 1):=by simpa [SX]using hp
    subst hp
    refine ⟨hl 0 (n - 1),rfl,Z0 (show _<=3000 by omega) (by decide),Ay _ _ _ rfl,λrows r1 r2=>?_⟩
    exact q rows _ r1 r2
end
noncomputable abbrev jq(p:Int×Int):List Int:=[p.1,p.2]
theorem nv(l:List (Int×Int)):l.map AZ=(l.map jq).map tQ:=by rw[B1];rfl
theorem RV{p q:Int×Int}(h:jq p=jq q):p=q:=by
 obtain⟨a,b⟩:=p
 obtain⟨c,d⟩:=q
 cases h
 rfl
theorem nH:∀{l m:List (Int×Int)},l.map jq=m.map jq->l=m
 | [],[],_=>rfl
 | [],_ :: _,e=>by cases e
 | _ :: _,[],e=>by cases e
 | x :: l,y :: m,e=>by
  simp only[Z1,List.cons.injEq]at e
  rw[RV (p:=x) (q:=y) (by simpa using e.1),nH (l:=l) (m:=m) (by simpa using e.2)]
theorem bx{lo hi:Int}(h:lo<=hi):∀rows:List (List Int),(∀r∈rows,r∈hl lo hi)->∃ps:List (Int×Int),rows=ps.map jq
 | [],_=>⟨[],rfl⟩
 | r :: rows,hr=>by
  obtain⟨ps,e⟩:=bx h rows λx hx=>hr x (J0 _ hx)
  obtain⟨a,b,e',_⟩:=hV _ lo hi rfl h r (hr r G0)
  exact ⟨(a,b) :: ps,by rw[e,e'];rfl⟩
structure Prs(n:Int)(ps:List (Int×Int)):Prop where
 perm:(ps.map jq).Perm (hl 0 (n - 1))
 srt:(ps.map jq).Pairwise λx y=>HT.lexLt y x=false
theorem Prs.uniq{n:Int}{ps qs:List (Int×Int)}(h:Prs n ps)(k:Prs n qs):ps=qs:=nH (SG.sorted_uniq (λa b=>SG.lex_eq) (h.perm.trans k.perm.symm) h.srt k.srt)
theorem Prs.mk_of{n:Int}{rows:List (List Int)}(hn:1<=n)(r1:rows.Perm (hl 0 (n - 1)))(r2:rows.Pairwise λx y=>HT.lexLt y x=false):∃ps,Prs n ps/\rows.map tQ=ps.map AZ:=by
 obtain⟨ps,e⟩:=bx (by omega) rows λr hr=>r1.mem_iff.mp hr
 subst e
 exact ⟨ps,⟨r1,r2⟩,(nv ps).symm⟩
theorem Prs.in_{n:Int}{ps:List (Int×Int)}(hn:1<=n)(h:Prs n ps):∀p∈ps,0<=p.1/\p.1<=p.2/\p.2<=n - 1:=λp hp=>by
 obtain⟨a,b,e,h1,h2,h3⟩:=hV _ 0 (n - 1) rfl (by omega) (jq p) (h.perm.mem_iff.mp (T0.mpr ⟨p,hp,rfl⟩))
 obtain⟨c,d⟩:=p
 cases e
 exact ⟨h1,h2,h3⟩
theorem Prs.len{n:Int}{ps:List (Int×Int)}(hn:1<=n)(h:Prs n ps):(ps.length:Int)=2 * n - 1:=by
 have h1:=QG _ 0 (n - 1) rfl (by omega)
 have h2:=h.perm.length_eq
 rw[p0]at h2
 omega
theorem iV(val:Nat->Int):∀i,(firstMet val i).Nodup
 | 0=>by rw[firstMet_zero];exact t7
 | i+1=>by
  rw[firstMet_succ]
  have ih:=iV val i
  unfold step_dedup
  split
  ·exact ih
  ·rename_i h
   rw[K7]
   refine ⟨ih,X4.mpr ⟨by simp,t7⟩,λa ha b hb e=>?_⟩
   rw[Y0]at hb
   subst hb
   subst e
   exact h (S6.mpr ⟨_,ha,by simp⟩)
theorem qv(ns:List Int)(z:Int):z∈firstMet (λi=>ns.getD i 0) ns.length ↔ z∈ns:=by
 have e:(S1 ns.length).map (λi=>ns.getD i 0)=ns:=by
  refine m6 (by simp) λi h1 h2=>?_
  simp[h2]
 have h:=firstMet_any (λi=>ns.getD i 0) ns.length z
 rw[e]at h
 have t:∀l:List Int,(l.any (·==z))=true ↔ z∈l:=λl=>by simp
 rw[<- t,h,t]
theorem sv{ns ms:List Int}(h1:ms.Perm (firstMet (λi=>ns.getD i 0) ns.length))(h2:ms.Pairwise (·<=·)):ms=iX ns:=by
 refine MG ?_ λz=>by rw[h1.mem_iff,qv]
 have nd:=h1.nodup_iff.mpr (iV _ _)
 exact (h2.and nd).imp λ⟨a,b⟩=>by omega
theorem zZ:∀l:List Int,noMutAll (l.map j0)=true
 | []=>rfl
 | x :: l=>by
  show (noMut (.int x)&&noMutAll (l.map j0))=true
  rw[zZ l]
  rfl
section
variable {P:Program}{w:World}{K:q0}{mg:Str->Option Value}{base:Heap}
noncomputable def RB:Con:=λargs Q=>∃ns:List Int,args=[.fz (XQ ns)]/\ns.length<=1000/\∀o,Q (.ow (XQ (iX ns))) o
theorem uI:FnScope ["numbers"] ["numbers"] (jQ (top 7)):=⟨rfl,rfl,rfl,by decide +kernel,rfl,by decide +kernel,by decide +kernel⟩
theorem SB{f:Addr}{fd:FuncData}(F:Fun K "worths" "worths" (top 7) f fd)(T:Txt mg):FnOk P w K mg base WZ 1 f fd ["numbers"] (lQ K RB):=by
 have S:=uI
 refine OK F S (λcdv A outer s H E hr=>(nQ (AQ (bq rfl rfl T.sorted_ T.set_ (aQ (wn 0) bQ))))) ?_ ?_
 ·rintro args Qd ⟨ns,rfl,_⟩;rfl
 ·rintro args Qd ⟨ns,rfl,hn,q⟩
  refine ⟨BQ rfl,?_⟩
  refine ⟨ns,rfl,by unfold scanBound;omega,λms m1 m2=>?_⟩
  rw[sv m1 m2]
  exact q _
noncomputable def dU:PyData->Int
 | .int i=>i
 | _=>0
structure CalsA(P:Program)(w:World)(K:q0)(mg:Str->Option Value)(base:Heap):Prop where
 worths:Cal P w K mg base 1 "worths" ["numbers"] (lQ K RB)
theorem uv{ws:List Int}(nd:ws.Nodup){x:Int}(hx:x∈ws):Xk ((ws.zipIdx.map λp=>((Sum.inl p.1:HQ),j0 (p.2:Nat))).map eB) (.int x)=some (.int (ixW ws x:Nat)):=by
 have gen:∀(ws:List Int) (k:Nat),x∈ws->YK (((ws.zipIdx k).map λp=>((Sum.inl p.1:HQ),j0 (p.2:Nat))).map eB) (.inl x)=some (.int ((k+ws.idxOf x:Nat):Int)):=by
  intro ws
  induction ws with
  | nil=>intro k h;cases h
  | cons y ws ih =>
   intro k h
   unfold YK
   rw[W7,Z1,Z1,V3]
   by_cases e:y=x
   ·subst e
    have:decide (iq (eB ((Sum.inl y:HQ),j0 ((k:Nat):Int))).1=some (.inl y))=true:=decide_eq_true rfl
    rw[this,List.idxOf_cons_self]
    rfl
   ·have:decide (iq (eB ((Sum.inl y:HQ),j0 ((k:Nat):Int))).1=some (.inl x))=false:=decide_eq_false (by
      intro z
      have z:some (Sum.inl y:HQ)=some (.inl x):=z
      injection z with z
      injection z with z
      exact e z)
    rw[this]
    have h2:x∈ws:=by rcases K0.mp h with z|z;exact absurd z.symm e;exact z
    have:=ih (k+1) h2
    unfold YK at this
    dsimp only
    rw[this,List.idxOf_cons,show (y==x)=false from by simp[e],cond_false]
    congr 2
    omega
 have:=gen ws 0 hx
 rw[j6]at this
 exact this
noncomputable def vI:Con:=λargs Q=>∃ns:List Int,args=[.fz (XQ ns)]/\ns.length<=1000/\∀o,Q (.ow (XQ (vK ns))) o
theorem wI:FnScope ["numbers","places"] ["numbers"] (jQ (top 8)):=⟨rfl,rfl,rfl,by decide +kernel,rfl,by decide +kernel,by decide +kernel⟩
theorem TB{f:Addr}{fd:FuncData}(F:Fun K "worth_numbers" "worth_numbers" (top 8) f fd)(T:Txt mg)(C:CalsA P w K mg base):FnOk P w K mg base WZ 2 f fd ["numbers"] (lQ K vI):=by
 have S:=wI
 refine OK F S (λcdv A outer s H E hr=>(dQ (xQ (i:=1) S.nd rfl (Or.inr rfl) (Aw rfl rfl T.dict_ (by decide +kernel) (aQ (wx (xZ rfl (own:=["place","worth"]) (fr:=[]) (by kernel_rfl) (Fj rfl T.enumerate_ (aQ (wx (DF C.worths (hr.mono (by first|decide|omega)) (aQ (wn 0) bQ))) bQ)) (λ_ _ _ _=>(BJ rfl rfl (QQ (wQ (i:=0) (by decide +kernel:K3 (["place","worth"]:List Str)) rfl (Or.inl rfl)) (QQ (wQ (i:=1) (by decide +kernel:K3 (["place","worth"]:List Str)) rfl (Or.inl rfl)) kZ)))) (λ_ _ _ _=>Fx) (λ_ _ _ _=>(zQ (aQ (wx (wv 1)) (aQ (wx (wv 0)) bQ)))))) bQ)))
     (nQ (AQ (xZ rfl (own:=["number"]) (fr:=[1]) (by kernel_rfl) (DZ rfl (wv 0)) (λ_ _ _ _=>(wQ (i:=0) (by decide +kernel:K3 (["number","places"]:List Str)) rfl (Or.inl rfl))) (λ_ _ _ _=>Fx) (λ_ _ _ _=>(bB (Jv hr) (wn 1) (wn 0)))))))) ?_ ?_
 ·rintro args Qd ⟨ns,rfl,_⟩;rfl
 ·rintro args Qd ⟨ns,rfl,hn,q⟩
  refine ⟨BQ rfl,?_⟩
  have hw:=NX ns
  refine ⟨ns,rfl,hn,λo=>⟨zZ _,?_⟩⟩
  refine ⟨by simp only[tJ,p0,B6];exact iQ (by omega),?_⟩
  refine jG (λd=>match d with | .tuple [a,b]=>.tuple [b,a]|_=>d) ?_ ?_
  ·intro d hd N hN
   obtain⟨p,_,rfl⟩:=T0.mp hd
   exact ⟨rfl,hN⟩
  refine ⟨(iX ns).zipIdx.map λp=>(Sum.inl p.1,j0 (p.2:Nat)),?_,?_,?_⟩
  ·simp only[tJ,List.zipIdx_map,B1]
   rfl
  ·rw[B1]
   have nd:=(lZ ns).imp (S:=(·≠·)) λh=>by omega
   have e:(List.map ((λx=>x.fst) ∘ λp:Int×Nat=>((Sum.inl p.1:HQ),j0 (p.2:Nat))) (iX ns).zipIdx)=(iX ns).map Sum.inl:=by
    have:(iX ns).map (Sum.inl:Int->HQ)=((iX ns).zipIdx.map (·.1)).map Sum.inl:=by rw[List.zipIdx_map_fst]
    rw[this,B1]
    rfl
   rw[e]
   exact List.Pairwise.map _ (λa b h z=>h (Sum.inl.inj z)) nd
  refine ⟨by rw[p0];exact iQ hn,?_⟩
  refine jG (λd=>.int (ixW (iX ns) (dU d):Nat)) ?_ ?_
  ·intro d hd N hN
   obtain⟨x,hx,rfl⟩:=T0.mp hd
   refine ⟨_,uv ((lZ ns).imp λh=>by omega) ((rZ x ns).mpr hx),hN⟩
  ·have e:(ns.map j0).map (λd=>j0 (ixW (iX ns) (dU d):Nat))=(vK ns).map j0:=by
    unfold vK
    rw[B1,B1]
    rfl
   rw[e]
   exact q _
structure CalsF(P:Program)(w:World)(K:q0)(mg:Str->Option Value)(base:Heap):Prop where
 two_halves:Cal P w K mg base 1 "two_halves" ["stretch"] (lQ K MB)
noncomputable def xI:Con:=λargs Q=>∃(st:List Int) (p:Int×Int),args=[.fz (XQ st),.fz (AZ p)]/\st.length<=1000/\0<=p.1/\p.1<=1000/\0<=p.2/\p.2<=1000/\∀o,Q (.fz (tQ (cU st p))) o
theorem yI:FnScope ["standing","stretch","second"] ["standing","stretch"] (jQ (top 9)):=⟨rfl,rfl,rfl,by decide +kernel,rfl,by decide +kernel,by decide +kernel⟩
theorem UB{f:Addr}{fd:FuncData}(F:Fun K "flags_at" "flags_at" (top 9) f fd)(T:Txt mg)(C:CalsF P w K mg base):FnOk P w K mg base WZ 2 f fd ["standing","stretch"] (lQ K xI):=by
 have S:=yI
 refine OK F S (λcdv A outer s H E hr=>(dQ (xQ (i:=2) S.nd rfl (Or.inr rfl) (GQ rfl (wx (YX C.two_halves (hr.mono (by first|decide|omega)) (aQ (wn 1) bQ))) (wx cQ)))
     (nQ (AQ (cX jK (oZ (K:=K) rfl) T.tuple_ boot_tuple (aQ (wx (xZ rfl (own:=["place"]) (fr:=[2,1]) (by kernel_rfl) (DZ rfl (wv 0)) (λ_ _ _ _=>(wQ (i:=0) (by decide +kernel:K3 (["place","second","stretch"]:List Str)) rfl (Or.inl rfl))) (λ_ _ _ _=>qL (AF XG XG (wx (GQ rfl (wn 2) (wx cQ))) (wn 0) (wx (GQ rfl (wn 2) (wx cQ))))) (λ_ _ _ _=>(xE (FQ Tv Hv (wn 0) (wx (GQ rfl (wn 1) (wx cQ)))) cQ cQ)))) bQ)))))) ?_ ?_
 ·rintro args Qd ⟨st,p,rfl,_⟩;rfl
 ·rintro args Qd ⟨st,⟨a,b⟩,rfl,hn,a0,a1,b0,b1,q⟩
  refine ⟨BQ rfl,?_⟩
  refine ⟨a,b,rfl,a0,b0,by omega,by omega,λo=>?_⟩
  refine ⟨_,rfl,?_⟩
  refine ⟨by rw[p0];exact iQ hn,?_⟩
  refine vw (λd=>decide (a<=dU d)&&decide (dU d<=b)) (λd=>.int (if (a+b) / 2+1<=dU d then 1 else 0)) ?_ ?_
  ·intro d hd N M hN hM
   obtain⟨x,_,rfl⟩:=T0.mp hd
   have hN:(decide (a<=x)&&decide (x<=b))=true->N (.int (if (a+b) / 2+1<=x then 1 else 0)) _:=hN
   have hM:(decide (a<=x)&&decide (x<=b))=false->_:=hM
   refine ⟨_,rfl,eX (λh3=>⟨_,rfl,eX (λh4=>?_) (λh4=>?_)⟩) (λh3=>?_)⟩
   ·have h3:decide (a<=x)=true:=h3
    have h4:decide (x<=b)=true:=h4
    refine ⟨_,rfl,eX (λh5=>?_) (λh5=>?_)⟩
    ·have h5:(a+b) / 2+1<=x:=of_decide_eq_true h5
     rw[if_pos h5]at hN
     exact hN (by rw[h3,h4];rfl)
    ·have h5:¬(a+b) / 2+1<=x:=λz=>h5 (decide_eq_true z)
     rw[if_neg h5]at hN
     exact hN (by rw[h3,h4];rfl)
   ·have h4:¬decide (x<=b)=true:=h4
    exact hM (by rw[n4.mpr h4,o7])
   ·have h3:¬decide (a<=x)=true:=h3
    exact hM (by rw[n4.mpr h3,P5])
  ·have e:((st.map j0).filter λd=>decide (a<=dU d)&&decide (dU d<=b)).map (λd=>j0 (if (a+b) / 2+1<=dU d then 1 else 0))=(cU st (a,b)).map j0:=by
    unfold cU
    rw[w6,B1,B1]
    rfl
   rw[e]
   exact q _
end
noncomputable def zH(p:Int×Int):Bool:=decide (p.1 < p.2)
noncomputable abbrev By(st:List Int)(p:Int×Int):PyData:=.tuple [AZ p,tQ (cU st p)]
noncomputable def aZ(ns:List Int)(ps:List (Int×Int)):List PyData:=(ps.filter zH).map (By (vK ns))
noncomputable def IL:PyData->Int×Int
 | .tuple [.int a,.int b]=>(a,b)
 | _=>(0,0)
theorem mY(ns:List Int):(vK ns).length=ns.length:=by unfold vK;rw[p0]
theorem cx{ns:List Int}{ps:List (Int×Int)}(h:1<=ns.length)(hp:Prs (iX ns).length ps):(aZ ns ps).length<=2 * ns.length:=by
 have h1:=hp.len (by have:=lY h;omega)
 have h2:=NX ns
 have h3:=N3 zH ps
 unfold aZ
 rw[p0]
 omega
theorem jW(l:List Int):noMut (tQ l)=true:=zZ l
theorem VX(st:List Int):∀ps:List (Int×Int),noMutAll (ps.map (By st))=true
 | []=>rfl
 | p :: ps=>by
  show (noMut (By st p)&&noMutAll (ps.map (By st)))=true
  have:noMut (By st p)=true:=by
   show (noMut (AZ p)&&(noMut (tQ (cU st p))&&true))=true
   rw[jW]
   rfl
  rw[this,VX st ps]
  rfl
mutual
noncomputable def vJ:PyData->Bool
 | .dict es=>QY es
 | .list xs=>okAll xs
 | .tuple xs=>okAll xs
 | .none=>true
 | .bool _=>true
 | .int _=>true
 | .str _=>true
noncomputable def okAll:List PyData->Bool
 | []=>true
 | x :: xs=>vJ x&&okAll xs
end
theorem GZ:∀{xs:List PyData},okAll xs=true->∀d∈xs,vJ d=true
 | [],_,d,h=>by simp at h
 | x :: xs,h,d,hd=>by
  simp[okAll]at h
  rcases K0.mp hd with rfl|hd
  ·exact h.1
  ·exact GZ h.2 d hd
theorem oH:∀{xs:List PyData},(∀d∈xs,vJ d=true)->okAll xs=true
 | [],_=>rfl
 | x :: xs,h=>by
  simp[okAll]
  exact ⟨h x G0,oH λd hd=>h d (J0 _ hd)⟩
noncomputable def Hx:PyData->Bool
 | .int _=>true
 | _=>false
noncomputable def RG(n:Int):PyData->Bool
 | .tuple xs=>decide ((xs.length:Int)=n)&&(xs.map Hx).all id
 | _=>false
noncomputable def lq(d e:PyData):Bool:=@decide (d=e) (Classical.propDecidable _)
theorem SK{d e:PyData}(h:d=e):lq d e=true:=@decide_eq_true _ (Classical.propDecidable _) h
theorem sZ{d e:PyData}(h:d≠e):lq d e=false:=@decide_eq_false _ (Classical.propDecidable _) h
theorem pH:∀{ds:List PyData},(ds.map Hx).all id=true->∃ns:List Int,ds=ns.map j0
 | [],_=>⟨[],rfl⟩
 | d :: ds,h=>by
  simp only[Z1,List.all_cons,Q4]at h
  obtain⟨ns,e⟩:=pH (ds:=ds) h.2
  have h1:Hx d=true:=h.1
  cases d<;>first|cases h1|skip
  rename_i i
  exact ⟨i :: ns,by rw[e];rfl⟩
theorem VF{n:Int}{d:PyData}(h:RG n d=true):∃l:List Int,d=tQ l/\(l.length:Int)=n:=by
 cases d<;>first|cases h|skip
 rename_i xs
 have h:(decide ((xs.length:Int)=n)&&(xs.map Hx).all id)=true:=h
 rw[Q4,decide_eq_true_eq]at h
 obtain⟨ns,rfl⟩:=pH h.2
 rw[p0]at h
 exact ⟨ns,rfl,h.1⟩
theorem qH:∀l:List Int,((l.map j0).map Hx).all id=true
 | []=>rfl
 | _ :: l=>by
  show (true&&((l.map j0).map Hx).all id)=true
  rw[qH l]
  rfl
theorem jV(l:List Int):RG l.length (tQ l)=true:=by
 show (decide (((l.map j0).length:Int)=l.length)&&_)=true
 rw[p0,decide_eq_true rfl,qH]
 rfl
theorem fZ:∀a b:List Int,sameAll (a.map j0) (b.map j0)=decide (a=b)
 | [],[]=>rfl
 | [],_ :: _=>by simp[sameAll]
 | _ :: _,[]=>by simp[sameAll]
 | x :: a,y :: b=>by
  have ih:=fZ a b
  simp only[Z1,sameAll,same,ih]
  by_cases h1:x=y<;>by_cases h2:a=b<;>simp[h1,h2]
theorem wJ:∀a b:List Int,SeqAt.noMixAll (a.map j0) (b.map j0)=true
 | [],[]=>rfl
 | [],_ :: _=>by simp[SeqAt.noMixAll]
 | _ :: _,[]=>by simp[SeqAt.noMixAll]
 | x :: a,y :: b=>by simp[SeqAt.noMixAll,SeqAt.noMix,wJ a b]
theorem SV{a b:List Int}(h:tQ a=tQ b):a=b:=by
 injection h with h
 exact E6 (λ_ _ z=>by injection z) |>.mp h
noncomputable abbrev rH(a b:List Int):PyData:=.tuple [tQ a,tQ b]
theorem WF(a b c d:List Int):same (rH a b) (rH c d)=(decide (a=c)&&decide (b=d)):=by
 show (same (tQ a) (tQ c)&&(same (tQ b) (tQ d)&&true))=_
 show (sameAll (a.map j0) (c.map j0)&&(sameAll (b.map j0) (d.map j0)&&true))=_
 rw[fZ,fZ,Bool.and_true]
theorem fx(a b c d:List Int):SeqAt.noMix (rH a b) (rH c d)=true:=by
 simp[SeqAt.noMix,SeqAt.noMixAll,wJ]
theorem UV(a b:List Int):Nice 2 (rH a b):=.tuple λd hd=>by
 simp only[K0,G1,or_false]at hd
 rcases hd with rfl|rfl
 ·exact Nice.tup _
 ·exact Nice.tup _
theorem VB(a b c d:List Int):lq (rH a b) (rH c d)=(decide (a=c)&&decide (b=d)):=by
 by_cases h1:a=c
 ·by_cases h2:b=d
  ·rw[SK (by rw[h1,h2]),decide_eq_true h1,decide_eq_true h2];rfl
  ·rw[sZ (λz=>h2 ?_),decide_eq_false h2,o7]
   injection z with z;injection z with _ z;injection z with z _
   exact SV z
 ·rw[sZ (λz=>h1 ?_),decide_eq_false h1,P5]
  injection z with z;injection z with z _
  exact SV z
theorem XF:∀es xs:List PyData,es.length=xs.length->((es.zip xs).map λp=>lq p.2 p.1).all id=lq (.list xs) (.list es)
 | [],[],_=>(SK rfl).symm
 | [],_ :: _,h=>by cases h
 | _ :: _,[],h=>by cases h
 | e :: es,x :: xs,h=>by
  have ih:=XF es xs (by simpa using h)
  show (lq x e&&((es.zip xs).map λp=>lq p.2 p.1).all id)=_
  rw[ih]
  by_cases h1:x=e
  ·subst h1
   rw[SK rfl,Bool.true_and]
   by_cases h2:xs=es
   ·rw[h2,SK rfl,SK rfl]
   ·rw[sZ (λz=>h2 (by injection z)),sZ (λz=>h2 (by injection z with z;injection z))]
  ·rw[sZ h1,P5,sZ (λz=>h1 (by injection z with z;injection z))]
section
variable {P:Program}{w:World}{K:q0}{mg:Str->Option Value}{base:Heap}
structure CalsP(P:Program)(w:World)(K:q0)(mg:Str->Option Value)(base:Heap):Prop where
 worth_numbers:Cal P w K mg base 2 "worth_numbers" ["numbers"] (lQ K vI)
 worths:Cal P w K mg base 1 "worths" ["numbers"] (lQ K RB)
 stretches:Cal P w K mg base 2 "stretches" ["side"] (lQ K pI)
 flags_at:Cal P w K mg base 2 "flags_at" ["standing","stretch"] (lQ K xI)
noncomputable def AI:Con:=λargs Q=>∃ns:List Int,args=[.fz (XQ ns)]/\1<=ns.length/\ns.length<=1000/\∀(ps:List (Int×Int)) (o:Ev),Prs (iX ns).length ps->Q (.ow (.list (aZ ns ps))) o
theorem BI:FnScope ["numbers","standing","longer"] ["numbers"] (jQ (top 10)):=⟨rfl,rfl,rfl,by decide +kernel,rfl,by decide +kernel,by decide +kernel⟩
theorem WB{f:Addr}{fd:FuncData}(F:Fun K "parted" "parted" (top 10) f fd)(T:Txt mg)(C:CalsP P w K mg base):FnOk P w K mg base WZ 3 f fd ["numbers"] (lQ K AI):=by
 have S:=BI
 refine OK F S (λcdv A outer s H E hr=>(dQ (xQ (i:=1) S.nd rfl (Or.inr rfl) (YX C.worth_numbers (hr.mono (by first|decide|omega)) (aQ (wn 0) bQ)))
     (dQ (CV (i:=2) S.nd rfl rfl rfl (own:=["stretch"]) (fr:=[]) (by kernel_rfl) (DZ rfl (YX C.stretches (hr.mono (by first|decide|omega)) (aQ (wx (mQ CQ (kQ (K:=K) rfl) T.len_ PySem.boot_len (aQ (wx (YX C.worths (hr.mono (by first|decide|omega)) (aQ (wn 0) bQ))) bQ))) bQ))) (λ_ _ _ _=>(wQ (i:=0) (by decide +kernel:K3 (["stretch"]:List Str)) rfl (Or.inl rfl))) (λ_ _ _ _=>qL (FQ JY pY (wx (GQ rfl (wn 0) (wx cQ))) (wx (GQ rfl (wn 0) (wx cQ))))) (λ_ _ _ _=>(wv 0)))
     (nQ (AQ (xZ rfl (own:=["stretch"]) (fr:=[1]) (by kernel_rfl) (DZ rfl (wv 2)) (λ_ _ _ _=>(wQ (i:=0) (by decide +kernel:K3 (["stretch","standing"]:List Str)) rfl (Or.inl rfl))) (λ_ _ _ _=>Fx) (λ_ _ _ _=>(zQ (aQ (wx (wv 0)) (aQ (wx (YX C.flags_at (hr.mono (by first|decide|omega)) (aQ (wn 1) (aQ (wn 0) bQ)))) bQ)))))))))) ?_ ?_
 ·rintro args Qd ⟨ns,rfl,_⟩;rfl
 ·rintro args Qd ⟨ns,rfl,hn1,hn,q⟩
  refine ⟨BQ rfl,?_⟩
  have hw:=NX ns
  have hw1:=lY hn1
  refine ⟨ns,rfl,hn,λo=>?_⟩
  refine ⟨ns,rfl,hn,λo=>?_⟩
  refine ⟨_,rfl,by rw[p0];omega,by rw[p0];omega,λrows o r1 r2=>?_⟩
  rw[p0]at r1
  obtain⟨ps,hps,ep⟩:=Prs.mk_of (by omega) r1 r2
  rw[ep]
  have hin:=hps.in_ (by omega)
  have hpl:=hps.len (by omega)
  refine ⟨by rw[p0];exact Z0 (show ps.length<=2000 by omega) (by decide),?_⟩
  refine vw (λd=>zH (IL d)) id ?_ ?_
  ·intro d hd N M hN hM
   obtain⟨p,_,rfl⟩:=T0.mp hd
   have hN:zH p=true->_:=hN
   have hM:zH p=false->_:=hM
   refine ⟨_,rfl,_,rfl,eX (λh=>?_) (λh=>?_)⟩
   ·exact hN h
   ·exact hM (n4.mpr h)
  have e:((ps.map AZ).filter λd=>zH (IL d)).map id=(ps.filter zH).map AZ:=by
   rw[B8,w6]
   rfl
  rw[e]
  have hfl:=N3 zH ps
  refine ⟨by rw[p0];exact Z0 (show _<=2000 by omega) (by decide),?_⟩
  refine jG (λd=>By (vK ns) (IL d)) ?_ ?_
  ·intro d hd N hN
   obtain⟨p,hp,rfl⟩:=T0.mp hd
   have hp':=hin p (U3.mp hp).1
   refine ⟨vK ns,p,rfl,by rw[mY];exact hn,by omega,by omega,by omega,by omega,λo=>⟨jW _,?_⟩⟩
   exact hN
  ·have e:((ps.filter zH).map AZ).map (λd=>By (vK ns) (IL d))=aZ ns ps:=by
    unfold aZ
    rw[B1]
    rfl
   rw[e]
   exact q ps _ hps
noncomputable def gx:Con:=λargs Q=>∃d,args=[.fz d]/\vJ d=true/\∀o,Q (.fz (.bool (Hx d))) o
theorem vv:FnScope ["thing"] ["thing"] (jQ (top 4)):=⟨rfl,rfl,rfl,by decide +kernel,rfl,by decide +kernel,by decide +kernel⟩
theorem jx{f:Addr}{fd:FuncData}(F:Fun K "is_whole" "is_whole" (top 4) f fd)(T:Txt mg):FnOk P w K mg base WZ 1 f fd ["thing"] (lQ K gx):=by
 have S:=vv
 refine OK F S (λcdv A outer s H E hr=>(nQ (AQ (Xz (RY .int rfl T.isinstance_ T.int_ boot_int (wn 0)) (Wv (w_not (RY .bl rfl T.isinstance_ T.bool_ boot_bool (wn 0)))))))) ?_ ?_
 ·rintro args Qd ⟨d,rfl,_⟩;rfl
 ·rintro args Qd ⟨d,rfl,hd,q⟩
  refine ⟨BQ rfl,?_⟩
  cases d with
  | dict es=>exact ⟨hd,q _⟩
  | int i=>exact q _
  | bool b=>exact q _
  | none=>exact q _
  | str x=>exact q _
  | list xs=>exact q _
  | tuple xs=>exact q _
structure CalsC(P:Program)(w:World)(K:q0)(mg:Str->Option Value)(base:Heap):Prop where
 is_whole:Cal P w K mg base 1 "is_whole" ["thing"] (lQ K gx)
noncomputable def Cy:Con:=λargs Q=>∃(d:PyData) (n:Int),args=[.fz d,.fz (.int n)]/\vJ d=true/\n<=1000/\∀o,Q (.fz (.bool (RG n d))) o
theorem XB:FnScope ["thing","many"] ["thing","many"] (jQ (top 5)):=⟨rfl,rfl,rfl,by decide +kernel,rfl,by decide +kernel,by decide +kernel⟩
theorem xv{f:Addr}{fd:FuncData}(F:Fun K "are_wholes" "are_wholes" (top 5) f fd)(T:Txt mg)(C:CalsC P w K mg base):FnOk P w K mg base WZ 2 f fd ["thing","many"] (lQ K Cy):=by
 have S:=XB
 refine OK F S (λcdv A outer s H E hr=>(dQ (tX (ww (lG (TW (UW (RY .tup rfl T.isinstance_ T.tuple_ boot_tuple (wn 0)))) (NY (FQ KY (LJ (K:=K) rfl hr.units) (wx (mQ CQ (kQ (K:=K) rfl) T.len_ PySem.boot_len (aQ (wn 0) bQ))) (wn 1))))) (nQ (AQ dZ)) UQ)
     (nQ (AQ (mQ Hz (MW (K:=K) rfl rfl) T.all_ boot_all (aQ (wx (xZ rfl (own:=["number"]) (fr:=[]) (by kernel_rfl) (DZ rfl (wv 0)) (λ_ _ _ _=>(wQ (i:=0) (by decide +kernel:K3 (["number"]:List Str)) rfl (Or.inl rfl))) (λ_ _ _ _=>Fx) (λ_ _ _ _=>(YX C.is_whole (hr.mono (by first|decide|omega)) (aQ (wn 0) bQ))))) bQ)))))) ?_ ?_
 ·rintro args Qd ⟨d,n,rfl,_⟩;rfl
 ·rintro args Qd ⟨d,n,rfl,hd,hn,q⟩
  refine ⟨BQ rfl,?_⟩
  cases d with
  | dict es=>exact ⟨hd,q _⟩
  | int i=>exact q _
  | bool b=>exact q _
  | none=>exact q _
  | str x=>exact q _
  | list xs=>exact q _
  | tuple xs =>
   refine eX (λh=>?_) (λh=>?_)
   ·have h:¬(xs.length:Int)=n:=by simpa using h
    have e:RG n (.tuple xs)=false:=by show (decide _&&_)=false;rw[decide_eq_false h];rfl
    rw[e]at q
    exact q _
   ·have h:(xs.length:Int)=n:=by simpa using h
    refine ⟨iQ (by omega),jG (λd=>.bool (Hx d)) ?_ ?_⟩
    ·intro d hd2 N hN
     exact ⟨d,rfl,GZ (by simpa [vJ]using hd) d hd2,λo=>hN⟩
    ·refine ⟨xs.map Hx,by rw[B1];rfl,?_⟩
     have e:RG n (.tuple xs)=(xs.map Hx).all id:=by show (decide _&&_)=_;rw[decide_eq_true h];rfl
     rw[<- e]
     exact q _
structure CalsIe(P:Program)(w:World)(K:q0)(mg:Str->Option Value)(base:Heap):Prop where
 are_wholes:Cal P w K mg base 2 "are_wholes" ["thing","many"] (lQ K Cy)
noncomputable def VM:Con:=λargs Q=>∃(p:Int×Int) (l:List Int) (d:PyData),args=[.fz (.tuple [AZ p,tQ l]),.fz d]/\l.length<=1000/\vJ d=true/\∀o,Q (.fz (.bool (lq d (.tuple [AZ p,tQ l])))) o
theorem vM:FnScope ["right","thing"] ["right","thing"] (jQ (top 12)):=⟨rfl,rfl,rfl,by decide +kernel,rfl,by decide +kernel,by decide +kernel⟩
theorem CI{f:Addr}{fd:FuncData}(F:Fun K "is_entry" "is_entry" (top 12) f fd)(T:Txt mg)(C:CalsIe P w K mg base):FnOk P w K mg base WZ 3 f fd ["right","thing"] (lQ K VM):=by
 have S:=vM
 refine OK F S (λcdv A outer s H E hr=>(dQ (tX (ww (lG (TW (UW (RY .tup rfl T.isinstance_ T.tuple_ boot_tuple (wn 1)))) (NY (FQ KY (LJ (K:=K) rfl hr.units) (wx (mQ CQ (kQ (K:=K) rfl) T.len_ PySem.boot_len (aQ (wn 1) bQ))) (wx cQ))))) (nQ (AQ dZ)) UQ)
     (nQ (AQ (Xz (YX C.are_wholes (hr.mono (by first|decide|omega)) (aQ (wx (GQ rfl (wn 1) (wx cQ))) (aQ (wx cQ) bQ))) (Xz (YX C.are_wholes (hr.mono (by first|decide|omega)) (aQ (wx (GQ rfl (wn 1) (wx cQ))) (aQ (wx (mQ CQ (kQ (K:=K) rfl) T.len_ PySem.boot_len (aQ (wx (GQ rfl (wn 0) (wx cQ))) bQ))) bQ))) (Wv (LU JX (nX (K:=K) rfl hr.units) (wn 1) (wn 0))))))))) ?_ ?_
 ·rintro args Qd ⟨p,l,d,rfl,_⟩;rfl
 ·rintro args Qd ⟨p,l,d,rfl,hl,hd,q⟩
  refine ⟨BQ rfl,?_⟩
  have no:(d≠.tuple [AZ p,tQ l])->∀o,Qd (.fz (.bool false)) o:=λh=>by rw[sZ h]at q;exact q
  cases d with
  | dict es=>exact ⟨hd,no (λz=>by cases z) _⟩
  | int i=>exact no (λz=>by cases z) _
  | bool b=>exact no (λz=>by cases z) _
  | none=>exact no (λz=>by cases z) _
  | str x=>exact no (λz=>by cases z) _
  | list xs=>exact no (λz=>by cases z) _
  | tuple xs =>
   refine eX (λh=>?_) (λh=>?_)
   ·have h:¬(xs.length:Int)=2:=by simpa using h
    exact no (λz=>by injection z with z;subst z;exact h rfl) _
   ·have h:(xs.length:Int)=2:=by simpa using h
    obtain⟨a,b,rfl⟩:∃a b,xs=[a,b]:=by
     rcases xs with _|⟨a,_|⟨b,_|⟨c,xs⟩⟩⟩
     ·simp at h
     ·simp at h
     ·exact ⟨a,b,rfl⟩
     ·simp at h;omega
    have oa:vJ a=true:=GZ (by simpa [vJ]using hd) a (by simp)
    have ob:vJ b=true:=GZ (by simpa [vJ]using hd) b (by simp)
    refine ⟨a,rfl,a,2,rfl,oa,by decide,λo=>?_⟩
    cases h1:RG 2 a with
    | false =>
     refine no (λz=>?_) _
     injection z with z
     injection z with z _
     subst z
     have:=jV [p.1,p.2]
     rw[show (([p.1,p.2]:List Int).length:Int)=2 from rfl]at this
     exact X0 (h1.symm.trans this)
    | true =>
     refine ⟨b,rfl,tQ l,rfl,b,l.length,by rw[p0];rfl,ob,by omega,λo=>?_⟩
     cases h2:RG (l.length:Int) b with
     | false =>
      refine no (λz=>?_) _
      injection z with z
      injection z with _ z
      injection z with z _
      subst z
      exact X0 (h2.symm.trans (jV l))
     | true =>
      obtain⟨la,rfl,_⟩:=VF h1
      obtain⟨lb,rfl,_⟩:=VF h2
      have n1:=UV la lb
      have n2:=UV [p.1,p.2] l
      refine ⟨n1.p,n2.p,n1.sh (by decide),n2.sh (by decide),fx la lb [p.1,p.2] l,?_⟩
      have e:same (rH la lb) (rH [p.1,p.2] l)=lq (rH la lb) (rH [p.1,p.2] l):=by rw[WF,VB]
      refine (?_:Qd (.fz (.bool (same (rH la lb) (rH [p.1,p.2] l)))) _)
      rw[e]
      exact q _
structure CalsH(P:Program)(w:World)(K:q0)(mg:Str->Option Value)(base:Heap):Prop where
 parted:Cal P w K mg base 3 "parted" ["numbers"] (lQ K AI)
 is_entry:Cal P w K mg base 3 "is_entry" ["right","thing"] (lQ K VM)
noncomputable def zv:Con:=λargs Q=>∃(ns:List Int) (d:PyData) (ps:List (Int×Int)),args=[.fz (XQ ns),.fz d]/\1<=ns.length/\ns.length<=1000/\vJ d=true/\Prs (iX ns).length ps/\∀o,Q (.fz (.bool (lq d (.list (aZ ns ps))))) o
noncomputable def zB:PyData->PyData
 | .tuple [e,x]=>.bool (lq x e)
 | _=>.bool false
theorem DI:FnScope ["numbers","thing","right"] ["numbers","thing"] (jQ (top 11)):=⟨rfl,rfl,rfl,by decide +kernel,rfl,by decide +kernel,by decide +kernel⟩
theorem YB{f:Addr}{fd:FuncData}(F:Fun K "holds_parted" "holds_parted" (top 11) f fd)(T:Txt mg)(C:CalsH P w K mg base):FnOk P w K mg base WZ 4 f fd ["numbers","thing"] (lQ K zv):=by
 have S:=DI
 refine OK F S (λcdv A outer s H E hr=>(dQ (xQ (i:=2) S.nd rfl (Or.inl rfl) (YX C.parted (hr.mono (by first|decide|omega)) (aQ (wn 0) bQ)))
     (dQ (tX (ww (lG (TW (UW (RY .lst rfl T.isinstance_ T.list_ boot_list (wn 1)))) (NY (FQ KY (LJ (K:=K) rfl hr.units) (wx (mQ CQ (kQ (K:=K) rfl) T.len_ PySem.boot_len (aQ (wn 1) bQ))) (wx (mQ CQ (kQ (K:=K) rfl) T.len_ PySem.boot_len (aQ (wn 2) bQ))))))) (nQ (AQ dZ)) UQ)
     (nQ (AQ (mQ Hz (MW (K:=K) rfl rfl) T.all_ boot_all (aQ (wx (xZ rfl (own:=["entry","shown"]) (fr:=[]) (by kernel_rfl) (cB rfl T.zip_ (aQ (wx (wv 2)) (aQ (wx (wv 1)) bQ))) (λ_ _ _ _=>(BJ rfl rfl (QQ (wQ (i:=0) (by decide +kernel:K3 (["entry","shown"]:List Str)) rfl (Or.inl rfl)) (QQ (wQ (i:=1) (by decide +kernel:K3 (["entry","shown"]:List Str)) rfl (Or.inl rfl)) kZ)))) (λ_ _ _ _=>Fx) (λ_ _ _ _=>(YX C.is_entry (hr.mono (by first|decide|omega)) (aQ (wn 0) (aQ (wn 1) bQ)))))) bQ))))))) ?_ ?_
 ·rintro args Qd ⟨ns,d,ps,rfl,_⟩;rfl
 ·rintro args Qd ⟨ns,d,ps,rfl,hn1,hn,hd,hps,q⟩
  refine ⟨BQ rfl,?_⟩
  refine ⟨ns,rfl,hn1,hn,λps' o h'=>?_⟩
  have e:=h'.uniq hps
  subst e
  have hel:=cx hn1 hps
  have no:(d≠.list (aZ ns ps'))->∀o,Qd (.fz (.bool false)) o:=λh=>by rw[sZ h]at q;exact q
  cases d with
  | dict es=>exact ⟨hd,no (λz=>by cases z) _⟩
  | int i=>exact no (λz=>by cases z) _
  | bool b=>exact no (λz=>by cases z) _
  | none=>exact no (λz=>by cases z) _
  | str x=>exact no (λz=>by cases z) _
  | tuple xs=>exact no (λz=>by cases z) _
  | list xs =>
   refine eX (λh=>?_) (λh=>?_)
   ·have h:(!decide ((xs.length:Int)=((aZ ns ps').length:Int)))=true:=h
    exact no (λz=>by injection z with z;subst z;simp at h) _
   have h:¬(!decide ((xs.length:Int)=((aZ ns ps').length:Int)))=true:=h
   have hxl:(aZ ns ps').length=xs.length:=by
    have:(xs.length:Int)=((aZ ns ps').length:Int):=by simpa using h
    omega
   refine ⟨by unfold gG;rw[p0,List.length_zip,<- hxl,Nat.min_self];exact Z0 (show _<=2000 by omega) (by decide),?_⟩
   refine jG zB ?_ ?_
   ·intro d hd' N hN
    unfold gG at hd'
    obtain⟨p,hp,rfl⟩:=T0.mp hd'
    obtain⟨e,x⟩:=p
    have he:=(u6 hp).1
    have hx:=(u6 hp).2
    obtain⟨y,_,rfl⟩:=T0.mp he
    refine ⟨rfl,y,cU (vK ns) y,x,rfl,?_,GZ (by simpa [vJ]using hd) x hx,λo=>hN⟩
    have:=QV (vK ns) y
    rw[mY]at this
    omega
   ·refine ⟨((aZ ns ps').zip xs).map λp=>lq p.2 p.1,?_,?_⟩
    ·unfold gG
     rw[B1,B1]
     rfl
    ·rw[XF _ _ hxl]
     exact q _
end
theorem kx(l:List Int):SeqAt.noMix (.list (l.map j0)) (.list [])=true:=by cases l<;>simp[SeqAt.noMix,SeqAt.noMixAll]
theorem lV(l:List Int):same (.list (l.map j0)) (.list [])=decide (l=[]):=by cases l<;>simp[same,sameAll]
section
variable {P:Program}{w:World}{K:q0}{mg:Str->Option Value}{base:Heap}
noncomputable def ZB:Con:=λargs Q=>∃ns:List Int,args=[.fz (XQ ns)]/\ns.length<=1000/\∀o,Q (.ow (XQ (iX ns))) o
theorem EI:FnScope ["_law_numbers","_law_found","_law_number_here"] ["_law_numbers"] (jQ (top 20)):=⟨rfl,rfl,rfl,by decide +kernel,rfl,by decide +kernel,by decide +kernel⟩
theorem aC{f:Addr}{fd:FuncData}(F:Fun K "_law_worths" "_law_worths" (top 20) f fd)(T:Txt mg):FnOk P w K mg base WZ 1 f fd ["_law_numbers"] (lQ K ZB):=by
 have S:=EI
 refine OK F S (λcdv A outer s H E hr=>(dQ (xQ (i:=1) S.nd rfl (Or.inl rfl) (RQ bQ))
     (dQ (CJ [2] PassesOwn.never rfl (DZ rfl (mQ Nj (gH rfl) T.sorted_ boot_sorted (aQ (wn 0) bQ))) (wQ (i:=2) S.nd rfl (Or.inl rfl)) (nQ (tX (ww (lG (FQ JX (nX (K:=K) rfl hr.units) (wn 1) (wx (RQ bQ))) (NY (FQ KY (LJ (K:=K) rfl hr.units) (wx (GQ rfl (wn 1) (wx (MY (wx cQ))))) (wn 2))))) (nQ (LX (zF yX rfl PySem.F.slot_list_append PySem.F.type_list_append vX (wn 1) (aQ (wx (wv 2)) bQ)))) UQ)))
     (nQ (BV (wn 1)))))) ?_ ?_
 ·rintro args Qd ⟨ns,rfl,_⟩;rfl
 ·rintro args Qd ⟨ns,rfl,hn,q⟩
  refine ⟨BQ rfl,?_⟩
  refine ⟨ns,rfl,λms m1 m2=>?_⟩
  have hml:=m1.length_eq
  refine mJ (λrest ρ=>∃pre suf fd:List Int,rest=suf.map j0/\ms=pre++suf/\fd.Pairwise (· < ·)/\(∀z,z∈fd ↔ z∈pre)/\fd.length<=pre.length/\ρ=[some (.fz (XQ ns)),some (.ow (XQ fd)),none]) ?_ ?_ ⟨[],ms,[],rfl,rfl,.nil,by simp,B0 _,rfl⟩
  ·rintro d ds ρ ⟨pre,suf,fd,e1,e2,hr,hm,hfl,rfl⟩ N hN
   cases suf with
   | nil=>cases e1
   | cons x suf =>
    cases e1
    subst e2
    have m3:=u3.mp m2
    have le:∀z∈fd,z<=x:=λz hz=>m3.2.2 z ((hm z).mp hz) x G0
    have hz:fd.length < 1000:=by rw[Q0,V1]at hml;omega
    have nf:=Nice.ints fd
    have app:(∀z∈fd,z < x)->N [some (.fz (XQ ns)),some (.ow (.list (fd.map j0++[.int x]))),none]:=λhlt=>by
     have e:fd.map j0++[j0 x]=(fd++[x]).map j0:=by simp
     rw[e]
     refine hN _ ⟨pre++[x],suf,fd++[x],rfl,by simp,?_,λz=>by rw[V0,hm,V0],by simp;omega,rfl⟩
     rw[u3]
     exact ⟨hr,W4 _ _,λa ha b hb=>by rw[Y0.mp hb];exact hlt a ha⟩
    refine ⟨nf.p,rfl,nf.sh (by decide),rfl,kx fd,eX (λh=>?_) (λh=>?_)⟩
    ·have h:same (.list (fd.map j0)) (.list [])=true:=h
     rw[lV]at h
     have h:fd=[]:=of_decide_eq_true h
     subst h
     refine ⟨by simp;decide,?_⟩
     exact app (by simp)
    ·have h:¬same (.list (fd.map j0)) (.list [])=true:=h
     rw[lV]at h
     have h:fd≠[]:=λz=>h (decide_eq_true z)
     obtain⟨fd',y,rfl⟩:∃fd' y,fd=fd'++[y]:=by
      rcases Y5 fd with e|⟨a,b,e⟩
      ·exact absurd e h
      ·exact ⟨a,b,by simpa using e⟩
     have hat:TJ ((fd'++[y]).map j0) (-1)=some (.int y):=by
      unfold TJ
      have:wH ((fd'++[y]).map j0).length (-1)=some fd'.length:=by
       simp[wH]
       omega
      rw[this]
      simp
     refine ⟨_,hat,eX (λh2=>?_) (λh2=>?_)⟩
     ·have h2:(!decide (y=x))=true:=h2
      have h2:y≠x:=by simpa using h2
      refine ⟨by rw[p0];exact U0 hz (by decide),?_⟩
      exact app λz hzm=>by
       rcases V0.mp hzm with hz'|hz'
       ·have h5:=(u3.mp hr).2.2 z hz' y G0
        have:=le y (by simp)
        omega
       ·rw[Y0.mp hz']
        have:=le y (by simp)
        omega
     ·have h2:¬(!decide (y=x))=true:=h2
      have h2:y=x:=by simpa using h2
      subst h2
      refine hN _ ⟨pre++[y],suf,fd'++[y],rfl,by simp,hr,λz=>?_,by simp at hfl ⊢;omega,rfl⟩
      rw[hm,V0]
      constructor
      ·exact λz=>.inl z
      ·rintro (z'|z')
       ·exact z'
       ·rw[Y0.mp z',<- hm];simp
  ·rintro ρ ⟨pre,suf,fd,e1,e2,hr,hm,_,rfl⟩
   have:suf=[]:=by cases suf with
    | nil=>rfl
    | cons=>cases e1
   subst this
   rw[u4]at e2
   subst e2
   rw[show fd=iX ns from MG hr λz=>by rw[hm,m1.mem_iff]]
   exact q _
structure CalsLp(P:Program)(w:World)(K:q0)(mg:Str->Option Value)(base:Heap):Prop where
 law_worths:Cal P w K mg base 1 "_law_worths" ["_law_numbers"] (lQ K ZB)
 law_halves:Cal P w K mg base 1 "_law_halves" ["_law_size"] (lQ K sI)
noncomputable def Av:Con:=λargs Q=>∃ns:List Int,args=[.fz (XQ ns)]/\1<=ns.length/\ns.length<=1000/\∀(ps:List (Int×Int)) (o:Ev),Prs (iX ns).length ps->Q (.ow (.list (aZ ns ps))) o
theorem FI:FnScope ["_law_numbers","_law_some","_law_found","_law_first","_law_last","_law_here"] ["_law_numbers"] (jQ (top 21)):=⟨rfl,rfl,rfl,by decide +kernel,rfl,by decide +kernel,by decide +kernel⟩
theorem bC{f:Addr}{fd:FuncData}(F:Fun K "_law_parting" "_law_parting" (top 21) f fd)(T:Txt mg)(C:CalsLp P w K mg base):FnOk P w K mg base WZ 2 f fd ["_law_numbers"] (lQ K Av):=by
 have S:=FI
 refine OK F S (λcdv A outer s H E hr=>(dQ (xQ (i:=1) S.nd rfl (Or.inr rfl) (YX C.law_worths (hr.mono (by first|decide|omega)) (aQ (wn 0) bQ)))
     (dQ (xQ (i:=2) S.nd rfl (Or.inl rfl) (RQ bQ))
     (dQ (CJ [3,4] PassesOwn.never rfl (DZ rfl (YX C.law_halves (hr.mono (by first|decide|omega)) (aQ (wx (mQ CQ (kQ (K:=K) rfl) T.len_ PySem.boot_len (aQ (wn 1) bQ))) bQ))) (BJ rfl rfl (QQ (wQ (i:=3) S.nd rfl (Or.inr rfl)) (QQ (wQ (i:=4) S.nd rfl (Or.inr rfl)) kZ))) (nQ (tX (FQ JY pY (wn 3) (wn 4)) (dQ (CV (i:=5) S.nd rfl rfl rfl (own:=["_law_number_here"]) (fr:=[1,3,4]) (by kernel_rfl) (DZ rfl (wv 0)) (λ_ _ _ _=>(wQ (i:=0) (by decide +kernel:K3 (["_law_number_here","_law_some","_law_first","_law_last"]:List Str)) rfl (Or.inl rfl))) (λ_ _ _ _=>qL (AF XG XG (wx (GQ rfl (wn 1) (wn 2))) (wn 0) (wx (GQ rfl (wn 1) (wn 3))))) (λ_ _ _ _=>(wv 0)))
     (nQ (LX (zF yX rfl PySem.F.slot_list_append PySem.F.type_list_append vX (wn 2) (aQ (wx (zQ (aQ (wx (zQ (aQ (wx (wv 3)) (aQ (wx (wv 4)) bQ)))) (aQ (wx (cX jK (oZ (K:=K) rfl) T.tuple_ boot_tuple (aQ (wx (xZ rfl (own:=["_law_number_here"]) (fr:=[1,3,4]) (by kernel_rfl) (DZ rfl (wv 5)) (λ_ _ _ _=>(wQ (i:=0) (by decide +kernel:K3 (["_law_number_here","_law_some","_law_first","_law_last"]:List Str)) rfl (Or.inl rfl))) (λ_ _ _ _=>Fx) (λ_ _ _ _=>(cX E9 lD T.int_ boot_int (aQ (wx (LU SW CW (wn 0) (wx (GQ rfl (wn 1) (wx (w_bin kK VJ (wx (w_bin gQ eQ (wn 2) (wn 3))) (wx cQ))))))) bQ))))) bQ))) bQ)))) bQ))))) UQ)))
     (nQ (BV (wn 2))))))) ?_ ?_
 ·rintro args Qd ⟨ns,rfl,_⟩;rfl
 ·rintro args Qd ⟨ns,rfl,hn1,hn,q⟩
  refine ⟨BQ rfl,?_⟩
  have hw:=NX ns
  have hw1:=lY hn1
  refine ⟨ns,rfl,hn,λo=>?_⟩
  refine ⟨_,rfl,by rw[p0];omega,by rw[p0];omega,λrows o r1 r2=>?_⟩
  rw[p0]at r1
  obtain⟨ps,hps,ep⟩:=Prs.mk_of (by omega) r1 r2
  rw[ep]
  have hin:=hps.in_ (by omega)
  have hpl:=hps.len (by omega)
  refine mJ (λrest ρ=>∃(pre suf:List (Int×Int)) (y:Option Sl),rest=suf.map AZ/\ps=pre++suf/\(y=none\/∃d,y=some (.fz d))/\ρ=[some (.fz (XQ ns)),some (.ow (XQ (iX ns))),some (.ow (.list (aZ ns pre))),none,none,y]) ?_ ?_ ⟨[],ps,none,rfl,rfl,.inl rfl,rfl⟩
  ·rintro d ds ρ ⟨pre,suf,y,e1,e2,hy,rfl⟩ N hN
   cases suf with
   | nil=>cases e1
   | cons p suf =>
    cases e1
    obtain⟨a,b⟩:=p
    have hab:=hin (a,b) (by rw[e2];simp)
    rcases hy with rfl|⟨yd,rfl⟩
    all_goals
     refine ⟨rfl,eX (λh=>?_) (λh=>?_)⟩
     ·have h:a < b:=of_decide_eq_true h
      obtain⟨a',ea⟩:=K1 (show 0<=a by omega)
      obtain⟨b',eb⟩:=K1 (show 0<=b by omega)
      subst ea
      subst eb
      have al:a' < (iX ns).length:=by omega
      have bl:b' < (iX ns).length:=by omega
      have ml:(a'+b') / 2 < (iX ns).length:=by omega
      have em:((a':Int)+b') / 2=((a'+b') / 2:Nat):=by omega
      have ha:(iX ns)[a']?=some (iX ns)[a']:=A0 al
      have hb:(iX ns)[b']?=some (iX ns)[b']:=A0 bl
      have hm:(iX ns)[(a'+b') / 2]?=some (iX ns)[(a'+b') / 2]:=A0 ml
      have key:=OG ha hb hm em
      generalize (iX ns)[a']=wa at ha key
      generalize (iX ns)[b']=wb at hb key
      generalize (iX ns)[(a'+b') / 2]=wm at hm key
      have at_:∀{j:Nat}{x:Int},(iX ns)[j]?=some x->TJ ((iX ns).map j0) (j:Int)=some (.int x):=λ{j x} e=>YQ (by rw[R0,e];rfl)
      refine ⟨by rw[p0];exact iQ hn,?_⟩
      refine vw (λd=>decide (wa<=dU d)&&decide (dU d<=wb)) id ?_ ?_
      ·intro d hd N M hN hM
       obtain⟨x,_,rfl⟩:=T0.mp hd
       have hN:(decide (wa<=x)&&decide (x<=wb))=true->_:=hN
       have hM:(decide (wa<=x)&&decide (x<=wb))=false->_:=hM
       refine ⟨_,at_ ha,eX (λh3=>⟨_,at_ hb,eX (λh4=>?_) (λh4=>?_)⟩) (λh3=>?_)⟩
       ·have h3:decide (wa<=x)=true:=h3
        have h4:decide (x<=wb)=true:=h4
        exact hN (by rw[h3,h4];rfl)
       ·have h4:¬decide (x<=wb)=true:=h4
        exact hM (by rw[n4.mpr h4,o7])
       ·have h3:¬decide (wa<=x)=true:=h3
        exact hM (by rw[n4.mpr h3,P5])
      have e:((ns.map j0).filter λd=>decide (wa<=dU d)&&decide (dU d<=wb)).map id=(ns.filter λx=>decide (wa<=x)&&decide (x<=wb)).map j0:=by
       rw[B8,w6]
       rfl
      rw[e]
      have hfl:=N3 (λx=>decide (wa<=x)&&decide (x<=wb)) ns
      refine ⟨by rw[p0];exact iQ (by omega),?_⟩
      refine jG (λd=>.int (if wm < dU d then 1 else 0)) ?_ ?_
      ·intro d hd N hN
       obtain⟨x,_,rfl⟩:=T0.mp hd
       refine ⟨⟨by decide,by decide⟩,_,(by rw[em];exact at_ hm),?_⟩
       have hN:N (.int (if wm < x then 1 else 0)) _:=hN
       refine (?_:N (.int (if decide (wm < x)=true then 1 else 0)) _)
       have e:(if decide (wm < x)=true then (1:Int) else 0)=if wm < x then 1 else 0:=by simp
       rw[e]
       exact hN
      have e:((ns.filter λx=>decide (wa<=x)&&decide (x<=wb)).map j0).map (λd=>j0 (if wm < dU d then 1 else 0))=(cU (vK ns) ((a':Int),(b':Int))).map j0:=by
       rw[<- key,B1,B1]
       rfl
      rw[e]
      have hel:(aZ ns pre).length<=2000:=by
       have h3:=N3 zH pre
       have h4:=congrArg L4 e2
       rw[Q0]at h4
       unfold aZ
       rw[p0]
       omega
      refine ⟨O2 hel (by decide),?_⟩
      refine hN _ ⟨pre++[((a':Int),(b':Int))],suf,some (.fz (.list ((ns.filter λx=>decide (wa<=x)&&decide (x<=wb)).map j0))),rfl,by rw[e2];simp,.inr ⟨_,rfl⟩,?_⟩
      have:aZ ns (pre++[((a':Int),(b':Int))])=aZ ns pre++[By (vK ns) ((a':Int),(b':Int))]:=by
       unfold aZ
       rw[W8,E2,List.filter_cons,if_pos (show zH ((a':Int),(b':Int))=true from decide_eq_true h)]
       rfl
      rw[this]
      rfl
     ·have h:¬a < b:=λz=>h (decide_eq_true z)
      have:aZ ns (pre++[(a,b)])=aZ ns pre:=by
       unfold aZ
       rw[W8,List.filter_cons,if_neg (show ¬zH (a,b)=true from λz=>h (of_decide_eq_true z))]
       simp
      rw[<- this]
      first
      | exact hN _ ⟨pre++[(a,b)],suf,none,rfl,by rw[e2];simp,.inl rfl,rfl⟩
      | exact hN _ ⟨pre++[(a,b)],suf,some (.fz yd),rfl,by rw[e2];simp,.inr ⟨_,rfl⟩,rfl⟩
  ·rintro ρ ⟨pre,suf,y,e1,e2,hy,rfl⟩
   have:suf=[]:=by cases suf with
    | nil=>rfl
    | cons=>cases e1
   subst this
   rw[u4]at e2
   subst e2
   rcases hy with rfl|⟨yd,rfl⟩<;>exact q ps _ hps
end
theorem lx:∀(n:Nat) (lo hi:Int),(hi - lo).toNat=n->lo<=hi->(hl lo hi).Nodup:=by
 intro n
 induction n using e7 with
 | _ n ih =>
  intro lo hi e h
  by_cases hlt:lo < hi
  ·rw[hW hlt,X4,K7]
   refine ⟨λz=>?_,ih _ (by omega) _ _ rfl (by omega),ih _ (by omega) _ _ rfl (by omega),λx hx y hy e=>?_⟩
   ·rcases V0.mp z with z|z
    ·obtain⟨a,b,e,q1,q2,q3⟩:=hV _ _ _ rfl (by omega) _ z
     cases e
     omega
    ·obtain⟨a,b,e,q1,q2,q3⟩:=hV _ _ _ rfl (by omega) _ z
     cases e
     omega
   ·subst e
    obtain⟨a,b,e,q1,q2,q3⟩:=hV _ _ _ rfl (by omega) x hx
    obtain⟨a',b',e',q1',q2',q3'⟩:=hV _ _ _ rfl (by omega) x hy
    rw[e]at e'
    cases e'
    omega
  ·rw[iW hlt]
   simp
noncomputable def SQ(es:List mZ):PyData:=.list (es.map fQ)
theorem ox{a b:mZ}(h:fQ a=fQ b):a=b:=by
 injection h with h
 injection h with h1 h2
 injection h2 with h2 _
 exact Prod.ext (SV h1) (SV h2)
theorem YF{a b:List mZ}(h:SQ a=SQ b):a=b:=by
 injection h with h
 exact (E6 λ_ _ z=>ox z).mp h
noncomputable def wM(ns:List Int)(p:Int×Int):mZ:=([p.1,p.2],cU (vK ns) p)
noncomputable def rows(ns:List Int)(ps:List (Int×Int)):List mZ:=(ps.filter zH).map (wM ns)
theorem iZ(ns:List Int)(ps:List (Int×Int)):P3 (aZ ns ps)=SQ (rows ns ps):=by
 unfold aZ SQ rows
 rw[B1]
 rfl
structure Pap(es:List mZ):Prop where
 one:1<=es.length
 len:es.length<=300
 st:∀e∈es,∃a b:Int,e.1=[a,b]/\0<=a/\a < b/\b<=1000
 fl:∀e∈es,e.2.length<=200
 bit:∀e∈es,∀x∈e.2,x=0\/x=1
 both:∀e∈es,0∈e.2/\1∈e.2
 nk:(es.map (·.1)).Nodup
theorem Pap.nd{es:List mZ}(h:Pap es):es.Nodup:=List.Pairwise.of_map _ (λa b z e=>z (by rw[e])) h.nk
theorem ZF{ns:List Int}{j:Nat}(h:j < (iX ns).length):(j:Int)∈vK ns:=by
 have e:(iX ns)[j]?=some (iX ns)[j]:=A0 h
 have hm:(iX ns)[j]∈iX ns:=Y3 _
 refine T0.mpr ⟨(iX ns)[j],(rZ _ ns).mp hm,?_⟩
 have h1:=uJ (lZ ns) (NG hm) e
 have h2:=h1.1
 have h3:=(uJ (lZ ns) e (NG hm)).1
 omega
theorem qx{ns:List Int}{p:Int×Int}(h0:0<=p.1)(h:p.1 < p.2)(h1:p.2<=(iX ns).length - 1):0∈cU (vK ns) p/\1∈cU (vK ns) p:=by
 obtain⟨a,b⟩:=p
 obtain⟨a',rfl⟩:=K1 h0
 obtain⟨b',rfl⟩:=K1 (show 0<=b by simp only at h;omega)
 simp only at h h1
 have ha:=ZF (ns:=ns) (j:=a') (by omega)
 have hb:=ZF (ns:=ns) (j:=b') (by omega)
 unfold cU
 refine ⟨T0.mpr ⟨_,U3.mpr ⟨ha,?_⟩,?_⟩,T0.mpr ⟨_,U3.mpr ⟨hb,?_⟩,?_⟩⟩
 ·rw[decide_eq_true (by simp),decide_eq_true (by simp only;omega)];rfl
 ·rw[if_neg (by simp only;omega)]
 ·rw[decide_eq_true (by simp only;omega),decide_eq_true (by simp)];rfl
 ·rw[if_pos (by simp only;omega)]
theorem WV{ns:List Int}{ps:List (Int×Int)}(h2:2<=(iX ns).length)(hl':ns.length<=140)(hp:Prs (iX ns).length ps):Pap (rows ns ps):=by
 have hw:=NX ns
 have hin:=hp.in_ (by omega)
 have hlen:=hp.len (by omega)
 have hf:=N3 zH ps
 have mem:∀e∈rows ns ps,∃p:Int×Int,e=wM ns p/\0<=p.1/\p.1 < p.2/\p.2<=(iX ns).length - 1:=λe he=>by
  obtain⟨p,hp',rfl⟩:=T0.mp he
  obtain⟨q1,q2⟩:=U3.mp hp'
  have:=hin p q1
  have q2:p.1 < p.2:=of_decide_eq_true q2
  exact ⟨p,rfl,this.1,q2,this.2.2⟩
 refine ⟨?_,?_,λe he=>?_,λe he=>?_,λe he=>?_,λe he=>?_,?_⟩
 ·have h0:((0:Int),((iX ns).length:Int) - 1)∈ps:=by
   have:[(0:Int),((iX ns).length:Int) - 1]∈ps.map jq:=by
    rw[hp.perm.mem_iff,hW (by omega)]
    exact G0
   obtain⟨q,hq,e⟩:=T0.mp this
   have:q=((0:Int),((iX ns).length:Int) - 1):=RV e
   rw[<- this]
   exact hq
  have:wM ns ((0:Int),((iX ns).length:Int) - 1)∈rows ns ps:=T0.mpr ⟨_,U3.mpr ⟨h0,decide_eq_true (by simp only;omega)⟩,rfl⟩
  exact e5 this
 ·unfold rows
  rw[p0]
  omega
 ·obtain⟨p,rfl,q⟩:=mem e he
  exact ⟨p.1,p.2,rfl,q.1,q.2.1,by omega⟩
 ·obtain⟨p,rfl,q⟩:=mem e he
  have:=QV (vK ns) p
  rw[mY]at this
  show (cU (vK ns) p).length<=200
  omega
 ·obtain⟨p,rfl,q⟩:=mem e he
  exact TF (vK ns) p
 ·obtain⟨p,rfl,q⟩:=mem e he
  exact qx q.1 q.2.1 q.2.2
 ·have hn:=(hp.perm.nodup_iff).mpr (lx _ 0 ((iX ns).length - 1) rfl (by omega))
  have hn:ps.Nodup:=List.Pairwise.of_map _ (λa b z e=>z (by rw[e])) hn
  unfold rows
  rw[B1]
  refine List.Pairwise.map _ (λa b z e=>z ?_) (hn.filter zH)
  exact RV (show jq a=jq b from e)
structure Fn(k b:Nat)(d:PyData):Prop where
 n:Nice k d
 s:d.showable=true
 l:d.shown.length<=b
theorem Fn.mono{k b k' b':Nat}{d:PyData}(h:Fn k b d)(hk:k<=k')(hb:b<=b'):Fn k' b' d:=⟨h.n.mono hk,h.s,Z0 h.l hb⟩
theorem Fn.int{k b:Nat}{i:Int}(h:i.natAbs < 10000)(hb:5<=b):Fn k b (.int i):=⟨.int k i,DV (k:=14) (by omega) (by decide),Z0 (MD (k:=4) (by decide) (by omega)) hb⟩
theorem Fn.none{k b:Nat}(hb:5<=b):Fn k b .none:=⟨.none k,rfl,Z0 (by decide) hb⟩
theorem Fn.bool{k b:Nat}{x:Bool}(hb:5<=b):Fn k b (.bool x):=⟨.bool k x,rfl,Z0 (by cases x<;>decide) hb⟩
theorem Fn.tuple{k b c:Nat}{l:List PyData}(h:∀d∈l,Fn k b d)(hc:l.length * (b+2)+3<=c):Fn (k+1) c (.tuple l) :=
 ⟨.tuple λd hd=>(h d hd).n,L3.showableAll_of λd hd=>(h d hd).s,Z0 (OU λd hd=>(h d hd).l) hc⟩
theorem Fn.list{k b c:Nat}{l:List PyData}(h:∀d∈l,Fn k b d)(hc:l.length * (b+2)+3<=c):Fn (k+1) c (.list l) :=
 ⟨.list λd hd=>(h d hd).n,L3.showableAll_of λd hd=>(h d hd).s,Z0 (pG λd hd=>(h d hd).l) hc⟩
mutual
theorem sK:∀{d:PyData},IQ d=true->vJ d=true
 | .none,_=>rfl
 | .bool _,_=>rfl
 | .int _,_=>rfl
 | .str _,_=>rfl
 | .list xs,h=>by
  have:=plainAll_ok (xs:=xs) (by simpa [IQ]using h)
  simpa [vJ]using this
 | .tuple xs,h=>by
  have:=plainAll_ok (xs:=xs) (by simpa [IQ]using h)
  simpa [vJ]using this
 | .dict _,h=>by simp[IQ]at h
theorem plainAll_ok:∀{xs:List PyData},plainAll xs=true->okAll xs=true
 | [],_=>rfl
 | x :: xs,h=>by
  simp[plainAll]at h
  simp[okAll,sK h.1,plainAll_ok h.2]
end
theorem Fn.ints{l:List Int}{c:Nat}(h:∀x∈l,x.natAbs < 10000)(hc:l.length * 7+3<=c):Fn 1 c (tQ l) :=
 Fn.tuple (k:=0) (b:=5) (λd hd=>by obtain⟨x,hx,rfl⟩:=T0.mp hd;exact Fn.int (h x hx) (B0 _)) (by rw[p0];exact hc)
noncomputable def Sm(r:mZ):Prop:=r.1.length<=5/\r.2.length<=300/\(∀x∈r.1,x.natAbs < 10000)/\∀x∈r.2,x.natAbs < 10000
theorem Sm.fn{r:mZ}(h:Sm r):Fn 2 5000 (fQ r):=by
 obtain⟨h1,h2,h3,h4⟩:=h
 refine Fn.tuple (k:=1) (b:=2200) (λd hd=>?_) (by simp)
 simp only[K0,G1,or_false]at hd
 rcases hd with rfl|rfl
 ·exact Fn.ints h3 (by omega)
 ·exact Fn.ints h4 (by omega)
theorem Pap.sm{es:List mZ}(h:Pap es):∀r∈es,Sm r:=λr hr=>by
 obtain⟨a,b,e,h0,h1,h2⟩:=h.st r hr
 have:=h.fl r hr
 have hb:=h.bit r hr
 refine ⟨by rw[e];show 2<=5;decide,by omega,λx hx=>?_,λx hx=>?_⟩
 ·rw[e]at hx
  simp only[K0,G1,or_false]at hx
  rcases hx with rfl|rfl<;>omega
 ·rcases hb x hx with rfl|rfl<;>decide
structure Bad(es:List mZ)(d:PyData):Prop where
 ne:d≠SQ es
 ok:vJ d=true
 kd:IQ d=true\/∃ps:List (List HQ×List Int),ps≠[]/\d=yH ps
 s:d.showable=true
 dp:d.depth+1<=64
 l:d.shown.length<=sizeLine
theorem Bad.of{es:List mZ}{d:PyData}(ne:d≠SQ es)(h:Fn 8 6000000 d):Bad es d:=⟨ne,sK h.n.p,.inl h.n.p,h.s,by have:=h.n.d;omega,Z0 h.l (by decide)⟩
theorem Bad.rows{es rs:List mZ}(ne:rs≠es)(hl:rs.length<=1000)(h:∀r∈rs,Sm r):Bad es (SQ rs) :=
 .of (λz=>ne (YF z)) ((Fn.list (k:=2) (b:=5000) (c:=6000000) (λd hd=>by obtain⟨r,hr,rfl⟩:=T0.mp hd;exact (h r hr).fn) (by rw[p0];omega)).mono (by decide) (B0 _))
theorem kW{α:Type}{l:List α}{j:Nat}{x y:α}(h:l[j]?=some y)(n:x≠y):l.take j++x :: l.drop (j+1)≠l:=λz=>by
 have hj:j < l.length:=(O1.mp h).1
 have e:(l.take j++x :: l.drop (j+1))[j]?=some x:=by
  rw[T1 (by rw[E1];omega),E1,W5 (by omega),b9]
  rfl
 rw[z,h]at e
 exact n (Q1 e).symm
theorem VZ{α:Type}{l:List α}{j k:Nat}{x y:α}(h:y∈l.take j++x :: l.drop k):y=x\/y∈l:=by
 rcases V0.mp h with h|h
 ·exact .inr (T3 h)
 ·rcases K0.mp h with h|h
  ·exact .inl h
  ·exact .inr (A3 h)
theorem WX{α:Type}(l:List α)(j k:Nat)(x:α)(hk:k<=j+1)(hj:j<=l.length)(hkl:k<=l.length):(l.take j++x :: l.drop k).length=j+1+(l.length - k):=by
 rw[Q0,E1,V1,P1]
 omega
theorem Bad.entry{es:List mZ}(h:Pap es){j:Nat}{e f:mZ}(he:es[j]?=some e)(hf:Sm f)(n:f≠e):Bad es (SQ (es.take j++f :: es.drop (j+1))):=by
 have hj:j < es.length:=(O1.mp he).1
 refine Bad.rows (kW he n) ?_ λr hr=>?_
 ·rw[WX _ _ _ _ (by omega) (by omega) (by omega)]
  have:=h.len
  omega
 ·rcases VZ hr with rfl|z
  ·exact hf
  ·exact h.sm r z
theorem lW{l:List PyData}{j:Nat}:(if ((j:Nat):Int) < 0 then ((j:Int)+l.length).toNat else (j:Int).toNat)=j:=by
 rw[if_neg (by omega)]
 omega
theorem mW{l:List PyData}{j:Nat}:(if ((j:Nat):Int)+1 < 0 then ((j:Int)+1+l.length).toNat else ((j:Int)+1).toNat)=j+1:=by
 rw[if_neg (by omega)]
 omega
theorem KK(es:List mZ)(j k:Nat)(f:mZ):(es.map fQ).take j++[fQ f]++(es.map fQ).drop k=(es.take j++f :: es.drop k).map fQ:=by
 simp[E2,T4,E4]
noncomputable def WM(ps:List (Int×Int)):PyData->PyData
 | .tuple [.int k,.int x]=>.int (yW ps k x)
 | _=>.none
section
variable {P:Program}{w:World}{K:q0}{mg:Str->Option Value}{base:Heap}
noncomputable def GI:Con:=λargs Q=>∃(a b c:Int) (es:List mZ),args=[.io (uQ a b c),.fz (SQ es)]/\0<=a/\0<=b/\0<=c/\Pap es /\
 ∀(d:PyData) (a' b' c':Int) (o:Ev),Bad es d->0<=a'->0<=b'->0<=c'->Q (.ow d) (some (.io (uQ a' b' c')) :: o)
theorem xM:FnScope ["_law_pen_here","_law_some","_law_at","_law_stretch","_law_flags","_law_spot","_law_way","_law_fresh","_law_others","_law_other","_law_turned"] ["_law_pen_here","_law_some"] (jQ (top 22)):=⟨rfl,rfl,rfl,by decide +kernel,rfl,by decide +kernel,by decide +kernel⟩
theorem HI{f:Addr}{fd:FuncData}(F:Fun K "_law_flag_bent" "_law_flag_bent" (top 22) f fd)(T:Txt mg)(C:CalsN P w K mg base):FnOk P w K mg base WZ 2 f fd ["_law_pen_here","_law_some"] (lQ K GI):=by
 have S:=xM
 refine OK F S (λcdv A outer s H E hr=>(dQ (xQ (i:=2) S.nd rfl (Or.inl rfl) (NQ C.law_draw (hr.mono (by first|decide|omega)) (aQ (wn 0) (aQ (wx (mQ CQ (kQ (K:=K) rfl) T.len_ PySem.boot_len (aQ (wn 1) bQ))) bQ))))
     (dQ (MJ (GQ rfl (wn 1) (wn 2)) (BJ rfl rfl (QQ (wQ (i:=3) S.nd rfl (Or.inl rfl)) (QQ (wQ (i:=4) S.nd rfl (Or.inr rfl)) kZ))))
     (dQ (xQ (i:=5) S.nd rfl (Or.inr rfl) (NQ C.law_draw (hr.mono (by first|decide|omega)) (aQ (wn 0) (aQ (wx (mQ CQ (kQ (K:=K) rfl) T.len_ PySem.boot_len (aQ (wn 4) bQ))) bQ))))
     (dQ (xQ (i:=6) S.nd rfl (Or.inl rfl) (NQ C.law_draw (hr.mono (by first|decide|omega)) (aQ (wn 0) (aQ (wx cQ) bQ))))
     (dQ (xQ (i:=7) S.nd rfl (Or.inl rfl) (w_bin gQ eQ (wx (w_bin gQ eQ (wx (IK rfl (wn 4) (wn 5))) (wx (zQ (aQ (wx (w_bin wZ tZ (wx cQ) (wx (GQ rfl (wn 4) (wn 5))))) bQ))))) (wx (JK rfl (wn 4) (wx (w_bin gQ eQ (wn 5) (wx cQ)))))))
     (dQ (tX (FQ JX (nX (K:=K) rfl hr.units) (wn 6) (wx cQ)) (nQ (xQ (i:=7) S.nd rfl (Or.inl rfl) (w_bin gQ eQ (wx (IK rfl (wn 4) (wn 5))) (wx (JK rfl (wn 4) (wx (w_bin gQ eQ (wn 5) (wx cQ)))))))) UQ)
     (dQ (tX (FQ JX (nX (K:=K) rfl hr.units) (wn 6) (wx cQ)) (nQ (xQ (i:=7) S.nd rfl (Or.inl rfl) (w_bin gQ eQ (wx (w_bin gQ eQ (wx (IK rfl (wn 4) (wn 5))) (wx (zQ (aQ (wx (NQ C.law_draw (hr.mono (by first|decide|omega)) (aQ (wn 0) (aQ (wx cQ) bQ)))) bQ))))) (wx (JK rfl (wn 4) (wn 5)))))) UQ)
     (dQ (tX (FQ JX (nX (K:=K) rfl hr.units) (wn 6) (wx cQ)) (dQ (CV (i:=8) S.nd rfl rfl rfl (own:=["_law_k"]) (fr:=[4,5]) (by kernel_rfl) (nJ T.range_ (aQ (wx (mQ CQ (kQ (K:=K) rfl) T.len_ PySem.boot_len (aQ (wn 4) bQ))) bQ)) (λ_ _ _ _=>(wQ (i:=0) (by decide +kernel:K3 (["_law_k","_law_flags","_law_spot"]:List Str)) rfl (Or.inl rfl))) (λ_ _ _ _=>qL (FQ KY (LJ (K:=K) rfl hr.units) (wx (GQ rfl (wn 1) (wn 0))) (wx (GQ rfl (wn 1) (wn 2))))) (λ_ _ _ _=>(wv 0)))
     (dQ (xQ (i:=9) S.nd rfl (Or.inl rfl) (GQ rfl (wn 8) (wx (NQ C.law_draw (hr.mono (by first|decide|omega)) (aQ (wn 0) (aQ (wx (mQ CQ (kQ (K:=K) rfl) T.len_ PySem.boot_len (aQ (wn 8) bQ))) bQ))))))
     (dQ (xQ (i:=10) S.nd rfl (Or.inr rfl) (Zw (i:=5) (j:=9) (f:=4) (sk (sU (pv 5) (Oq (AV rfl) (pv 4) (pv 9) (λ_ _=>rfl)) (sU (pv 9) (Oq (AV rfl) (pv 4) (pv 5) (λ_ _=>rfl)) qk)) rfl rfl (by simp) (by simp))))
     (nQ (xQ (i:=7) S.nd rfl (Or.inl rfl) (cX jK (oZ (K:=K) rfl) T.tuple_ boot_tuple (aQ (wx (xZ rfl (own:=["_law_k","_law_flag"]) (fr:=[10]) (by kernel_rfl) (Fj rfl T.enumerate_ (aQ (wn 4) bQ)) (λ_ _ _ _=>(BJ rfl rfl (QQ (wQ (i:=0) (by decide +kernel:K3 (["_law_k","_law_flag","_law_turned"]:List Str)) rfl (Or.inl rfl)) (QQ (wQ (i:=1) (by decide +kernel:K3 (["_law_k","_law_flag","_law_turned"]:List Str)) rfl (Or.inl rfl)) kZ)))) (λ_ _ _ _=>Fx) (λ_ _ _ _=>(FB (Jv hr) (wn 2) (wn 0) (wn 1) ⟨rfl,rfl,rfl,rfl⟩)))) bQ))))))) UQ)
     (nQ (AQ (w_bin gQ eQ (wx (w_bin gQ eQ (wx (rX rfl (wn 1) (wn 2))) (wx (RQ (aQ (wx (zQ (aQ (wx (wv 3)) (aQ (wx (wv 7)) bQ)))) bQ))))) (wx (sX rfl (wn 1) (wx (w_bin gQ eQ (wn 2) (wx cQ))))))))))))))))) ?_ ?_
 ·rintro args Qd ⟨a,b,c,es,rfl,_⟩;rfl
 ·rintro args Qd ⟨a,b,c,es,rfl,ha,hb,hc,hp,q⟩
  refine ⟨BQ rfl,?_⟩
  have hone:=hp.one
  have hlen:=hp.len
  have hml:(es.map fQ).length=es.length:=p0 _
  refine ⟨a,b,c,_,rfl,ha,hb,hc,by rw[hml];omega,by rw[hml];omega,λat_ a1 b1 c1 _ t0 t1 ha1 hb1 hc1=>?_⟩
  rw[hml]at t1
  obtain⟨j,rfl⟩:=K1 t0
  have hj:j < es.length:=by omega
  obtain⟨e,he⟩:∃e,es[j]?=some e:=⟨_,A0 hj⟩
  have hem:e∈es:=A1 he
  obtain⟨st,fl⟩:=e
  refine ⟨fQ (st,fl),YQ (by rw[R0,he];rfl),?_⟩
  refine ⟨rfl,?_⟩
  have hflen:=hp.fl _ hem
  have hbit:=hp.bit _ hem
  obtain⟨h0m,h1m⟩:=hp.both _ hem
  simp only at hflen hbit h0m h1m
  have hf1:1<=fl.length:=e5 h0m
  have hfm:(fl.map j0).length=fl.length:=p0 _
  refine ⟨a1,b1,c1,_,rfl,ha1,hb1,hc1,by rw[hfm];omega,by rw[hfm];omega,λsp a2 b2 c2 _ s0 s1 ha2 hb2 hc2=>?_⟩
  rw[hfm]at s1
  obtain⟨i,rfl⟩:=K1 s0
  have hi:i < fl.length:=by omega
  obtain⟨x,hx⟩:∃x,fl[i]?=some x:=⟨_,A0 hi⟩
  refine ⟨a2,b2,c2,_,rfl,ha2,hb2,hc2,by decide,by decide,λway a3 b3 c3 _ w0 w1 ha3 hb3 hc3=>?_⟩
  refine MQ (λρ=>ρ=[some (.io (uQ a3 b3 c3)),some (.fz (SQ es)),some (.fz (.int j)),some (.fz (tQ st)),some (.fz (tQ fl)),some (.fz (.int i)),some (.fz (.int way)),none,none,none,none]) (λN hN=>hN _ rfl) ?_
  rintro _ rfl
  refine MQ (λρ=>∃fr:List Int,fr≠fl/\fr.length<=300/\(∀z∈fr,z.natAbs < 10000)/\ρ=[some (.io (uQ a3 b3 c3)),some (.fz (SQ es)),some (.fz (.int j)),some (.fz (tQ st)),some (.fz (tQ fl)),some (.fz (.int i)),some (.fz (.int way)),some (.fz (tQ fr)),none,none,none]) ?_ ?_
  ·intro N hN
   have hx1:=hbit x (A1 hx)
   refine ⟨s0,j0 x,YQ (by rw[R0,hx];rfl),?_⟩
   refine ⟨iQ (by simp;omega),by show (0:Int)<=(i:Int)+1;omega,iQ (by simp;omega),?_⟩
   refine hN _ ⟨fl.take i++(1 - x) :: fl.drop (i+1),kW hx (by omega),?_,λz hz=>?_,?_⟩
   ·rw[WX _ _ _ _ (by omega) (by omega) (by omega)];omega
   ·rcases VZ hz with rfl|hz
    ·omega
    ·have:=hbit z hz;omega
   ·have e1:((i:Int)).toNat=i:=by omega
    have e2:((i:Int)+1).toNat=i+1:=by omega
    have e:(fl.map j0).take (i:Int).toNat++[j0 (1 - x)]++(fl.map j0).drop ((i:Int)+1).toNat=(fl.take i++(1 - x) :: fl.drop (i+1)).map j0:=by
     rw[e1,e2];simp[T4,E4]
    show _=[_,_,_,_,_,_,_,some (Sl.fz (W1 ((fl.take i++(1 - x) :: fl.drop (i+1)).map j0))),_,_,_]
    rw[<- e]
    rfl
  rintro _ ⟨fr,f1,f2,f3,rfl⟩
  have e1:((i:Int)).toNat=i:=by omega
  have e2:((i:Int)+1).toNat=i+1:=by omega
  refine MQ (λρ=>∃fr:List Int,fr≠fl/\fr.length<=300/\(∀z∈fr,z.natAbs < 10000)/\ρ=[some (.io (uQ a3 b3 c3)),some (.fz (SQ es)),some (.fz (.int j)),some (.fz (tQ st)),some (.fz (tQ fl)),some (.fz (.int i)),some (.fz (.int way)),some (.fz (tQ fr)),none,none,none]) ?_ ?_
  ·intro N hN
   refine eX (λh=>?_) (λh=>hN _ ⟨fr,f1,f2,f3,rfl⟩)
   refine ⟨s0,by show (0:Int)<=(i:Int)+1;omega,iQ (by simp;omega),?_⟩
   refine hN _ ⟨fl.take i++fl.drop (i+1),λz=>?_,?_,λz hz=>?_,?_⟩
   ·have:=congrArg L4 z
    rw[Q0,E1,P1]at this
    omega
   ·rw[Q0,E1,P1];omega
   ·rcases V0.mp hz with hz|hz
    ·have:=hbit z (T3 hz);omega
    ·have:=hbit z (A3 hz);omega
   ·have e:(fl.map j0).take (i:Int).toNat++(fl.map j0).drop ((i:Int)+1).toNat=(fl.take i++fl.drop (i+1)).map j0:=by
     rw[e1,e2];simp[T4,E4]
    show _=[_,_,_,_,_,_,_,some (Sl.fz (W1 ((fl.take i++fl.drop (i+1)).map j0))),_,_,_]
    rw[<- e]
    rfl
  rintro _ ⟨fr,f1,f2,f3,rfl⟩
  refine MQ (λρ=>∃(fr:List Int) (a4 b4 c4:Int),fr≠fl/\fr.length<=300/\(∀z∈fr,z.natAbs < 10000)/\0<=a4/\0<=b4/\0<=c4/\ρ=[some (.io (uQ a4 b4 c4)),some (.fz (SQ es)),some (.fz (.int j)),some (.fz (tQ st)),some (.fz (tQ fl)),some (.fz (.int i)),some (.fz (.int way)),some (.fz (tQ fr)),none,none,none]) ?_ ?_
  ·intro N hN
   refine eX (λh=>?_) (λh=>hN _ ⟨fr,a3,b3,c3,f1,f2,f3,ha3,hb3,hc3,rfl⟩)
   refine ⟨s0,a3,b3,c3,2,rfl,ha3,hb3,hc3,by decide,by decide,λy a4 b4 c4 _ y0 y1 ha4 hb4 hc4=>?_⟩
   refine ⟨iQ (by simp;omega),s0,iQ (by simp;omega),?_⟩
   refine hN _ ⟨fl.take i++y :: fl.drop i,a4,b4,c4,λz=>?_,?_,λz hz=>?_,ha4,hb4,hc4,?_⟩
   ·have:=congrArg L4 z
    rw[WX _ _ _ _ (by omega) (by omega) (by omega)]at this
    omega
   ·rw[WX _ _ _ _ (by omega) (by omega) (by omega)];omega
   ·rcases VZ hz with rfl|hz
    ·omega
    ·have:=hbit z hz;omega
   ·have e:(fl.map j0).take (i:Int).toNat++[j0 y]++(fl.map j0).drop (i:Int).toNat=(fl.take i++y :: fl.drop i).map j0:=by
     rw[e1];simp[T4,E4]
    show _=[_,_,_,_,_,_,_,some (Sl.fz (W1 ((fl.take i++y :: fl.drop i).map j0))),_,_,_]
    rw[<- e]
    rfl
  rintro _ ⟨fr,a4,b4,c4,f1,f2,f3,ha4,hb4,hc4,rfl⟩
  refine MQ (λρ=>∃(fr:List Int) (a5 b5 c5:Int) (o1 o2 o3:Option Sl),fr≠fl/\fr.length<=300/\(∀z∈fr,z.natAbs < 10000)/\0<=a5/\0<=b5/\0<=c5/\ρ=[some (.io (uQ a5 b5 c5)),some (.fz (SQ es)),some (.fz (.int j)),some (.fz (tQ st)),some (.fz (tQ fl)),some (.fz (.int i)),some (.fz (.int way)),some (.fz (tQ fr)),o1,o2,o3]) ?_ ?_
  ·intro N hN
   refine eX (λh=>?_) (λh=>hN _ ⟨fr,a4,b4,c4,none,none,none,f1,f2,f3,ha4,hb4,hc4,rfl⟩)
   refine ⟨by rw[hfm];omega,by rw[hfm];omega,by rw[PQ,p0,G4,hfm];exact iQ (by omega),?_⟩
   refine vw (λd=>!decide (fl.getD (dU d).toNat 0=x)) id ?_ ?_
   ·intro d hd N M hN hM
    obtain⟨k,hk,rfl⟩:=T0.mp hd
    have hk:k < fl.length:=by have:=Q3.mp hk;rw[hfm]at this;omega
    obtain⟨y,hy⟩:∃y,fl[k]?=some y:=⟨_,A0 hk⟩
    have hz:fl.getD (dU (.int (0+(k:Int)))).toNat 0=y:=by
     show fl.getD (0+(k:Int)).toNat 0=y
     rw[show (0+(k:Int)).toNat=k by omega,Z2,hy]
     rfl
    simp only[hz]at hN hM
    refine ⟨j0 y,by rw[show (0+(k:Int))=(k:Int) by omega];exact YQ (by rw[R0,hy];rfl),j0 x,YQ (by rw[R0,hx];rfl),eX (λh=>?_) (λh=>?_)⟩
    ·exact hN h
    ·exact hM (n4.mpr h)
   have eo:((PQ 0 ((fl.map j0).length:Int).toNat).filter λd=>!decide (fl.getD (dU d).toNat 0=x)).map id=(((S1 fl.length).filter λk=>!decide (fl.getD k 0=x)).map λ(k:Nat)=>(k:Int)).map j0:=by
    rw[B8,PQ,hfm,w6,B1]
    have:((fl.length:Int)).toNat=fl.length:=by omega
    rw[this]
    have e:(S1 fl.length).filter ((λd=>!decide (fl.getD (dU d).toNat 0=x)) ∘ λ(i:Nat)=>j0 (0+i))=(S1 fl.length).filter λk=>!decide (fl.getD k 0=x):=by
     refine List.filter_congr λk _=>?_
     show (!decide (fl.getD (0+(k:Int)).toNat 0=x))=_
     rw[show (0+(k:Int)).toNat=k by omega]
    rw[e]
    refine K4 λk _=>?_
    show j0 (0+(k:Int))=j0 (k:Int)
    rw[m8]
   rw[eo]
   obtain⟨os,hosd⟩:∃l,l=((S1 fl.length).filter λk=>!decide (fl.getD k 0=x)):=⟨_,rfl⟩
   rw[<- hosd]
   have hol:((os.map λ(k:Nat)=>(k:Int)).map j0).length=os.length:=by rw[p0,p0]
   have hoN:os.length<=fl.length:=by
    have:=N3 (λk=>!decide (fl.getD k 0=x)) (S1 fl.length)
    rw[G4,<- hosd]at this
    exact this
   have hom:∀k∈os,k < fl.length/\fl.getD k 0≠x:=λk hk=>by
    rw[hosd]at hk
    obtain⟨k1,k2⟩:=U3.mp hk
    exact ⟨Q3.mp k1,by simpa using k2⟩
   have hop:1<=os.length:=by
    have hx1:=hbit x (A1 hx)
    obtain⟨y,hy,hyx⟩:∃y∈fl,y≠x:=by
     rcases hx1 with rfl|rfl
     ·exact ⟨1,h1m,by decide⟩
     ·exact ⟨0,h0m,by decide⟩
    obtain⟨k,hk,e⟩:=j4 hy
    have:k∈os:=by
     rw[hosd]
     refine U3.mpr ⟨Q3.mpr hk,?_⟩
     have:fl.getD k 0=y:=by rw[Z2,A0 hk,e];rfl
     rw[this,decide_eq_false hyx]
     rfl
    exact e5 this
   refine ⟨a4,b4,c4,_,rfl,ha4,hb4,hc4,by rw[hol];omega,by rw[hol];omega,λr a5 b5 c5 _ r0 r1 ha5 hb5 hc5=>?_⟩
   rw[hol]at r1
   obtain⟨r',rfl⟩:=K1 r0
   obtain⟨m,hm⟩:∃m,os[r']?=some m:=⟨_,A0 (by omega)⟩
   obtain⟨hmlt,hmne⟩:=hom m (A1 hm)
   obtain⟨u,hu⟩:∃u,fl[m]?=some u:=⟨_,A0 hmlt⟩
   have hux:u≠x:=by rw[Z2,hu]at hmne;exact hmne
   have him:(i:Int)≠(m:Int):=λz=>by
    have z:i=m:=by omega
    rw[z,hu]at hx
    exact hux (Q1 hx)
   refine ⟨j0 m,YQ (by rw[R0,R0,hm];rfl),?_⟩
   refine ⟨(i:Int),(m:Int),fl,u,x,rfl,rfl,rfl,him,YQ hu,YQ hx,?_⟩
   have hel:(tJ (fl.map j0)).length=fl.length:=by rw[tJ,p0,B6,hfm]
   refine ⟨by rw[hel];exact iQ (by omega),?_⟩
   refine jG (WM [((i:Int),u),((m:Int),x)]) ?_ ?_
   ·intro d hd N hN
    rw[tJ]at hd
    obtain⟨⟨y,k⟩,hk,rfl⟩:=T0.mp hd
    have hk:=g7.mp hk
    rw[R0,Z4]at hk
    obtain⟨y',_,rfl⟩:=hk
    exact ⟨rfl,_,[((i:Int),u),((m:Int),x)],(k:Nat),y',rfl,rfl,by simp,rfl,rfl,hN⟩
   have ef:(tJ (fl.map j0)).map (WM [((i:Int),u),((m:Int),x)])=(fl.zipIdx.map λp=>yW [((i:Int),u),((m:Int),x)] (p.2:Nat) p.1).map j0:=by
    rw[tJ,List.zipIdx_map,B1,B1,B1]
    rfl
   rw[ef]
   refine hN _ ⟨fl.zipIdx.map λp=>yW [((i:Int),u),((m:Int),x)] (p.2:Nat) p.1,a5,b5,c5,_,_,_,λz=>?_,?_,λz hz=>?_,ha5,hb5,hc5,rfl⟩
   ·have e:(fl.zipIdx.map λp=>yW [((i:Int),u),((m:Int),x)] (p.2:Nat) p.1)[i]?=some u:=by
     rw[R0,L8,hx]
     show some (yW [((i:Int),u),((m:Int),x)] ((0+i:Nat):Int) x)=some u
     rw[j6]
     show some (if (i:Int)=(i:Int) then u else _)=some u
     rw[if_pos rfl]
    rw[z,hx]at e
    exact hux (Q1 e).symm
   ·rw[p0,B6];omega
   ·obtain⟨⟨y,k⟩,hk,rfl⟩:=T0.mp hz
    have hy:y∈fl:=A1 (g7.mp hk)
    have h1:=hbit y hy
    have h2:=hbit u (A1 hu)
    have h3:=hbit x (A1 hx)
    show (if (i:Int)=(k:Int) then u else if (m:Int)=(k:Int) then x else y).natAbs < 10000
    split
    ·omega
    ·split<;>omega
  rintro _ ⟨fr,a5,b5,c5,o1,o2,o3,f1,f2,f3,ha5,hb5,hc5,rfl⟩
  refine ⟨iQ (by simp;omega),iQ (by simp;omega),?_⟩
  have e3:(es.map fQ).take (if ((j:Nat):Int) < 0 then ((j:Int)+(es.map fQ).length).toNat else (j:Int).toNat)++[fQ (st,fr)]++(es.map fQ).drop (if ((j:Nat):Int)+1 < 0 then ((j:Int)+1+(es.map fQ).length).toNat else ((j:Int)+1).toNat)=(es.take j++(st,fr) :: es.drop (j+1)).map fQ:=by
   rw[lW,mW,KK]
  have B:=Bad.entry hp he (f:=(st,fr)) ⟨(hp.sm _ hem).1,f2,(hp.sm _ hem).2.2.1,f3⟩ (λz=>f1 (congrArg Prod.snd z))
  have q:=λo=>q _ a5 b5 c5 o B ha5 hb5 hc5
  unfold SQ at q
  rw[<- e3]at q
  exact q _
end
theorem aD(es:List mZ)(j k:Nat):(es.map fQ).take j++(es.map fQ).drop k=(es.take j++es.drop k).map fQ:=by
 simp[E2,T4,E4]
theorem cC{α:Type}{l:List α}(h:1 < l.length)(nd:l.Nodup):l.drop 1++l.take 1≠l:=λz=>by
 rcases l with _|⟨x,_|⟨y,l⟩⟩
 ·simp at h
 ·simp at h
 ·have z:y :: (l++[x])=x :: y :: l:=z
  injection z with z _
  rw[X4]at nd
  exact nd.1 (by rw[z];exact G0)
theorem XV{α:Type}(n:Nat)(x:α):(O0 n [x]).flatten=O0 n x:=by
 induction n with
 | zero=>rfl
 | succ n ih=>rw[J3,U4,ih];rfl
theorem sx{l:List Int}(h0:0∈l)(h1:1∈l):2<=l.length:=by
 rcases l with _|⟨x,_|⟨y,l⟩⟩
 ·cases h0
 ·rw[Y0]at h0 h1
  omega
 ·simp
section
variable {P:Program}{w:World}{K:q0}{mg:Str->Option Value}{base:Heap}
theorem yM:FnScope ["_law_pen_here","_law_some","_law_at","_law_stretch","_law_flags","_law_way"] ["_law_pen_here","_law_some"] (jQ (top 23)):=⟨rfl,rfl,rfl,by decide +kernel,rfl,by decide +kernel,by decide +kernel⟩
theorem II{f:Addr}{fd:FuncData}(F:Fun K "_law_stretch_bent" "_law_stretch_bent" (top 23) f fd)(T:Txt mg)(C:CalsN P w K mg base):FnOk P w K mg base WZ 2 f fd ["_law_pen_here","_law_some"] (lQ K GI):=by
 have S:=yM
 refine OK F S (λcdv A outer s H E hr=>(dQ (xQ (i:=2) S.nd rfl (Or.inl rfl) (NQ C.law_draw (hr.mono (by first|decide|omega)) (aQ (wn 0) (aQ (wx (mQ CQ (kQ (K:=K) rfl) T.len_ PySem.boot_len (aQ (wn 1) bQ))) bQ))))
     (dQ (MJ (GQ rfl (wn 1) (wn 2)) (BJ rfl rfl (QQ (wQ (i:=3) S.nd rfl (Or.inl rfl)) (QQ (wQ (i:=4) S.nd rfl (Or.inl rfl)) kZ))))
     (dQ (xQ (i:=5) S.nd rfl (Or.inl rfl) (NQ C.law_draw (hr.mono (by first|decide|omega)) (aQ (wn 0) (aQ (wx cQ) bQ))))
     (dQ (tX (FQ JX (nX (K:=K) rfl hr.units) (wn 5) (wx cQ)) (nQ (AQ (w_bin gQ eQ (wx (rX rfl (wn 1) (wn 2))) (wx (sX rfl (wn 1) (wx (w_bin gQ eQ (wn 2) (wx cQ)))))))) UQ)
     (dQ (tX (FQ JX (nX (K:=K) rfl hr.units) (wn 5) (wx cQ)) (nQ (AQ (w_bin gQ eQ (wx (w_bin gQ eQ (wx (rX rfl (wn 1) (wn 2))) (wx (RQ (aQ (wx (GQ rfl (wn 1) (wn 2))) bQ))))) (wx (sX rfl (wn 1) (wn 2)))))) UQ)
     (dQ (tX (FQ JX (nX (K:=K) rfl hr.units) (wn 5) (wx cQ)) (nQ (AQ (w_bin gQ eQ (wx (w_bin gQ eQ (wx (rX rfl (wn 1) (wn 2))) (wx (RQ (aQ (wx (zQ (aQ (wx (zQ (aQ (wx (GQ rfl (wn 3) (wx cQ))) (aQ (wx (w_bin gQ eQ (wx (GQ rfl (wn 3) (wx cQ))) (wx cQ))) bQ)))) (aQ (wx (wv 4)) bQ)))) bQ))))) (wx (sX rfl (wn 1) (wx (w_bin gQ eQ (wn 2) (wx cQ)))))))) UQ)
     (dQ (tX (FQ JX (nX (K:=K) rfl hr.units) (wn 5) (wx cQ)) (nQ (AQ (mQ Tj (iH rfl (lj hr)) T.sorted_ boot_sorted (aQ (wx (w_bin gQ eQ (wn 1) (wx (RQ (aQ (wx (zQ (aQ (wx (zQ (aQ (wx (GQ rfl (wn 3) (wx cQ))) (aQ (wx (GQ rfl (wn 3) (wx cQ))) bQ)))) (aQ (wx (w_bin PV OV (wx (zQ (aQ (wx cQ) bQ))) (wx (mQ CQ (kQ (K:=K) rfl) T.len_ PySem.boot_len (aQ (wn 4) bQ))))) bQ)))) bQ))))) bQ)))) UQ)
     (dQ (tX (FQ SW CW (wx (mQ CQ (kQ (K:=K) rfl) T.len_ PySem.boot_len (aQ (wn 1) bQ))) (wx cQ)) (nQ (AQ (w_bin gQ eQ (wx (sX rfl (wn 1) (wx cQ))) (wx (rX rfl (wn 1) (wx cQ)))))) UQ)
     (nQ (AQ (w_bin gQ eQ (wn 1) (wn 1))))))))))))) ?_ ?_
 ·rintro args Qd ⟨a,b,c,es,rfl,_⟩;rfl
 ·rintro args Qd ⟨a,b,c,es,rfl,ha,hb,hc,hp,q⟩
  refine ⟨BQ rfl,?_⟩
  have hone:=hp.one
  have hlen:=hp.len
  have hml:(es.map fQ).length=es.length:=p0 _
  refine MQ (λρ=>∃(j:Nat) (a1 b1 c1:Int),j < es.length/\0<=a1/\0<=b1/\0<=c1/\ρ=[some (.io (uQ a1 b1 c1)),some (.fz (SQ es)),some (.fz (.int j)),none,none,none]) ?_ ?_
  ·intro N hN
   refine ⟨a,b,c,_,rfl,ha,hb,hc,by rw[hml];omega,by rw[hml];omega,λat_ a1 b1 c1 _ t0 t1 ha1 hb1 hc1=>?_⟩
   rw[hml]at t1
   obtain⟨j,rfl⟩:=K1 t0
   exact hN _ ⟨j,a1,b1,c1,by omega,ha1,hb1,hc1,rfl⟩
  rintro _ ⟨j,a1,b1,c1,hj,ha1,hb1,hc1,rfl⟩
  obtain⟨e,he⟩:∃e,es[j]?=some e:=⟨_,A0 hj⟩
  have hem:e∈es:=A1 he
  obtain⟨st,fl⟩:=e
  have hsm:=hp.sm _ hem
  obtain⟨s1,s2,es1,h01,h12,h2⟩:=hp.st _ hem
  have es1:st=[s1,s2]:=es1
  subst es1
  have hat:TJ (es.map fQ) (j:Int)=some (fQ ([s1,s2],fl)):=YQ (by rw[R0,he];rfl)
  have hfl:=hp.fl _ hem
  simp only at hfl
  have e1:(if ((j:Nat):Int) < 0 then ((j:Int)+(es.map fQ).length).toNat else (j:Int).toNat)=j:=lW
  have e2:(if ((j:Nat):Int)+1 < 0 then ((j:Int)+1+(es.map fQ).length).toNat else ((j:Int)+1).toNat)=j+1:=mW
  refine MQ (λρ=>ρ=[some (.io (uQ a1 b1 c1)),some (.fz (SQ es)),some (.fz (.int j)),some (.fz (tQ [s1,s2])),some (.fz (tQ fl)),none]) ?_ ?_
  ·intro N hN
   exact ⟨fQ ([s1,s2],fl),hat,rfl,hN _ rfl⟩
  rintro _ rfl
  refine MQ (λρ=>∃(way a2 b2 c2:Int),0<=a2/\0<=b2/\0<=c2/\ρ=[some (.io (uQ a2 b2 c2)),some (.fz (SQ es)),some (.fz (.int j)),some (.fz (tQ [s1,s2])),some (.fz (tQ fl)),some (.fz (.int way))]) ?_ ?_
  ·intro N hN
   exact ⟨a1,b1,c1,_,rfl,ha1,hb1,hc1,by decide,by decide,λway a2 b2 c2 _ w0 w1 ha2 hb2 hc2=>hN _ ⟨way,a2,b2,c2,ha2,hb2,hc2,rfl⟩⟩
  rintro _ ⟨way,a2,b2,c2,ha2,hb2,hc2,rfl⟩
  have fin:∀(rs:List mZ) (l:List PyData) (o:Ev),Bad es (SQ rs)->l=rs.map fQ->Qd (.ow (.list l)) (some (.io (uQ a2 b2 c2)) :: o):=λrs l o B e=>by
   rw[e]
   exact q _ a2 b2 c2 o B ha2 hb2 hc2
  clear q
  have sub:∀{rs:List mZ},(∀r∈rs,r∈es)->∀r∈rs,Sm r:=λh r hr=>hp.sm r (h r hr)
  refine MQ (λρ=>ρ=[some (.io (uQ a2 b2 c2)),some (.fz (SQ es)),some (.fz (.int j)),some (.fz (tQ [s1,s2])),some (.fz (tQ fl)),some (.fz (.int way))]) ?_ ?_
  ·intro N hN
   refine eX (λh=>?_) (λh=>hN _ rfl)
   refine ⟨iQ (by simp;omega),?_⟩
   refine fin (es.take j++es.drop (j+1)) _ _ (Bad.rows (λz=>?_) ?_ (sub λr hr=>?_)) (by rw[e1,e2];exact aD _ _ _)
   ·have:=congrArg L4 z
    rw[Q0,E1,P1]at this
    omega
   ·rw[Q0,E1,P1];omega
   ·rcases V0.mp hr with hz|hz
    ·exact T3 hz
    ·exact A3 hz
  rintro _ rfl
  refine MQ (λρ=>ρ=[some (.io (uQ a2 b2 c2)),some (.fz (SQ es)),some (.fz (.int j)),some (.fz (tQ [s1,s2])),some (.fz (tQ fl)),some (.fz (.int way))]) ?_ ?_
  ·intro N hN
   refine eX (λh=>?_) (λh=>hN _ rfl)
   refine ⟨_,hat,iQ (by simp;omega),iQ (by simp;omega),?_⟩
   refine fin (es.take j++([s1,s2],fl) :: es.drop j) _ _ (Bad.rows (λz=>?_) ?_ (sub λr hr=>?_)) (by rw[e1];exact KK _ _ _ _)
   ·have:=congrArg L4 z
    rw[WX _ _ _ _ (by omega) (by omega) (by omega)]at this
    omega
   ·rw[WX _ _ _ _ (by omega) (by omega) (by omega)];omega
   ·rcases VZ hr with rfl|hz
    ·exact hem
    ·exact hz
  rintro _ rfl
  refine MQ (λρ=>ρ=[some (.io (uQ a2 b2 c2)),some (.fz (SQ es)),some (.fz (.int j)),some (.fz (tQ [s1,s2])),some (.fz (tQ fl)),some (.fz (.int way))]) ?_ ?_
  ·intro N hN
   refine eX (λh=>?_) (λh=>hN _ rfl)
   refine ⟨_,rfl,_,rfl,iQ (by simp;omega),iQ (by simp;omega),?_⟩
   refine fin (es.take j++([s1,s2+1],fl) :: es.drop (j+1)) _ _ (Bad.entry hp he ⟨by show 2<=5;decide,hsm.2.1,λx hx=>?_,hsm.2.2.2⟩ λz=>?_) (by rw[e1,e2];exact KK es j (j+1) ([s1,s2+1],fl))
   ·simp only[K0,G1,or_false]at hx
    rcases hx with rfl|rfl<;>omega
   ·have z:[s1,s2+1]=[s1,s2]:=congrArg Prod.fst z
    injection z with _ z
    injection z with z _
    omega
  rintro _ rfl
  refine MQ (λρ=>ρ=[some (.io (uQ a2 b2 c2)),some (.fz (SQ es)),some (.fz (.int j)),some (.fz (tQ [s1,s2])),some (.fz (tQ fl)),some (.fz (.int way))]) ?_ ?_
  ·intro N hN
   refine eX (λh=>?_) (λh=>hN _ rfl)
   have h2l:=sx (hp.both _ hem).1 (hp.both _ hem).2
   simp only at h2l
   have hfm:(fl.map j0).length=fl.length:=p0 _
   have en:((fl.map j0).length:Int).toNat=fl.length:=by rw[hfm];omega
   refine ⟨_,rfl,_,rfl,by simp,by rw[hfm];omega,by rw[hfm];omega,by rw[en];exact iQ (by simp;omega),iQ (by simp;omega),es++[([s1,s1],O0 fl.length 0)],?_,?_,λrows' p1 p2=>?_⟩
   ·have er:(O0 ((fl.map j0).length:Int).toNat [j0 0]).flatten=(O0 fl.length (0:Int)).map j0:=by
     rw[en,XV,v7]
    show es.map fQ++[W1 [W1 [.int s1,.int s1],W1 (O0 ((fl.map j0).length:Int).toNat [j0 0]).flatten]]=_
    rw[er,E2]
    rfl
   ·rw[Q0];exact iQ (by simp;omega)
   ·have hpl:=p1.length_eq
    rw[Q0,v5]at hpl
    refine fin rows' _ _ (Bad.rows (λz=>by rw[z]at hpl;omega) (by omega) λr hr=>?_) rfl
    rcases V0.mp (p1.mem_iff.mp hr) with z|z
    ·exact hp.sm r z
    ·rw[Y0.mp z]
     refine ⟨by show 2<=5;decide,by rw[N6];omega,λx hx=>?_,λx hx=>?_⟩
     ·simp only[K0,G1,or_false]at hx
      rcases hx with rfl|rfl<;>omega
     ·rw[(X8.mp hx).2];decide
  rintro _ rfl
  refine MQ (λρ=>ρ=[some (.io (uQ a2 b2 c2)),some (.fz (SQ es)),some (.fz (.int j)),some (.fz (tQ [s1,s2])),some (.fz (tQ fl)),some (.fz (.int way))]) ?_ ?_
  ·intro N hN
   refine eX (λh=>?_) (λh=>hN _ rfl)
   have h:(1:Int) < ((es.map fQ).length:Int):=of_decide_eq_true h
   rw[hml]at h
   refine ⟨iQ (by simp;omega),?_⟩
   refine fin (es.drop 1++es.take 1) _ _ (Bad.rows (cC (by omega) hp.nd) (by rw[Q0,E1,P1];omega) (sub λr hr=>?_)) ?_
   ·rcases V0.mp hr with hz|hz
    ·exact A3 hz
    ·exact T3 hz
   ·rw[E2,E4,T4]
    rfl
  rintro _ rfl
  refine ⟨iQ (by simp;omega),?_⟩
  refine fin (es++es) _ _ (Bad.rows (λz=>?_) (by rw[Q0];omega) (sub λr hr=>?_)) (by rw[E2])
  ·have:=congrArg L4 z
   rw[Q0]at this
   omega
  ·rcases V0.mp hr with hz|hz<;>exact hz
end
theorem sH{b:Nat}:∀kvs:List (PyData×PyData),(∀p∈kvs,p.1.shown.length<=b/\p.2.shown.length<=b)->((e6 kvs).map (·.length)).sum+2 * (e6 kvs).length<=kvs.length * (2 * b+4)
 | [],_=>by simp[e6]
 | (k,v) :: r,h=>by
  have ih:=sH r λp hp=>h p (J0 _ hp)
  obtain⟨h1,h2⟩:=h (k,v) G0
  simp only at h1 h2
  simp only[e6,Z1,List.sum_cons,V1,PySem.strLen_append]
  have e:(Str.ofString ": ").length=2:=by decide
  have e':(": ":Str).length=2:=by decide
  rw[Nat.add_mul]
  omega
theorem tH{n:Nat}:∀kvs:List (PyData×PyData),(∀p∈kvs,p.1.depth<=n/\p.2.depth<=n)->J8 kvs<=n
 | [],_=>by simp[J8]
 | (k,v) :: r,h=>by
  have ih:=tH r λp hp=>h p (J0 _ hp)
  obtain⟨h1,h2⟩:=h (k,v) G0
  simp only at h1 h2
  simp only[J8]
  omega
theorem bD:∀kvs:List (PyData×PyData),(∀p∈kvs,p.1.showable=true/\p.2.showable=true)->Q7 kvs=true
 | [],_=>by simp[Q7]
 | (k,v) :: r,h=>by
  have ih:=bD r λp hp=>h p (J0 _ hp)
  obtain⟨h1,h2⟩:=h (k,v) G0
  simp only at h1 h2
  simp[Q7,h1,h2,ih]
noncomputable def Dy(e:mZ):List HQ×List Int:=(e.1.map Sum.inl,e.2)
theorem ux(l:List Int):W1 ((l.map (Sum.inl:Int->HQ)).map OX)=tQ l:=by
 rw[B1]
 rfl
theorem Bad.dict{es:List mZ}(h:Pap es):Bad es (yH (es.map Dy)):=by
 have e:yH (es.map Dy)=.dict (es.map λe=>(tQ e.1,tQ e.2)):=by
  unfold yH
  rw[B1]
  exact congrArg PyData.dict (K4 λe _=>by show (W1 ((e.1.map (Sum.inl:Int->HQ)).map OX),tQ e.2)=_;rw[ux])
 have hf:∀p∈es.map (λe=>(tQ e.1,tQ e.2)),Fn 1 2200 p.1/\Fn 1 2200 p.2:=λp hp=>by
  obtain⟨r,hr,rfl⟩:=T0.mp hp
  obtain⟨h1,h2,h3,h4⟩:=h.sm r hr
  exact ⟨Fn.ints h3 (by omega),Fn.ints h4 (by omega)⟩
 have hl:(es.map λe=>(tQ e.1,tQ e.2)).length<=300:=by rw[p0];exact h.len
 refine ⟨λz=>(by cases z),?_,.inr ⟨es.map Dy,?_,rfl⟩,?_,?_,?_⟩
 ·rw[e]
  have:=h.one
  cases es with
  | nil=>simp at this
  | cons x es=>rfl
 ·intro z
  have:=h.one
  rw[List.map_eq_nil_iff]at z
  rw[z]at this
  simp at this
 ·rw[e]
  exact bD _ λp hp=>⟨(hf p hp).1.s,(hf p hp).2.s⟩
 ·rw[e]
  have:=tH _ λp hp=>⟨(hf p hp).1.n.d,(hf p hp).2.n.d⟩
  simp only[U5]
  omega
 ·rw[e]
  have h1:=sH _ λp hp=>⟨(hf p hp).1.l,(hf p hp).2.l⟩
  have h2:=PySem.dictText_len_le (e6 (es.map λe=>(tQ e.1,tQ e.2)))
  refine Z0 (show _<=2000000 from ?_) (by decide)
  show (dictText (e6 (es.map λe=>(tQ e.1,tQ e.2)))).length<=2000000
  omega
theorem YV{α:Type}{l:List α}{r:Int}(h0:0<=r)(h1:r < l.length):∃d∈l,TJ l r=some d:=by
 obtain⟨j,rfl⟩:=K1 h0
 exact ⟨l[j]'(by omega),Y3 _,YQ (A0 (by omega))⟩
noncomputable def Tg(d:PyData):Prop:=d=.none\/(∃b,d=.bool b)\/d=.str "0"\/d=tQ [0]\/d=.list []
theorem Tg.fn{d:PyData}(h:Tg d):Fn 1 10 d:=by
 rcases h with rfl|⟨b,rfl⟩|rfl|rfl|rfl
 ·exact Fn.none (by decide)
 ·exact Fn.bool (by decide)
 ·exact ⟨⟨rfl,by simp only[Q5];decide +kernel,by simp[U5]⟩,rfl,by decide +kernel⟩
 ·exact Fn.ints (by simp) (by decide)
 ·exact Fn.list (k:=0) (b:=0) (λd hd=>by simp at hd) (by simp)
theorem Tg.int{d:PyData}(h:Tg d)(n:Int):d≠.int n:=λz=>by
 rcases h with rfl|⟨b,rfl⟩|rfl|rfl|rfl<;>cases z
theorem Tg.two{d:PyData}(h:Tg d)(a b:PyData):d≠.tuple [a,b]:=λz=>by
 rcases h with rfl|⟨b,rfl⟩|rfl|rfl|rfl<;>cases z
theorem Ey{l:List Int}{c:Nat}(h:∀x∈l,x.natAbs < 10000)(hc:l.length * 7+3<=c):Fn 1 c (XQ l) :=
 Fn.list (k:=0) (b:=5) (λd hd=>by obtain⟨x,hx,rfl⟩:=T0.mp hd;exact Fn.int (h x hx) (B0 _)) (by rw[p0];exact hc)
theorem nW{x y:PyData}(hx:Fn 2 2500 x)(hy:Fn 2 2500 y):Fn 3 6000 (.tuple [x,y]) :=
 Fn.tuple (k:=2) (b:=2500) (λd hd=>by
   simp only[K0,G1,or_false]at hd
   rcases hd with rfl|rfl
   · exact hx
   · exact hy) (by simp)
theorem vx{s1 s2:Int}{fl:List Int}{th:PyData}{i:Nat}{mid:List PyData}(hm:mid=(fl.map j0).take (i:Int).toNat++[th]++(fl.map j0).drop ((i:Int)+1).toNat)(hth:Tg th)(hs:Sm ([s1,s2],fl))(hfl:fl.length<=200)(hi:i < fl.length) :
  ∀d∈[W1 [tQ [s1,s2],.tuple mid],.tuple [tQ [s1,s2],XQ fl],.tuple [XQ [s1,s2],tQ fl],.list [tQ [s1,s2],tQ fl],.tuple [tQ [s1,s2],tQ fl,tQ fl],.tuple [tQ [s1,s2]],.none,th,.tuple [.tuple [.int s1,th],tQ fl],.tuple [.tuple [th,.int s2],tQ fl]],d≠fQ ([s1,s2],fl)/\Fn 5 10000 d:=by
 obtain⟨_,_,h3,h4⟩:=hs
 simp only at h3 h4
 have f1:Fn 2 2500 (tQ [s1,s2]):=(Fn.ints (c:=100) h3 (by simp)).mono (by decide) (by decide)
 have f2:Fn 2 2500 (tQ fl):=(Fn.ints (c:=2200) h4 (by omega)).mono (by decide) (by decide)
 have g1:Fn 2 2500 (XQ [s1,s2]):=(Ey (c:=100) h3 (by simp)).mono (by decide) (by decide)
 have g2:Fn 2 2500 (XQ fl):=(Ey (c:=2200) h4 (by omega)).mono (by decide) (by decide)
 have ft:=hth.fn
 have fs1:Fn 1 10 (.int s1):=Fn.int (h3 s1 (by simp)) (by decide)
 have fs2:Fn 1 10 (.int s2):=Fn.int (h3 s2 (by simp)) (by decide)
 have memth:th∈mid:=by rw[hm];simp
 have fm:Fn 2 2500 (.tuple mid):=Fn.tuple (k:=1) (b:=10) (λd hd=>by
   rw[hm]at hd
   have:d=th\/d∈fl.map j0:=by
     rcases V0.mp hd with hd|hd
     · rcases V0.mp hd with hd|hd
       · exact .inr (T3 hd)
       · exact .inl (Y0.mp hd)
     · exact .inr (A3 hd)
   rcases this with rfl|hd
   · exact ft
   · obtain⟨x,hx,rfl⟩:=T0.mp hd
     exact Fn.int (h4 x hx) (by decide)) (by
   rw[hm]
   simp only[Q0,E1,P1,p0,v5]
   omega)
 have big:∀{d:PyData},Fn 3 6000 d->Fn 5 10000 d:=λh=>h.mono (by decide) (by decide)
 intro d hd
 simp only[K0,G1,or_false]at hd
 rcases hd with rfl|rfl|rfl|rfl|rfl|rfl|rfl|rfl|rfl|rfl
 ·refine ⟨λz=>?_,big (nW f1 fm)⟩
  injection z with z
  injection z with _ z
  injection z with z _
  injection z with z
  rw[z]at memth
  obtain⟨n,_,e⟩:=T0.mp memth
  exact hth.int n e.symm
 ·refine ⟨λz=>?_,big (nW f1 g2)⟩
  injection z with z
  injection z with _ z
  injection z with z _
  cases z
 ·refine ⟨λz=>?_,big (nW g1 f2)⟩
  injection z with z
  injection z with z _
  cases z
 ·refine ⟨λz=>(by cases z),(Fn.list (k:=2) (b:=2500) (c:=6000) (λd hd=>?_) (by simp)).mono (by decide) (by decide)⟩
  simp only[K0,G1,or_false]at hd
  rcases hd with rfl|rfl
  ·exact f1
  ·exact f2
 ·refine ⟨λz=>?_,(Fn.tuple (k:=2) (b:=2500) (c:=8000) (λd hd=>?_) (by simp)).mono (by decide) (by decide)⟩
  ·injection z with z
   injection z with _ z
   injection z with _ z
   cases z
  ·simp only[K0,G1,or_false]at hd
   rcases hd with rfl|rfl|rfl
   ·exact f1
   ·exact f2
   ·exact f2
 ·refine ⟨λz=>?_,(Fn.tuple (k:=2) (b:=2500) (c:=8000) (λd hd=>?_) (by simp)).mono (by decide) (by decide)⟩
  ·injection z with z
   injection z with _ z
   cases z
  ·rw[Y0.mp hd];exact f1
 ·exact ⟨λz=>(by cases z),Fn.none (by decide)⟩
 ·exact ⟨hth.two _ _,ft.mono (by decide) (by decide)⟩
 ·refine ⟨λz=>?_,big (nW (Fn.tuple (k:=1) (b:=10) (λd hd=>?_) (by simp)) f2)⟩
  ·injection z with z
   injection z with z _
   injection z with z
   injection z with _ z
   injection z with z _
   exact hth.int _ z
  ·simp only[K0,G1,or_false]at hd
   rcases hd with rfl|rfl
   ·exact fs1
   ·exact ft
 ·refine ⟨λz=>?_,big (nW (Fn.tuple (k:=1) (b:=10) (λd hd=>?_) (by simp)) f2)⟩
  ·injection z with z
   injection z with z _
   injection z with z
   injection z with z _
   exact hth.int _ z
  ·simp only[K0,G1,or_false]at hd
   rcases hd with rfl|rfl
   ·exact ft
   ·exact fs2
theorem dq{es:List mZ}(hp:Pap es){e0:mZ}(h0:e0∈es):∀d∈[W1 (es.map fQ),yH (es.map Dy),.none,.int 7,.str "rows",.list [],.bool true,fQ e0],Bad es d:=by
 intro d hd
 simp only[K0,G1,or_false]at hd
 rcases hd with rfl|rfl|rfl|rfl|rfl|rfl|rfl|rfl
 ·refine .of (λz=>(by cases z)) ((Fn.tuple (k:=2) (b:=5000) (c:=6000000) (λd hd=>?_) (by rw[p0];have:=hp.len;omega)).mono (by decide) (B0 _))
  obtain⟨r,hr,rfl⟩:=T0.mp hd
  exact (hp.sm r hr).fn
 ·exact .dict hp
 ·exact .of (λz=>(by cases z)) (Fn.none (by decide))
 ·exact .of (λz=>(by cases z)) (Fn.int (by decide) (by decide))
 ·exact .of (λz=>(by cases z)) ⟨⟨rfl,by simp only[Q5];decide +kernel,by simp[U5]⟩,rfl,Z0 (show _<=10 by decide +kernel) (by decide)⟩
 ·refine .of (λz=>?_) ((Fn.list (k:=0) (b:=0) (c:=3) (λd hd=>by simp at hd) (by simp)).mono (by decide) (by decide))
  have:=hp.one
  have z:SQ []=SQ es:=z
  rw[<- YF z]at this
  simp at this
 ·exact .of (λz=>(by cases z)) (Fn.bool (by decide))
 ·exact .of (λz=>(by cases z)) ((hp.sm e0 h0).fn.mono (by decide) (by decide))
theorem Bad.put{es:List mZ}(h:Pap es){j:Nat}{e:mZ}{d:PyData}(he:es[j]?=some e)(hd:Fn 5 10000 d)(n:d≠fQ e):Bad es (.list ((es.map fQ).take j++[d]++(es.map fQ).drop (j+1))):=by
 have hj:j < es.length:=(O1.mp he).1
 have hl:=h.len
 refine .of (λz=>?_) ((Fn.list (k:=5) (b:=10000) (c:=6000000) (λx hx=>?_) ?_).mono (by decide) (B0 _))
 ·injection z with z
  rw[T2]at z
  exact kW (l:=es.map fQ) (j:=j) (x:=d) (y:=fQ e) (by rw[R0,he];rfl) n z
 ·have:x=d\/x∈es.map fQ:=by
   rcases V0.mp hx with hx|hx
   ·rcases V0.mp hx with hx|hx
    ·exact .inr (T3 hx)
    ·exact .inl (Y0.mp hx)
   ·exact .inr (A3 hx)
  rcases this with rfl|hx
  ·exact hd
  ·obtain⟨r,hr,rfl⟩:=T0.mp hx
   exact (h.sm r hr).fn.mono (by decide) (by decide)
 ·simp only[Q0,E1,P1,p0,v5]
  omega
section
variable {P:Program}{w:World}{K:q0}{mg:Str->Option Value}{base:Heap}
noncomputable def JI:Con:=λargs Q=>∃(a b c:Int) (es:List mZ),args=[.io (uQ a b c),.fz (SQ es)]/\0<=a/\0<=b/\0<=c/\Pap es /\
 ∀(d:PyData) (r:Sl) (a' b' c':Int) (o:Ev),r=.fz d\/r=.ow d->Bad es d->0<=a'->0<=b'->0<=c'->Q r (some (.io (uQ a' b' c')) :: o)
theorem KI:FnScope ["_law_pen_here","_law_some","_law_at","_law_stretch","_law_flags","_law_spot","_law_thing","_law_rows","_law_whole"] ["_law_pen_here","_law_some"] (jQ (top 24)):=⟨rfl,rfl,rfl,by decide +kernel,rfl,by decide +kernel,by decide +kernel⟩
theorem eC{f:Addr}{fd:FuncData}(F:Fun K "_law_odd" "_law_odd" (top 24) f fd)(T:Txt mg)(C:CalsN P w K mg base):FnOk P w K mg base WZ 2 f fd ["_law_pen_here","_law_some"] (lQ K JI):=by
 have S:=KI
 refine OK F S (λcdv A outer s H E hr=>(dQ (xQ (i:=2) S.nd rfl (Or.inl rfl) (NQ C.law_draw (hr.mono (by first|decide|omega)) (aQ (wn 0) (aQ (wx (mQ CQ (kQ (K:=K) rfl) T.len_ PySem.boot_len (aQ (wn 1) bQ))) bQ))))
     (dQ (MJ (GQ rfl (wn 1) (wn 2)) (BJ rfl rfl (QQ (wQ (i:=3) S.nd rfl (Or.inl rfl)) (QQ (wQ (i:=4) S.nd rfl (Or.inl rfl)) kZ))))
     (dQ (xQ (i:=5) S.nd rfl (Or.inl rfl) (NQ C.law_draw (hr.mono (by first|decide|omega)) (aQ (wn 0) (aQ (wx (mQ CQ (kQ (K:=K) rfl) T.len_ PySem.boot_len (aQ (wn 4) bQ))) bQ))))
     (dQ (xQ (i:=6) S.nd rfl (Or.inl rfl) (GQ rfl (wx (RQ (aQ (wx yF) (aQ (wx (LU JX (nX (K:=K) rfl hr.units) (wx (GQ rfl (wn 4) (wn 5))) (wx cQ))) (aQ (wx dZ) (aQ (wx Vv) (aQ (wx (zQ (aQ (wx cQ) bQ))) (aQ (wx (RQ bQ)) bQ)))))))) (wx (NQ C.law_draw (hr.mono (by first|decide|omega)) (aQ (wn 0) (aQ (wx cQ) bQ))))))
     (dQ (xQ (i:=7) S.nd rfl (Or.inl rfl) (RQ (aQ (wx (zQ (aQ (wx (wv 3)) (aQ (wx (w_bin gQ eQ (wx (w_bin gQ eQ (wx (IK rfl (wn 4) (wn 5))) (wx (zQ (aQ (wx (wv 6)) bQ))))) (wx (JK rfl (wn 4) (wx (w_bin gQ eQ (wn 5) (wx cQ))))))) bQ)))) (aQ (wx (zQ (aQ (wx (wv 3)) (aQ (wx (cX IX (aX (K:=K) rfl) T.list_ boot_list (aQ (wn 4) bQ))) bQ)))) (aQ (wx (zQ (aQ (wx (cX IX (aX (K:=K) rfl) T.list_ boot_list (aQ (wn 3) bQ))) (aQ (wx (wv 4)) bQ)))) bQ)))))
     (dQ (xQ (i:=7) S.nd rfl (Or.inl rfl) (w_bin gQ eQ (wn 7) (wx (RQ (aQ (wx (RQ (aQ (wx (wv 3)) (aQ (wx (wv 4)) bQ)))) (aQ (wx (zQ (aQ (wx (wv 3)) (aQ (wx (wv 4)) (aQ (wx (wv 4)) bQ))))) (aQ (wx (zQ (aQ (wx (wv 3)) bQ))) (aQ (wx yF) (aQ (wx (wv 6)) (aQ (wx (zQ (aQ (wx (zQ (aQ (wx (GQ rfl (wn 3) (wx cQ))) (aQ (wx (wv 6)) bQ)))) (aQ (wx (wv 4)) bQ)))) bQ))))))))))
     (dQ (LX (zF yX rfl PySem.F.slot_list_append PySem.F.type_list_append vX (wn 7) (aQ (wx (zQ (aQ (wx (zQ (aQ (wx (wv 6)) (aQ (wx (GQ rfl (wn 3) (wx cQ))) bQ)))) (aQ (wx (wv 4)) bQ)))) bQ)))
     (dQ (xQ (i:=8) S.nd rfl (Or.inl rfl) (RQ (aQ (wx (cX jK (oZ (K:=K) rfl) T.tuple_ boot_tuple (aQ (wn 1) bQ))) (aQ (wx (zw rfl rfl (lj hr) T.dict_ (by decide +kernel) (aQ (wn 1) bQ))) (aQ (wx yF) (aQ (wx cQ) (aQ (wx Vv) (aQ (wx (RQ bQ)) (aQ (wx dZ) (aQ (wx (GQ rfl (wn 1) (wx cQ))) bQ))))))))))
     (dQ (tX (FQ JX (nX (K:=K) rfl hr.units) (wx (NQ C.law_draw (hr.mono (by first|decide|omega)) (aQ (wn 0) (aQ (wx cQ) bQ)))) (wx cQ)) (nQ (AQ (GQ rfl (wn 8) (wx (NQ C.law_draw (hr.mono (by first|decide|omega)) (aQ (wn 0) (aQ (wx cQ) bQ))))))) UQ)
     (nQ (AQ (w_bin gQ eQ (wx (w_bin gQ eQ (wx (rX rfl (wn 1) (wn 2))) (wx (RQ (aQ (wx (GQ rfl (wn 7) (wx (NQ C.law_draw (hr.mono (by first|decide|omega)) (aQ (wn 0) (aQ (wx cQ) bQ)))))) bQ))))) (wx (sX rfl (wn 1) (wx (w_bin gQ eQ (wn 2) (wx cQ)))))))))))))))))) ?_ ?_
 ·rintro args Qd ⟨a,b,c,es,rfl,_⟩;rfl
 ·rintro args Qd ⟨a,b,c,es,rfl,ha,hb,hc,hp,q⟩
  refine ⟨BQ rfl,?_⟩
  have hone:=hp.one
  have hlen:=hp.len
  have hml:(es.map fQ).length=es.length:=p0 _
  refine MQ (λρ=>∃(j:Nat) (a1 b1 c1:Int),j < es.length/\0<=a1/\0<=b1/\0<=c1/\ρ=[some (.io (uQ a1 b1 c1)),some (.fz (SQ es)),some (.fz (.int j)),none,none,none,none,none,none]) ?_ ?_
  ·intro N hN
   refine ⟨a,b,c,_,rfl,ha,hb,hc,by rw[hml];omega,by rw[hml];omega,λat_ a1 b1 c1 _ t0 t1 ha1 hb1 hc1=>?_⟩
   rw[hml]at t1
   obtain⟨j,rfl⟩:=K1 t0
   exact hN _ ⟨j,a1,b1,c1,by omega,ha1,hb1,hc1,rfl⟩
  rintro _ ⟨j,a1,b1,c1,hj,ha1,hb1,hc1,rfl⟩
  obtain⟨e,he⟩:∃e,es[j]?=some e:=⟨_,A0 hj⟩
  have hem:e∈es:=A1 he
  obtain⟨st,fl⟩:=e
  have hsm:=hp.sm _ hem
  obtain⟨s1,s2,es1,h01,h12,h2⟩:=hp.st _ hem
  have es1:st=[s1,s2]:=es1
  subst es1
  have hat:TJ (es.map fQ) (j:Int)=some (fQ ([s1,s2],fl)):=YQ (by rw[R0,he];rfl)
  have hfl:=hp.fl _ hem
  have h2l:=sx (hp.both _ hem).1 (hp.both _ hem).2
  simp only at hfl h2l
  have hfm:(fl.map j0).length=fl.length:=p0 _
  have e1:(if ((j:Nat):Int) < 0 then ((j:Int)+(es.map fQ).length).toNat else (j:Int).toNat)=j:=lW
  have e2:(if ((j:Nat):Int)+1 < 0 then ((j:Int)+1+(es.map fQ).length).toNat else ((j:Int)+1).toNat)=j+1:=mW
  refine MQ (λρ=>ρ=[some (.io (uQ a1 b1 c1)),some (.fz (SQ es)),some (.fz (.int j)),some (.fz (tQ [s1,s2])),some (.fz (tQ fl)),none,none,none,none]) ?_ ?_
  ·intro N hN
   exact ⟨fQ ([s1,s2],fl),hat,rfl,hN _ rfl⟩
  rintro _ rfl
  refine MQ (λρ=>∃(i:Nat) (a2 b2 c2:Int),i < fl.length/\0<=a2/\0<=b2/\0<=c2/\ρ=[some (.io (uQ a2 b2 c2)),some (.fz (SQ es)),some (.fz (.int j)),some (.fz (tQ [s1,s2])),some (.fz (tQ fl)),some (.fz (.int i)),none,none,none]) ?_ ?_
  ·intro N hN
   refine ⟨a1,b1,c1,_,rfl,ha1,hb1,hc1,by rw[hfm];omega,by rw[hfm];omega,λsp a2 b2 c2 _ t0 t1 ha2 hb2 hc2=>?_⟩
   rw[hfm]at t1
   obtain⟨i,rfl⟩:=K1 t0
   exact hN _ ⟨i,a2,b2,c2,by omega,ha2,hb2,hc2,rfl⟩
  rintro _ ⟨i,a2,b2,c2,hi,ha2,hb2,hc2,rfl⟩
  obtain⟨x,hx⟩:∃x,fl[i]?=some x:=⟨_,A0 hi⟩
  have hxat:TJ (fl.map j0) (i:Int)=some (.int x):=YQ (by rw[R0,hx];rfl)
  refine MQ (λρ=>∃(th:PyData) (a3 b3 c3:Int),Tg th/\0<=a3/\0<=b3/\0<=c3/\ρ=[some (.io (uQ a3 b3 c3)),some (.fz (SQ es)),some (.fz (.int j)),some (.fz (tQ [s1,s2])),some (.fz (tQ fl)),some (.fz (.int i)),some (.fz th),none,none]) ?_ ?_
  ·intro N hN
   refine ⟨_,hxat,a2,b2,c2,6,rfl,ha2,hb2,hc2,by decide,by decide,λr a3 b3 c3 _ r0 r1 ha3 hb3 hc3=>?_⟩
   obtain⟨d,hd,hda⟩:=YV (l:=[PyData.none,.bool (decide (x=1)),.bool false,.str "0",.tuple [.int 0],.list []]) r0 r1
   refine ⟨d,hda,hN _ ⟨d,a3,b3,c3,?_,ha3,hb3,hc3,rfl⟩⟩
   simp only[K0,G1,or_false]at hd
   rcases hd with rfl|rfl|rfl|rfl|rfl|rfl
   ·exact .inl rfl
   ·exact .inr (.inl ⟨_,rfl⟩)
   ·exact .inr (.inl ⟨_,rfl⟩)
   ·exact .inr (.inr (.inl rfl))
   ·exact .inr (.inr (.inr (.inl rfl)))
   ·exact .inr (.inr (.inr (.inr rfl)))
  rintro _ ⟨th,a3,b3,c3,hth,ha3,hb3,hc3,rfl⟩
  obtain⟨mid,hmid⟩:∃m,m=(fl.map j0).take (i:Int).toNat++[th]++(fl.map j0).drop ((i:Int)+1).toNat:=⟨_,rfl⟩
  refine MQ (λρ=>ρ=[some (.io (uQ a3 b3 c3)),some (.fz (SQ es)),some (.fz (.int j)),some (.fz (tQ [s1,s2])),some (.fz (tQ fl)),some (.fz (.int i)),some (.fz th),some (.ow (.list [.tuple [tQ [s1,s2],.tuple mid],.tuple [tQ [s1,s2],XQ fl],.tuple [XQ [s1,s2],tQ fl]])),none]) ?_ ?_
  ·intro N hN
   rw[hmid]at hN
   exact ⟨by omega,iQ (by simp;omega),by show (0:Int)<=(i:Int)+1;omega,iQ (by simp;omega),hN _ rfl⟩
  rintro _ rfl
  refine MQ (λρ=>ρ=[some (.io (uQ a3 b3 c3)),some (.fz (SQ es)),some (.fz (.int j)),some (.fz (tQ [s1,s2])),some (.fz (tQ fl)),some (.fz (.int i)),some (.fz th),some (.ow (.list [.tuple [tQ [s1,s2],.tuple mid],.tuple [tQ [s1,s2],XQ fl],.tuple [XQ [s1,s2],tQ fl],.list [tQ [s1,s2],tQ fl],.tuple [tQ [s1,s2],tQ fl,tQ fl],.tuple [tQ [s1,s2]],.none,th,.tuple [.tuple [.int s1,th],tQ fl]])),none]) ?_ ?_
  ·intro N hN
   exact ⟨_,rfl,iQ (by simp),hN _ rfl⟩
  rintro _ rfl
  refine MQ (λρ=>ρ=[some (.io (uQ a3 b3 c3)),some (.fz (SQ es)),some (.fz (.int j)),some (.fz (tQ [s1,s2])),some (.fz (tQ fl)),some (.fz (.int i)),some (.fz th),some (.ow (.list [.tuple [tQ [s1,s2],.tuple mid],.tuple [tQ [s1,s2],XQ fl],.tuple [XQ [s1,s2],tQ fl],.list [tQ [s1,s2],tQ fl],.tuple [tQ [s1,s2],tQ fl,tQ fl],.tuple [tQ [s1,s2]],.none,th,.tuple [.tuple [.int s1,th],tQ fl],.tuple [.tuple [th,.int s2],tQ fl]])),none]) ?_ ?_
  ·intro N hN
   exact ⟨_,rfl,by simp;decide,hN _ rfl⟩
  rintro _ rfl
  have hrows:=vx hmid hth hsm hfl hi
  obtain⟨e0,he0⟩:∃e0,es[0]?=some e0:=⟨_,A0 (by omega)⟩
  have hwhole:=dq hp (A1 he0)
  refine MQ (λρ=>ρ=[some (.io (uQ a3 b3 c3)),some (.fz (SQ es)),some (.fz (.int j)),some (.fz (tQ [s1,s2])),some (.fz (tQ fl)),some (.fz (.int i)),some (.fz th),some (.ow (.list [.tuple [tQ [s1,s2],.tuple mid],.tuple [tQ [s1,s2],XQ fl],.tuple [XQ [s1,s2],tQ fl],.list [tQ [s1,s2],tQ fl],.tuple [tQ [s1,s2],tQ fl,tQ fl],.tuple [tQ [s1,s2]],.none,th,.tuple [.tuple [.int s1,th],tQ fl],.tuple [.tuple [th,.int s2],tQ fl]])),some (.ow (.list [.tuple (es.map fQ),yH (es.map Dy),.none,.int 7,.str "rows",.list [],.bool true,fQ e0]))]) ?_ ?_
  ·intro N hN
   refine ⟨es.map λe=>(e.1.map Sum.inl,tQ e.2),?_,?_,fQ e0,YQ (j:=0) (by rw[R0,he0];rfl),?_⟩
   ·rw[B1]
    exact K4 λe _=>by show fQ e=W1 [W1 ((e.1.map (Sum.inl:Int->HQ)).map OX),tQ e.2];rw[ux]
   ·rw[B1]
    have:=hp.nk
    rw[K3,K5]at this
    rw[K3,K5]
    exact this.imp λz e=>z ((E6 λ_ _ z=>by injection z).mp e)
   ·have ed:(es.map λe=>((e.1.map Sum.inl:List HQ),tQ e.2)).map rL=(es.map Dy).map λp=>(.tuple (p.1.map OX),.tuple (p.2.map j0)):=by
     rw[B1,B1]
     rfl
    rw[ed]
    exact hN _ rfl
  rintro _ rfl
  have hrl:([W1 [tQ [s1,s2],.tuple mid],.tuple [tQ [s1,s2],XQ fl],.tuple [XQ [s1,s2],tQ fl],.list [tQ [s1,s2],tQ fl],.tuple [tQ [s1,s2],tQ fl,tQ fl],.tuple [tQ [s1,s2]],.none,th,.tuple [.tuple [.int s1,th],tQ fl],.tuple [.tuple [th,.int s2],tQ fl]]:List PyData).length=10:=rfl
  generalize [W1 [tQ [s1,s2],.tuple mid],.tuple [tQ [s1,s2],XQ fl],.tuple [XQ [s1,s2],tQ fl],.list [tQ [s1,s2],tQ fl],.tuple [tQ [s1,s2],tQ fl,tQ fl],.tuple [tQ [s1,s2]],.none,th,.tuple [.tuple [.int s1,th],tQ fl],.tuple [.tuple [th,.int s2],tQ fl]]=rs at hrows hrl ⊢
  have hwl:([W1 (es.map fQ),yH (es.map Dy),.none,.int 7,.str "rows",.list [],.bool true,fQ e0]:List PyData).length=8:=rfl
  generalize [W1 (es.map fQ),yH (es.map Dy),.none,.int 7,.str "rows",.list [],.bool true,fQ e0]=ws at hwhole hwl ⊢
  refine MQ (λρ=>∃a4 b4 c4:Int,0<=a4/\0<=b4/\0<=c4/\ρ=[some (.io (uQ a4 b4 c4)),some (.fz (SQ es)),some (.fz (.int j)),some (.fz (tQ [s1,s2])),some (.fz (tQ fl)),some (.fz (.int i)),some (.fz th),some (.ow (.list rs)),some (.ow (.list ws))]) ?_ ?_
  ·intro N hN
   refine ⟨a3,b3,c3,4,rfl,ha3,hb3,hc3,by decide,by decide,λr a4 b4 c4 _ _ _ ha4 hb4 hc4=>eX (λh=>?_) (λh=>hN _ ⟨a4,b4,c4,ha4,hb4,hc4,rfl⟩)⟩
   refine ⟨a4,b4,c4,8,rfl,ha4,hb4,hc4,by decide,by decide,λr a5 b5 c5 _ r0 r1 ha5 hb5 hc5=>?_⟩
   obtain⟨d,hd,hda⟩:=YV (l:=ws) r0 (by rw[hwl];exact r1)
   exact ⟨d,hda,q d (.fz d) a5 b5 c5 _ (.inl rfl) (hwhole d hd) ha5 hb5 hc5⟩
  rintro _ ⟨a4,b4,c4,ha4,hb4,hc4,rfl⟩
  refine ⟨a4,b4,c4,10,rfl,ha4,hb4,hc4,by decide,by decide,λr a5 b5 c5 _ r0 r1 ha5 hb5 hc5=>?_⟩
  obtain⟨d,hd,hda⟩:=YV (l:=rs) r0 (by rw[hrl];exact r1)
  refine ⟨d,hda,iQ (by simp;omega),iQ (by simp;omega),?_⟩
  have B:=Bad.put hp he (hrows d hd).2 (hrows d hd).1
  have q:=λo=>q _ (.ow _) a5 b5 c5 o (.inr rfl) B ha5 hb5 hc5
  have e3:(es.map fQ).take (if ((j:Nat):Int) < 0 then ((j:Int)+(es.map fQ).length).toNat else (j:Int).toNat)++[d]++(es.map fQ).drop (if ((j:Nat):Int)+1 < 0 then ((j:Int)+1+(es.map fQ).length).toNat else ((j:Int)+1).toNat)=(es.map fQ).take j++[d]++(es.map fQ).drop (j+1):=by
   rw[e1,e2]
  rw[<- e3]at q
  exact q _
end
theorem gC{n i:Nat}(h:i < n):wH n (i:Int)=some i:=by
 unfold wH
 simp
 omega
theorem xx{α β:Type}(f:α->β):∀(l:List α) (i:Nat),(l.map f).eraseIdx i=(l.eraseIdx i).map f
 | [],_=>by simp
 | _ :: _,0=>rfl
 | x :: l,i+1=>by
  show f x :: (l.map f).eraseIdx i=f x :: (l.eraseIdx i).map f
  rw[xx f l i]
theorem EJ:∀a b:List mZ,sameAll (a.map fQ) (b.map fQ)=decide (a=b)
 | [],[]=>rfl
 | [],_ :: _=>by simp[sameAll]
 | _ :: _,[]=>by simp[sameAll]
 | x :: a,y :: b=>by
  have ih:=EJ a b
  have h1:=WF x.1 x.2 y.1 y.2
  show (same (rH x.1 x.2) (rH y.1 y.2)&&sameAll (a.map fQ) (b.map fQ))=_
  rw[ih,h1]
  obtain⟨x1,x2⟩:=x
  obtain⟨y1,y2⟩:=y
  by_cases z1:x1=y1<;>by_cases z2:x2=y2<;>by_cases z3:a=b<;>simp[z1,z2,z3]
theorem tK:∀a b:List mZ,SeqAt.noMixAll (a.map fQ) (b.map fQ)=true
 | [],[]=>rfl
 | [],_ :: _=>by simp[SeqAt.noMixAll]
 | _ :: _,[]=>by simp[SeqAt.noMixAll]
 | x :: a,y :: b=>by
  have h1:=fx x.1 x.2 y.1 y.2
  have ih:=tK a b
  show (SeqAt.noMix (rH x.1 x.2) (rH y.1 y.2)&&SeqAt.noMixAll (a.map fQ) (b.map fQ))=true
  rw[h1,ih]
  rfl
theorem nY(es:List mZ):Nice 3 (SQ es):=.list λd hd=>by
 obtain⟨r,_,rfl⟩:=T0.mp hd
 exact UV r.1 r.2
theorem Bv{ms:List Int}{qs:List (Int×Int)}(h1:1<=ms.length)(hl':ms.length<=140)(hp:Prs (iX ms).length qs):(rows ms qs).length<=300/\∀r∈rows ms qs,Sm r:=by
 have hw:=NX ms
 have hw1:=lY h1
 have hin:=hp.in_ (by omega)
 have hlen:=hp.len (by omega)
 have hf:=N3 zH qs
 refine ⟨by unfold rows;rw[p0];omega,λr hr=>?_⟩
 obtain⟨p,hp',rfl⟩:=T0.mp hr
 have hi:=hin p (U3.mp hp').1
 have hfl:=QV (vK ms) p
 rw[mY]at hfl
 refine ⟨by show 2<=5;decide,by show (cU (vK ms) p).length<=300;omega,λx hx=>?_,λx hx=>?_⟩
 ·have hx:x∈[p.1,p.2]:=hx
  simp only[K0,G1,or_false]at hx
  rcases hx with rfl|rfl<;>omega
 ·rcases TF (vK ms) p x hx with rfl|rfl<;>decide
section
variable {P:Program}{w:World}{K:q0}{mg:Str->Option Value}{base:Heap}
structure CalsO(P:Program)(w:World)(K:q0)(mg:Str->Option Value)(base:Heap):Prop where
 law_draw:Cal P w K mg base 1 "_law_draw" ["_law_pen_here","_law_many"] (lQ K fW)
 law_worths:Cal P w K mg base 1 "_law_worths" ["_law_numbers"] (lQ K ZB)
 law_parting:Cal P w K mg base 2 "_law_parting" ["_law_numbers"] (lQ K Av)
 law_flag_bent:Cal P w K mg base 2 "_law_flag_bent" ["_law_pen_here","_law_some"] (lQ K GI)
noncomputable def LI:Con:=λargs Q=>∃(a b c:Int) (ns:List Int) (ps:List (Int×Int)),args=[.io (uQ a b c),.fz (XQ ns),.fz (SQ (rows ns ps))]/\0<=a/\0<=b/\0<=c/\2<=(iX ns).length/\ns.length<=139/\Prs (iX ns).length ps /\
 ∀(d:PyData) (a' b' c':Int) (o:Ev),Bad (rows ns ps) d->0<=a'->0<=b'->0<=c'->Q (.ow d) (some (.io (uQ a' b' c')) :: o)
theorem MI:FnScope ["_law_pen_here","_law_numbers","_law_some","_law_unlike","_law_other","_law_way","_law_at","_law_found"] ["_law_pen_here","_law_numbers","_law_some"] (jQ (top 25)):=⟨rfl,rfl,rfl,by decide +kernel,rfl,by decide +kernel,by decide +kernel⟩
theorem iC{f:Addr}{fd:FuncData}(F:Fun K "_law_other_row" "_law_other_row" (top 25) f fd)(T:Txt mg)(C:CalsO P w K mg base):FnOk P w K mg base WZ 3 f fd ["_law_pen_here","_law_numbers","_law_some"] (lQ K LI):=by
 have S:=MI
 refine OK F S (λcdv A outer s H E hr=>(dQ (xQ (i:=3) S.nd rfl (Or.inl rfl) (YX C.law_worths (hr.mono (by first|decide|omega)) (aQ (wn 1) bQ)))
     (dQ (xQ (i:=4) S.nd rfl (Or.inl rfl) (cX IX (aX (K:=K) rfl) T.list_ boot_list (aQ (wn 1) bQ)))
     (dQ (xQ (i:=5) S.nd rfl (Or.inl rfl) (NQ C.law_draw (hr.mono (by first|decide|omega)) (aQ (wn 0) (aQ (wx cQ) bQ))))
     (dQ (xQ (i:=6) S.nd rfl (Or.inl rfl) (NQ C.law_draw (hr.mono (by first|decide|omega)) (aQ (wn 0) (aQ (wx (mQ CQ (kQ (K:=K) rfl) T.len_ PySem.boot_len (aQ (wn 4) bQ))) bQ))))
     (dQ (tX (FQ JX (nX (K:=K) rfl hr.units) (wn 5) (wx cQ)) (nQ (LX (zF Yj rfl PySem.F.slot_list_pop PySem.F.type_list_pop Uq (wn 4) (aQ (wx (wv 6)) bQ)))) (nQ (tX (FQ JX (nX (K:=K) rfl hr.units) (wn 5) (wx cQ)) (nQ (LX (zF yX rfl PySem.F.slot_list_append PySem.F.type_list_append vX (wn 4) (aQ (wx (GQ rfl (wn 4) (wn 6))) bQ)))) (nQ (dB (GQ rfl (wn 3) (wx (NQ C.law_draw (hr.mono (by first|decide|omega)) (aQ (wn 0) (aQ (wx (mQ CQ (kQ (K:=K) rfl) T.len_ PySem.boot_len (aQ (wn 3) bQ))) bQ))))) (wn 4) (wn 6))))))
     (dQ (xQ (i:=7) S.nd rfl (Or.inl rfl) (DF C.law_parting (hr.mono (by first|decide|omega)) (aQ (wn 4) bQ)))
     (dQ (tX (FQ JX (nX (K:=K) rfl hr.units) (wn 7) (wn 2)) (nQ (AQ (NQ C.law_flag_bent (hr.mono (by first|decide|omega)) (aQ (wn 0) (aQ (wn 2) bQ))))) UQ)
     (nQ (BV (wn 7))))))))))) ?_ ?_
 ·rintro args Qd ⟨a,b,c,ns,ps,rfl,_⟩;rfl
 ·rintro args Qd ⟨a,b,c,ns,ps,rfl,ha,hb,hc,hw2,hn,hps,q⟩
  refine ⟨BQ rfl,?_⟩
  have hwl:=NX ns
  have hp:=WV hw2 (by omega) hps
  have hnm:(ns.map j0).length=ns.length:=p0 _
  refine MQ (λρ=>ρ=[some (.io (uQ a b c)),some (.fz (XQ ns)),some (.fz (SQ (rows ns ps))),some (.ow (XQ (iX ns))),none,none,none,none]) ?_ ?_
  ·intro N hN
   exact ⟨ns,rfl,by omega,λo=>hN _ rfl⟩
  rintro _ rfl
  refine MQ (λρ=>ρ=[some (.io (uQ a b c)),some (.fz (XQ ns)),some (.fz (SQ (rows ns ps))),some (.ow (XQ (iX ns))),some (.ow (XQ ns)),none,none,none]) ?_ ?_
  ·intro N hN
   exact hN _ rfl
  rintro _ rfl
  refine MQ (λρ=>∃(way a1 b1 c1:Int),0<=a1/\0<=b1/\0<=c1/\ρ=[some (.io (uQ a1 b1 c1)),some (.fz (XQ ns)),some (.fz (SQ (rows ns ps))),some (.ow (XQ (iX ns))),some (.ow (XQ ns)),some (.fz (.int way)),none,none]) ?_ ?_
  ·intro N hN
   exact ⟨a,b,c,4,rfl,ha,hb,hc,by decide,by decide,λway a1 b1 c1 _ _ _ ha1 hb1 hc1=>hN _ ⟨way,a1,b1,c1,ha1,hb1,hc1,rfl⟩⟩
  rintro _ ⟨way,a1,b1,c1,ha1,hb1,hc1,rfl⟩
  refine MQ (λρ=>∃(i:Nat) (a2 b2 c2:Int),i < ns.length/\0<=a2/\0<=b2/\0<=c2/\ρ=[some (.io (uQ a2 b2 c2)),some (.fz (XQ ns)),some (.fz (SQ (rows ns ps))),some (.ow (XQ (iX ns))),some (.ow (XQ ns)),some (.fz (.int way)),some (.fz (.int i)),none]) ?_ ?_
  ·intro N hN
   refine ⟨a1,b1,c1,_,rfl,ha1,hb1,hc1,by rw[hnm];omega,by rw[hnm];omega,λat_ a2 b2 c2 _ t0 t1 ha2 hb2 hc2=>?_⟩
   rw[hnm]at t1
   obtain⟨i,rfl⟩:=K1 t0
   exact hN _ ⟨i,a2,b2,c2,by omega,ha2,hb2,hc2,rfl⟩
  rintro _ ⟨i,a2,b2,c2,hi,ha2,hb2,hc2,rfl⟩
  obtain⟨x,hx⟩:∃x,ns[i]?=some x:=⟨_,A0 hi⟩
  refine MQ (λρ=>∃(ms:List Int) (a3 b3 c3:Int),1<=ms.length/\ms.length<=140/\0<=a3/\0<=b3/\0<=c3/\ρ=[some (.io (uQ a3 b3 c3)),some (.fz (XQ ns)),some (.fz (SQ (rows ns ps))),some (.ow (XQ (iX ns))),some (.ow (XQ ms)),some (.fz (.int way)),some (.fz (.int i)),none]) ?_ ?_
  ·intro N hN
   refine eX (λh=>?_) (λh=>eX (λh'=>?_) (λh'=>?_))
   ·refine ⟨by omega,by rw[hnm];omega,by omega,λd hd=>?_⟩
    have e:(ns.map j0).eraseIdx (i:Int).toNat=(ns.eraseIdx i).map j0:=by rw[show (i:Int).toNat=i by omega,xx]
    rw[e]
    have hl:=i6 hi
    exact hN _ ⟨ns.eraseIdx i,a2,b2,c2,by omega,by omega,ha2,hb2,hc2,rfl⟩
   ·refine ⟨.int x,YQ (by rw[R0,hx];rfl),by rw[hnm];exact O2 (show ns.length<=139 by omega) (by decide),?_⟩
    have e:ns.map j0++[(Sl.fz (j0 x)).d]=(ns++[x]).map j0:=by simp[Sl.d]
    rw[e]
    exact hN _ ⟨ns++[x],a2,b2,c2,by simp,by simp;omega,ha2,hb2,hc2,rfl⟩
   ·have hwm:((iX ns).map j0).length=(iX ns).length:=p0 _
    refine ⟨a2,b2,c2,_,rfl,ha2,hb2,hc2,by rw[hwm];omega,by rw[hwm];omega,λr a3 b3 c3 _ r0 r1 ha3 hb3 hc3=>?_⟩
    rw[hwm]at r1
    obtain⟨y,hy,hya⟩:=YV (l:=iX ns) r0 r1
    refine ⟨.int y,iY j0 hya,i,?_,?_⟩
    ·rw[hnm];exact gC hi
    ·have e:(ns.map j0).set i (Sl.fz (j0 y)).d=(ns.set i y).map j0:=by rw[List.map_set];rfl
     rw[e]
     exact hN _ ⟨ns.set i y,a3,b3,c3,by rw[v4];omega,by rw[v4];omega,ha3,hb3,hc3,rfl⟩
  rintro _ ⟨ms,a3,b3,c3,hm1,hm2,ha3,hb3,hc3,rfl⟩
  refine MQ (λρ=>∃qs:List (Int×Int),Prs (iX ms).length qs/\ρ=[some (.io (uQ a3 b3 c3)),some (.fz (XQ ns)),some (.fz (SQ (rows ns ps))),some (.ow (XQ (iX ns))),some (.ow (XQ ms)),some (.fz (.int way)),some (.fz (.int i)),some (.ow (SQ (rows ms qs)))]) ?_ ?_
  ·intro N hN
   refine ⟨ms,rfl,hm1,by omega,λqs o hq=>⟨VX (vK ms) _,?_⟩⟩
   rw[iZ]
   exact hN _ ⟨qs,hq,rfl⟩
  rintro _ ⟨qs,hq,rfl⟩
  have n1:=nY (rows ms qs)
  have n2:=nY (rows ns ps)
  refine MQ (λρ=>rows ms qs≠rows ns ps/\ρ=[some (.io (uQ a3 b3 c3)),some (.fz (XQ ns)),some (.fz (SQ (rows ns ps))),some (.ow (XQ (iX ns))),some (.ow (XQ ms)),some (.fz (.int way)),some (.fz (.int i)),some (.ow (SQ (rows ms qs)))]) ?_ ?_
  ·intro N hN
   refine ⟨n1.p,n2.p,n1.sh (by decide),n2.sh (by decide),tK _ _,eX (λh=>?_) (λh=>?_)⟩
   ·exact ⟨a3,b3,c3,rows ns ps,rfl,ha3,hb3,hc3,hp,λd a' b' c' o B h1 h2 h3=>q d a' b' c' _ B h1 h2 h3⟩
   ·have h:¬sameAll ((rows ms qs).map fQ) ((rows ns ps).map fQ)=true:=h
    rw[EJ]at h
    exact hN _ ⟨λz=>h (decide_eq_true z),rfl⟩
  rintro _ ⟨hne,rfl⟩
  have sm:=Bv hm1 hm2 hq
  exact q _ a3 b3 c3 _ (Bad.rows hne (by have:=sm.1;omega) sm.2) ha3 hb3 hc3
structure CalsSp(P:Program)(w:World)(K:q0)(mg:Str->Option Value)(base:Heap):Prop where
 law_draw:Cal P w K mg base 1 "_law_draw" ["_law_pen_here","_law_many"] (lQ K fW)
 law_flag_bent:Cal P w K mg base 2 "_law_flag_bent" ["_law_pen_here","_law_some"] (lQ K GI)
 law_stretch_bent:Cal P w K mg base 2 "_law_stretch_bent" ["_law_pen_here","_law_some"] (lQ K GI)
 law_odd:Cal P w K mg base 2 "_law_odd" ["_law_pen_here","_law_some"] (lQ K JI)
 law_other_row:Cal P w K mg base 3 "_law_other_row" ["_law_pen_here","_law_numbers","_law_some"] (lQ K LI)
noncomputable def NI:Con:=λargs Q=>∃(a b c:Int) (ns:List Int) (ps:List (Int×Int)),args=[.io (uQ a b c),.fz (XQ ns),.fz (SQ (rows ns ps))]/\0<=a/\0<=b/\0<=c/\2<=(iX ns).length/\ns.length<=139/\Prs (iX ns).length ps /\
 ∀(d:PyData) (r:Sl) (a' b' c':Int) (o:Ev),r=.fz d\/r=.ow d->Bad (rows ns ps) d->0<=a'->0<=b'->0<=c'->Q r (some (.io (uQ a' b' c')) :: o)
theorem OI:FnScope ["_law_pen_here","_law_numbers","_law_some","_law_way"] ["_law_pen_here","_law_numbers","_law_some"] (jQ (top 26)):=⟨rfl,rfl,rfl,by decide +kernel,rfl,by decide +kernel,by decide +kernel⟩
theorem jC{f:Addr}{fd:FuncData}(F:Fun K "_law_spoilt" "_law_spoilt" (top 26) f fd)(C:CalsSp P w K mg base):FnOk P w K mg base WZ 4 f fd ["_law_pen_here","_law_numbers","_law_some"] (lQ K NI):=by
 have S:=OI
 refine OK F S (λcdv A outer s H E hr=>(dQ (xQ (i:=3) S.nd rfl (Or.inl rfl) (NQ C.law_draw (hr.mono (by first|decide|omega)) (aQ (wn 0) (aQ (wx cQ) bQ))))
     (dQ (tX (FQ JY pY (wn 3) (wx cQ)) (nQ (AQ (NQ C.law_flag_bent (hr.mono (by first|decide|omega)) (aQ (wn 0) (aQ (wn 2) bQ))))) UQ)
     (dQ (tX (FQ JX (nX (K:=K) rfl hr.units) (wn 3) (wx cQ)) (nQ (AQ (NQ C.law_stretch_bent (hr.mono (by first|decide|omega)) (aQ (wn 0) (aQ (wn 2) bQ))))) UQ)
     (dQ (tX (FQ JX (nX (K:=K) rfl hr.units) (wn 3) (wx cQ)) (nQ (AQ (NQ C.law_other_row (hr.mono (by first|decide|omega)) (aQ (wn 0) (aQ (wn 1) (aQ (wn 2) bQ)))))) UQ)
     (nQ (AQ (NQ C.law_odd (hr.mono (by first|decide|omega)) (aQ (wn 0) (aQ (wn 2) bQ)))))))))) ?_ ?_
 ·rintro args Qd ⟨a,b,c,ns,ps,rfl,_⟩;rfl
 ·rintro args Qd ⟨a,b,c,ns,ps,rfl,ha,hb,hc,hw2,hn,hps,q⟩
  refine ⟨BQ rfl,?_⟩
  have hp:=WV hw2 (by omega) hps
  refine MQ (λρ=>∃(way a1 b1 c1:Int),0<=a1/\0<=b1/\0<=c1/\ρ=[some (.io (uQ a1 b1 c1)),some (.fz (XQ ns)),some (.fz (SQ (rows ns ps))),some (.fz (.int way))]) ?_ ?_
  ·intro N hN
   exact ⟨a,b,c,6,rfl,ha,hb,hc,by decide,by decide,λway a1 b1 c1 _ _ _ ha1 hb1 hc1=>hN _ ⟨way,a1,b1,c1,ha1,hb1,hc1,rfl⟩⟩
  rintro _ ⟨way,a1,b1,c1,ha1,hb1,hc1,rfl⟩
  have J:∀t u E,(∀N:Ev->Prop,N [some (.io (uQ a1 b1 c1)),some (.fz (XQ ns)),some (.fz (SQ (rows ns ps))),some (.fz (.int way))]->t { nx:=N,rt:=E.rt,bk:=E.bk,ct:=E.ct } [some (.io (uQ a1 b1 c1)),some (.fz (XQ ns)),some (.fz (SQ (rows ns ps))),some (.fz (.int way))])->u E [some (.io (uQ a1 b1 c1)),some (.fz (XQ ns)),some (.fz (SQ (rows ns ps))),some (.fz (.int way))] ->
    yz t u E [some (.io (uQ a1 b1 c1)),some (.fz (XQ ns)),some (.fz (SQ (rows ns ps))),some (.fz (.int way))]:=λt u E h1 h2=>MQ (λρ=>ρ=[some (.io (uQ a1 b1 c1)),some (.fz (XQ ns)),some (.fz (SQ (rows ns ps))),some (.fz (.int way))]) (λN hN=>h1 N (hN _ rfl)) (λρ e=>by rw[e];exact h2)
  refine J _ _ _ (λN hN=>eX (λh=>?_) (λh=>hN)) ?_
  ·exact ⟨a1,b1,c1,rows ns ps,rfl,ha1,hb1,hc1,hp,λd a' b' c' o B h1 h2 h3=>q d (.ow d) a' b' c' _ (.inr rfl) B h1 h2 h3⟩
  refine J _ _ _ (λN hN=>eX (λh=>?_) (λh=>hN)) ?_
  ·exact ⟨a1,b1,c1,rows ns ps,rfl,ha1,hb1,hc1,hp,λd a' b' c' o B h1 h2 h3=>q d (.ow d) a' b' c' _ (.inr rfl) B h1 h2 h3⟩
  refine J _ _ _ (λN hN=>eX (λh=>?_) (λh=>hN)) ?_
  ·exact ⟨a1,b1,c1,ns,ps,rfl,ha1,hb1,hc1,hw2,hn,hps,λd a' b' c' o B h1 h2 h3=>q d (.ow d) a' b' c' _ (.inr rfl) B h1 h2 h3⟩
  exact ⟨a1,b1,c1,rows ns ps,rfl,ha1,hb1,hc1,hp,λd r a' b' c' o hr B h1 h2 h3=>q d r a' b' c' _ hr B h1 h2 h3⟩
end
theorem Cv(n:Nat)(x:Int)(h:1<=n):iX (O0 n x)=[x]:=by
 refine (MG (l:=[x]) (W4 _ _) λz=>?_).symm
 rw[Y0,X8]
 exact ⟨λe=>⟨by omega,e⟩,λe=>e.2⟩
theorem Dv:Prs ((1:Nat):Int) [(0,0)]:=⟨by rw[show ((1:Nat):Int) - 1=0 from rfl,iW (by decide)];exact List.Perm.refl _,W4 _ _⟩
theorem uH(ns:List Int):aZ ns [(0,0)]=[]:=rfl
theorem zM{a:TD}{ks:List Nat}{g:HZ}{tb:HJ}{E:DE}{ρ ρ1:Ev}(L:List PyData)(h1:∀Q:Sl->Ev->Prop,Q (.ow (.list L)) ρ1->a ρ Q)(h2:lJ ks g tb E L (clean ks ρ1)):KU ks (DU a) g tb E ρ:=h1 _ h2
theorem kC{n:Nat}(h:2<=n):(O0 n [j0 0]).flatten=(O0 n (0:Int)).map j0:=by rw[XV,v7]
section
variable {P:Program}{w:World}{K:q0}{mg:Str->Option Value}{base:Heap}
structure CalsAl(P:Program)(w:World)(K:q0)(mg:Str->Option Value)(base:Heap):Prop where
 holds_parted:Cal P w K mg base 4 "holds_parted" ["numbers","thing"] (lQ K zv)
noncomputable def XM:Con:=λargs Q=>∃(x:Int) (n:Nat),args=[.fz (XQ (O0 n x))]/\2<=n/\n<=139/\∀o,Q (.fz (.bool true)) o
theorem AM:FnScope ["_law_numbers","_law_thing"] ["_law_numbers"] (jQ (top 27)):=⟨rfl,rfl,rfl,by decide +kernel,rfl,by decide +kernel,by decide +kernel⟩
theorem QI{f:Addr}{fd:FuncData}(F:Fun K "_law_alike_right" "_law_alike_right" (top 27) f fd)(T:Txt mg)(C:CalsAl P w K mg base):FnOk P w K mg base WZ 5 f fd ["_law_numbers"] (lQ K XM):=by
 have S:=AM
 refine OK F S (λcdv A outer s H E hr=>(dQ (CJ [1] PassesOwn.never rfl (DZ rfl (RQ (aQ (wx (RQ (aQ (wx (zQ (aQ (wx (zQ (aQ (wx cQ) (aQ (wx cQ) bQ)))) (aQ (wx (w_bin PV OV (wx (zQ (aQ (wx cQ) bQ))) (wx (mQ CQ (kQ (K:=K) rfl) T.len_ PySem.boot_len (aQ (wn 0) bQ))))) bQ)))) bQ))) (aQ (wx (RQ (aQ (wx (zQ (aQ (wx (zQ (aQ (wx cQ) (aQ (wx cQ) bQ)))) (aQ (wx (w_bin PV OV (wx (zQ (aQ (wx cQ) bQ))) (wx (mQ CQ (kQ (K:=K) rfl) T.len_ PySem.boot_len (aQ (wn 0) bQ))))) bQ)))) bQ))) (aQ (wx (RQ (aQ (wx (zQ (aQ (wx (zQ (aQ (wx cQ) (aQ (wx cQ) bQ)))) (aQ (wx (zQ (aQ (wx cQ) (aQ (wx cQ) bQ)))) bQ)))) bQ))) (aQ (wx yF) (aQ (wx (zQ bQ)) (aQ (wx gB) bQ)))))))) (wQ (i:=1) S.nd rfl (Or.inl rfl)) (nQ (tX (FQ yJ hZ (wx (YX C.holds_parted (hr.mono (by first|decide|omega)) (aQ (wx (cX IX (aX (K:=K) rfl) T.list_ boot_list (aQ (wn 0) bQ))) (aQ (wn 1) bQ)))) (wx dZ)) (nQ (AQ dZ)) UQ)))
     (nQ (AQ (LU nj mj (wx (YX C.holds_parted (hr.mono (by first|decide|omega)) (aQ (wx (cX IX (aX (K:=K) rfl) T.list_ boot_list (aQ (wn 0) bQ))) (aQ (wx (RQ bQ)) bQ)))) (wx dZ)))))) ?_ ?_
 ·rintro args Qd ⟨x,n,rfl,_⟩;rfl
 ·rintro args Qd ⟨x,n,rfl,h2,hn,q⟩
  refine ⟨BQ rfl,?_⟩
  have hnl:(O0 n x).length=n:=N6 ..
  have hw:((iX (O0 n x)).length:Int)=((1:Nat):Int):=by rw[Cv n x (by omega)];rfl
  have hps:Prs (iX (O0 n x)).length [(0,0)]:=by rw[hw];exact Dv
  generalize O0 n x=ns at *
  have hnm:(ns.map j0).length=n:=by rw[p0,hnl]
  have en:((ns.map j0).length:Int).toNat=n:=by rw[hnm];omega
  with_reducible refine MQ (λρ=>ρ=[some (.fz (XQ ns)),none]) ?_ ?_
  ·intro N hN
   refine zM (ρ1:=[some (.fz (XQ ns)),none]) [.list [.tuple [.tuple [.int 0,.int 0],.tuple (O0 ((ns.map j0).length:Int).toNat [j0 0]).flatten]],.list [.tuple [.tuple [.int 0,.int 1],.tuple (O0 ((ns.map j0).length:Int).toNat [j0 0]).flatten]],.list [.tuple [.tuple [.int 0,.int 1],.tuple [.int 0,.int 1]]],.none,.tuple [],.dict []] (λQ hQ=>?_) ?_
   ·exact ⟨by simp,by rw[hnm];omega,by rw[hnm];omega,by rw[en];exact iQ (by simp;omega),by simp,by rw[hnm];omega,by rw[hnm];omega,by rw[en];exact iQ (by simp;omega),hQ⟩
   rw[en,kC h2]
   have hok:∀d∈[P3 [.tuple [.tuple [.int 0,.int 0],.tuple ((O0 n (0:Int)).map j0)]],.list [.tuple [.tuple [.int 0,.int 1],.tuple ((O0 n (0:Int)).map j0)]],.list [.tuple [.tuple [.int 0,.int 1],.tuple [.int 0,.int 1]]],.none,.tuple [],.dict []],vJ d=true/\d≠.list []:=by
    have e1:okAll ((O0 n (0:Int)).map j0)=true:=oH λd hd=>by obtain⟨x,_,rfl⟩:=T0.mp hd;rfl
    intro d hd
    simp only[K0,G1,or_false]at hd
    rcases hd with rfl|rfl|rfl|rfl|rfl|rfl
    ·exact ⟨by simp only[vJ,okAll,e1];rfl,λz=>(by cases z)⟩
    ·exact ⟨by simp only[vJ,okAll,e1];rfl,λz=>(by cases z)⟩
    ·exact ⟨rfl,λz=>(by cases z)⟩
    ·exact ⟨rfl,λz=>(by cases z)⟩
    ·exact ⟨rfl,λz=>(by cases z)⟩
    ·exact ⟨rfl,λz=>(by cases z)⟩
   generalize [P3 [.tuple [.tuple [.int 0,.int 0],.tuple ((O0 n (0:Int)).map j0)]],.list [.tuple [.tuple [.int 0,.int 1],.tuple ((O0 n (0:Int)).map j0)]],.list [.tuple [.tuple [.int 0,.int 1],.tuple [.int 0,.int 1]]],.none,.tuple [],.dict []]=L at hok ⊢
   refine mJ (λrest ρ=>(∀d∈rest,vJ d=true/\d≠.list [])/\ρ=[some (.fz (XQ ns)),none]) ?_ ?_ ⟨hok,rfl⟩
   ·rintro d ds ρ ⟨h,rfl⟩ N' hN'
    have hd:=h d G0
    refine ⟨ns,d,_,rfl,by omega,by omega,hd.1,hps,λo=>?_⟩
    rw[uH,sZ hd.2]
    exact hN' _ ⟨λd hd=>h d (J0 _ hd),rfl⟩
   ·rintro ρ ⟨_,rfl⟩
    exact hN _ rfl
  rintro _ rfl
  refine ⟨ns,.list [],_,rfl,by omega,by omega,rfl,hps,λo=>?_⟩
  rw[uH,SK rfl]
  exact q _
end
theorem BM{a:TD}{ks:List Nat}{g:HZ}{tb:HJ}{E:DE}{ρ ρ1:Ev}(L:List PyData)(h1:∀Q:Sl->Ev->Prop,Q (.fz (.tuple L)) ρ1->a ρ Q)(h2:lJ ks g tb E L (clean ks ρ1)):KU ks (DU a) g tb E ρ:=h1 _ h2
theorem cD{ns:List Int}{m:Int}(i:Nat)(h1:1<=ns.length)(hm:∀x∈ns,x<=m):2<=(iX (ns.take i++(1+m) :: ns.drop i)).length:=by
 obtain⟨x,hx⟩:∃x,x∈ns:=by
  cases ns with
  | nil=>simp at h1
  | cons x l=>exact ⟨x,G0⟩
 have hxm:=hm x hx
 have e1:x∈iX (ns.take i++(1+m) :: ns.drop i):=(rZ _ _).mpr (by
   have:x∈ns.take i++ns.drop i:=by rw[M3];exact hx
   rcases V0.mp this with z|z
   · exact L5 _ z
   · exact N1 _ (J0 _ z))
 have e2:1+m∈iX (ns.take i++(1+m) :: ns.drop i):=(rZ _ _).mpr (N1 _ G0)
 rcases h:iX (ns.take i++(1+m) :: ns.drop i) with _|⟨a,_|⟨b,l⟩⟩
 ·rw[h]at e1;cases e1
 ·rw[h,Y0]at e1 e2
  omega
 ·simp
section
variable {P:Program}{w:World}{K:q0}{mg:Str->Option Value}{base:Heap}
noncomputable def YM:Con:=λargs Q=>∃(ns:List Int) (ps:List (Int×Int)),args=[.fz (XQ ns),.fz (SQ (rows ns ps))]/\2<=(iX ns).length/\ns.length<=139/\Prs (iX ns).length ps/\∀o,Q (.fz (.bool true)) o
theorem CM:FnScope ["_law_numbers","_law_right","_law_at","_law_stretch","_law_flags","_law_some","_law_spot","_law_bent","_law_by","_law_thing"] ["_law_numbers","_law_right"] (jQ (top 28)):=⟨rfl,rfl,rfl,by decide +kernel,rfl,by decide +kernel,by decide +kernel⟩
theorem RI{f:Addr}{fd:FuncData}(F:Fun K "_law_every_one" "_law_every_one" (top 28) f fd)(T:Txt mg)(C:CalsAl P w K mg base):FnOk P w K mg base WZ 5 f fd ["_law_numbers","_law_right"] (lQ K YM):=by
 have S:=CM
 refine OK F S (λcdv A outer s H E hr=>(dQ (CJ [2,5,6,8,9,3,4] PassesOwn.never rfl (nJ T.range_ (aQ (wx (mQ CQ (kQ (K:=K) rfl) T.len_ PySem.boot_len (aQ (wn 1) bQ))) bQ)) (wQ (i:=2) S.nd rfl (Or.inl rfl)) (dQ (MJ (GQ rfl (wn 1) (wn 2)) (BJ rfl rfl (QQ (wQ (i:=3) S.nd rfl (Or.inl rfl)) (QQ (wQ (i:=4) S.nd rfl (Or.inl rfl)) kZ))))
     (dQ (xQ (i:=5) S.nd rfl (Or.inl rfl) (RQ (aQ (wx (w_bin gQ eQ (wx (rX rfl (wn 1) (wn 2))) (wx (sX rfl (wn 1) (wx (w_bin gQ eQ (wn 2) (wx cQ))))))) (aQ (wx (w_bin gQ eQ (wx (w_bin gQ eQ (wx (rX rfl (wn 1) (wn 2))) (wx (RQ (aQ (wx (GQ rfl (wn 1) (wn 2))) bQ))))) (wx (sX rfl (wn 1) (wn 2))))) bQ))))
     (dQ (CJ [6,7] PassesOwn.never rfl (nJ T.range_ (aQ (wx (mQ CQ (kQ (K:=K) rfl) T.len_ PySem.boot_len (aQ (wn 4) bQ))) bQ)) (wQ (i:=6) S.nd rfl (Or.inl rfl)) (dQ (xQ (i:=7) S.nd rfl (Or.inl rfl) (w_bin gQ eQ (wx (w_bin gQ eQ (wx (IK rfl (wn 4) (wn 6))) (wx (zQ (aQ (wx (w_bin wZ tZ (wx cQ) (wx (GQ rfl (wn 4) (wn 6))))) bQ))))) (wx (JK rfl (wn 4) (wx (w_bin gQ eQ (wn 6) (wx cQ)))))))
     (nQ (LX (zF yX rfl PySem.F.slot_list_append PySem.F.type_list_append vX (wn 5) (aQ (wx (w_bin gQ eQ (wx (w_bin gQ eQ (wx (rX rfl (wn 1) (wn 2))) (wx (RQ (aQ (wx (zQ (aQ (wx (wv 3)) (aQ (wx (wv 7)) bQ)))) bQ))))) (wx (sX rfl (wn 1) (wx (w_bin gQ eQ (wn 2) (wx cQ))))))) bQ))))))
     (dQ (CJ [8] PassesOwn.never rfl (DZ rfl (zQ (aQ (wx (MY (wx cQ))) (aQ (wx cQ) bQ)))) (wQ (i:=8) S.nd rfl (Or.inl rfl)) (dQ (LX (zF yX rfl PySem.F.slot_list_append PySem.F.type_list_append vX (wn 5) (aQ (wx (w_bin gQ eQ (wx (w_bin gQ eQ (wx (rX rfl (wn 1) (wn 2))) (wx (RQ (aQ (wx (zQ (aQ (wx (zQ (aQ (wx (w_bin gQ eQ (wx (GQ rfl (wn 3) (wx cQ))) (wn 8))) (aQ (wx (GQ rfl (wn 3) (wx cQ))) bQ)))) (aQ (wx (wv 4)) bQ)))) bQ))))) (wx (sX rfl (wn 1) (wx (w_bin gQ eQ (wn 2) (wx cQ))))))) bQ)))
     (nQ (LX (zF yX rfl PySem.F.slot_list_append PySem.F.type_list_append vX (wn 5) (aQ (wx (w_bin gQ eQ (wx (w_bin gQ eQ (wx (rX rfl (wn 1) (wn 2))) (wx (RQ (aQ (wx (zQ (aQ (wx (zQ (aQ (wx (GQ rfl (wn 3) (wx cQ))) (aQ (wx (w_bin gQ eQ (wx (GQ rfl (wn 3) (wx cQ))) (wn 8))) bQ)))) (aQ (wx (wv 4)) bQ)))) bQ))))) (wx (sX rfl (wn 1) (wx (w_bin gQ eQ (wn 2) (wx cQ))))))) bQ))))))
     (nQ (CJ [9] PassesOwn.never rfl (DZ rfl (wv 5)) (wQ (i:=9) S.nd rfl (Or.inl rfl)) (nQ (tX (FQ yJ hZ (wx (YX C.holds_parted (hr.mono (by first|decide|omega)) (aQ (wx (cX IX (aX (K:=K) rfl) T.list_ boot_list (aQ (wn 0) bQ))) (aQ (wn 9) bQ)))) (wx dZ)) (nQ (AQ dZ)) UQ)))))))))
     (nQ (AQ dZ)))) ?_ ?_
 ·rintro args Qd ⟨ns,ps,rfl,_⟩;rfl
 ·rintro args Qd ⟨ns,ps,rfl,hw2,hn,hps,q⟩
  refine ⟨BQ rfl,?_⟩
  have hwl:=NX ns
  have hp:=WV hw2 (by omega) hps
  have hpe:=iZ ns ps
  generalize rows ns ps=es at *
  have hone:=hp.one
  have hlen:=hp.len
  have hml:(es.map fQ).length=es.length:=p0 _
  with_reducible refine MQ (λρ=>ρ=[some (.fz (XQ ns)),some (.fz (SQ es)),none,none,none,none,none,none,none,none]) ?_ ?_
  ·intro N hN
   refine ⟨by rw[hml];omega,by rw[hml];omega,?_⟩
   refine mJ (λrest ρ=>(∀d∈rest,∃j:Nat,j < es.length/\d=.int j)/\ρ=[some (.fz (XQ ns)),some (.fz (SQ es)),none,none,none,none,none,none,none,none]) ?_ ?_ ⟨λd hd=>?_,rfl⟩
   ·rintro d ds ρ ⟨h,rfl⟩ N' hN'
    obtain⟨j,hj,rfl⟩:=h d G0
    have hrest:∀d∈ds,∃j:Nat,j < es.length/\d=.int j:=λd hd=>h d (J0 _ hd)
    obtain⟨e,he⟩:∃e,es[j]?=some e:=⟨_,A0 hj⟩
    have hem:e∈es:=A1 he
    obtain⟨st,fl⟩:=e
    have hsm:=hp.sm _ hem
    obtain⟨s1,s2,es1,h01,h12,h2⟩:=hp.st _ hem
    have es1:st=[s1,s2]:=es1
    subst es1
    have hat:TJ (es.map fQ) (j:Int)=some (fQ ([s1,s2],fl)):=YQ (by rw[R0,he];rfl)
    have hfl:=hp.fl _ hem
    have hbit:=hp.bit _ hem
    simp only at hfl hbit
    have hfm:(fl.map j0).length=fl.length:=p0 _
    have e1:(if ((j:Nat):Int) < 0 then ((j:Int)+(es.map fQ).length).toNat else (j:Int).toNat)=j:=lW
    have e2:(if ((j:Nat):Int)+1 < 0 then ((j:Int)+1+(es.map fQ).length).toNat else ((j:Int)+1).toNat)=j+1:=mW
    have put:∀{r:mZ},Sm r->r≠([s1,s2],fl)->vJ (.list ((es.map fQ).take (if ((j:Nat):Int) < 0 then ((j:Int)+(es.map fQ).length).toNat else (j:Int).toNat)++[fQ r]++(es.map fQ).drop (if ((j:Nat):Int)+1 < 0 then ((j:Int)+1+(es.map fQ).length).toNat else ((j:Int)+1).toNat)))=true/\(P3 ((es.map fQ).take (if ((j:Nat):Int) < 0 then ((j:Int)+(es.map fQ).length).toNat else (j:Int).toNat)++[fQ r]++(es.map fQ).drop (if ((j:Nat):Int)+1 < 0 then ((j:Int)+1+(es.map fQ).length).toNat else ((j:Int)+1).toNat)))≠SQ es:=λ{r} h1 h2=>by
     have B:=Bad.entry hp he h1 h2
     rw[e1,e2,KK]
     exact ⟨B.ok,B.ne⟩
    with_reducible refine rC rfl ?_
    with_reducible refine MQ (λρ=>ρ=[some (.fz (XQ ns)),some (.fz (SQ es)),some (.fz (.int j)),some (.fz (tQ [s1,s2])),some (.fz (tQ fl)),none,none,none,none,none]) ?_ ?_
    ·intro M hM
     exact ⟨fQ ([s1,s2],fl),hat,rfl,hM _ rfl⟩
    rintro _ rfl
    with_reducible refine MQ (λρ=>∃ds:List PyData,ds.length<=2/\(∀d∈ds,vJ d=true/\d≠SQ es)/\ρ=[some (.fz (XQ ns)),some (.fz (SQ es)),some (.fz (.int j)),some (.fz (tQ [s1,s2])),some (.fz (tQ fl)),some (.ow (.list ds)),none,none,none,none]) ?_ ?_
    ·intro M hM
     refine ⟨iQ (by simp;omega),_,hat,iQ (by simp;omega),iQ (by simp;omega),?_⟩
     refine hM _ ⟨_,?_,?_,rfl⟩
     ·exact B0 2
     ·intro d hd
      simp only[K0,G1,or_false]at hd
      rcases hd with rfl|rfl
      ·have B:=Bad.rows (es:=es) (rs:=es.take j++es.drop (j+1)) (λz=>by
         have:=congrArg L4 z
         rw[Q0,E1,P1]at this
         omega) (by rw[Q0,E1,P1];omega) (λr hr=>hp.sm r (by
         rcases V0.mp hr with hz|hz
         · exact T3 hz
         · exact A3 hz))
       show vJ (.list ((es.map fQ).take (if ((j:Nat):Int) < 0 then ((j:Int)+(es.map fQ).length).toNat else (j:Int).toNat)++(es.map fQ).drop (if ((j:Nat):Int)+1 < 0 then ((j:Int)+1+(es.map fQ).length).toNat else ((j:Int)+1).toNat)))=true/\(P3 ((es.map fQ).take (if ((j:Nat):Int) < 0 then ((j:Int)+(es.map fQ).length).toNat else (j:Int).toNat)++(es.map fQ).drop (if ((j:Nat):Int)+1 < 0 then ((j:Int)+1+(es.map fQ).length).toNat else ((j:Int)+1).toNat)))≠SQ es
       rw[e1,e2,aD]
       exact ⟨B.ok,B.ne⟩
      ·have B:=Bad.rows (es:=es) (rs:=es.take j++([s1,s2],fl) :: es.drop j) (λz=>by
         have:=congrArg L4 z
         rw[WX _ _ _ _ (by omega) (by omega) (by omega)]at this
         omega) (by rw[WX _ _ _ _ (by omega) (by omega) (by omega)];omega) (λr hr=>hp.sm r (by
         rcases VZ hr with rfl|hz
         · exact hem
         · exact hz))
       show vJ (.list ((es.map fQ).take (if ((j:Nat):Int) < 0 then ((j:Int)+(es.map fQ).length).toNat else (j:Int).toNat)++[fQ ([s1,s2],fl)]++(es.map fQ).drop (if ((j:Nat):Int) < 0 then ((j:Int)+(es.map fQ).length).toNat else (j:Int).toNat)))=true/\(P3 ((es.map fQ).take (if ((j:Nat):Int) < 0 then ((j:Int)+(es.map fQ).length).toNat else (j:Int).toNat)++[fQ ([s1,s2],fl)]++(es.map fQ).drop (if ((j:Nat):Int) < 0 then ((j:Int)+(es.map fQ).length).toNat else (j:Int).toNat)))≠SQ es
       rw[e1,KK]
       exact ⟨B.ok,B.ne⟩
    rintro _ ⟨ds0,hd0,hk0,rfl⟩
    have snoc:∀{ds:List PyData}{x:PyData},(∀d∈ds,vJ d=true/\d≠SQ es)->(vJ x=true/\x≠SQ es)->∀d∈ds++[x],vJ d=true/\d≠SQ es:=λh1 h2 d hd=>by
     rcases V0.mp hd with z|z
     ·exact h1 d z
     ·rw[Y0.mp z];exact h2
    with_reducible refine MQ (λρ=>∃ds:List PyData,ds.length<=202/\(∀d∈ds,vJ d=true/\d≠SQ es)/\ρ=[some (.fz (XQ ns)),some (.fz (SQ es)),some (.fz (.int j)),some (.fz (tQ [s1,s2])),some (.fz (tQ fl)),some (.ow (.list ds)),none,none,none,none]) ?_ ?_
    ·intro M hM
     refine ⟨by rw[hfm];omega,by rw[hfm];omega,?_⟩
     refine mJ (λrest ρ=>∃ds:List PyData,ds.length+rest.length<=2+fl.length/\(∀d∈ds,vJ d=true/\d≠SQ es)/\(∀d∈rest,∃i:Nat,i < fl.length/\d=.int i)/\ρ=[some (.fz (XQ ns)),some (.fz (SQ es)),some (.fz (.int j)),some (.fz (tQ [s1,s2])),some (.fz (tQ fl)),some (.ow (.list ds)),none,none,none,none]) ?_ ?_ ⟨ds0,?_,hk0,?_,rfl⟩
     ·rintro d rest ρ ⟨ds,hl,hk,hr,rfl⟩ N2 hN2
      obtain⟨i,hi,rfl⟩:=hr d G0
      obtain⟨x,hx⟩:∃x,fl[i]?=some x:=⟨_,A0 hi⟩
      with_reducible refine rC rfl ?_
      with_reducible refine MQ (λρ=>∃fr:List Int,fr≠fl/\fr.length<=300/\(∀z∈fr,z.natAbs < 10000)/\ρ=[some (.fz (XQ ns)),some (.fz (SQ es)),some (.fz (.int j)),some (.fz (tQ [s1,s2])),some (.fz (tQ fl)),some (.ow (.list ds)),some (.fz (.int i)),some (.fz (tQ fr)),none,none]) ?_ ?_
      ·intro M2 hM2
       have hx1:=hbit x (A1 hx)
       refine ⟨by omega,j0 x,YQ (by rw[R0,hx];rfl),?_⟩
       refine ⟨iQ (by simp;omega),by show (0:Int)<=(i:Int)+1;omega,iQ (by simp;omega),?_⟩
       refine hM2 _ ⟨fl.take i++(1 - x) :: fl.drop (i+1),kW hx (by omega),?_,λz hz=>?_,?_⟩
       ·rw[WX _ _ _ _ (by omega) (by omega) (by omega)];omega
       ·rcases VZ hz with rfl|hz
        ·omega
        ·have:=hbit z hz;omega
       ·have e1:((i:Int)).toNat=i:=by omega
        have e2:((i:Int)+1).toNat=i+1:=by omega
        have e:(fl.map j0).take (i:Int).toNat++[j0 (1 - x)]++(fl.map j0).drop ((i:Int)+1).toNat=(fl.take i++(1 - x) :: fl.drop (i+1)).map j0:=by
         rw[e1,e2];simp[T4,E4]
        show _=[_,_,_,_,_,_,_,some (Sl.fz (W1 ((fl.take i++(1 - x) :: fl.drop (i+1)).map j0))),_,_]
        rw[<- e]
        rfl
      rintro _ ⟨fr,f1,f2,f3,rfl⟩
      have hl':ds.length+(rest.length+1)<=2+fl.length:=by simpa using hl
      refine ⟨iQ (by simp;omega),iQ (by simp;omega),O2 (show ds.length<=1000 by omega) (by decide),?_⟩
      have B:=put (r:=([s1,s2],fr)) ⟨hsm.1,f2,hsm.2.2.1,f3⟩ (λz=>f1 (congrArg Prod.snd z))
      exact hN2 _ ⟨ds++[_],by simp;omega,snoc hk B,λd hd=>hr d (J0 _ hd),rfl⟩
     ·rintro ρ ⟨ds,hl,hk,_,rfl⟩
      exact hM _ ⟨ds,by simp at hl;omega,hk,rfl⟩
     ·rw[PQ,p0,G4,hfm];omega
     ·intro d hd
      rw[PQ]at hd
      obtain⟨k,hk,rfl⟩:=T0.mp hd
      have:=Q3.mp hk
      rw[hfm]at this
      exact ⟨k,by omega,by rw[m8]⟩
    rintro _ ⟨ds1,hd1,hk1,rfl⟩
    have smst:∀u v:Int,u.natAbs < 10000->v.natAbs < 10000->Sm ([u,v],fl):=λu v hu hv=>⟨by show 2<=5;decide,hsm.2.1,λx hx=>by
      simp only[K0,G1,or_false]at hx
      rcases hx with rfl|rfl
      · exact hu
      · exact hv,hsm.2.2.2⟩
    with_reducible refine MQ (λρ=>∃ds:List PyData,(∀d∈ds,vJ d=true/\d≠SQ es)/\ρ=[some (.fz (XQ ns)),some (.fz (SQ es)),some (.fz (.int j)),some (.fz (tQ [s1,s2])),some (.fz (tQ fl)),some (.ow (.list ds)),none,none,none,none]) ?_ ?_
    ·intro M hM
     refine BM (ρ1:=[some (.fz (XQ ns)),some (.fz (SQ es)),some (.fz (.int j)),some (.fz (tQ [s1,s2])),some (.fz (tQ fl)),some (.ow (.list ds1)),none,none,none,none]) [.int (-1),.int 1] (λQ hQ=>hQ) ?_
     have hby:∀d∈[j0 (-1),j0 1],∃b:Int,d=.int b/\(b=-1\/b=1):=by
      intro d hd
      simp only[K0,G1,or_false]at hd
      rcases hd with rfl|rfl
      ·exact ⟨_,rfl,.inl rfl⟩
      ·exact ⟨_,rfl,.inr rfl⟩
     have hbl:[j0 (-1),j0 1].length=2:=rfl
     generalize [j0 (-1),j0 1]=L at hby hbl ⊢
     refine mJ (λrest ρ=>∃ds:List PyData,ds.length+2 * rest.length<=210/\(∀d∈ds,vJ d=true/\d≠SQ es)/\(∀d∈rest,∃b:Int,d=.int b/\(b=-1\/b=1))/\ρ=[some (.fz (XQ ns)),some (.fz (SQ es)),some (.fz (.int j)),some (.fz (tQ [s1,s2])),some (.fz (tQ fl)),some (.ow (.list ds)),none,none,none,none]) ?_ ?_ ⟨ds1,by omega,hk1,hby,rfl⟩
     ·rintro d rest ρ ⟨ds,hl,hk,hr,rfl⟩ N2 hN2
      obtain⟨b,rfl,hb⟩:=hr d G0
      have hl':ds.length+2 * (rest.length+1)<=210:=by simpa using hl
      have hr':∀d∈rest,∃b:Int,d=.int b/\(b=-1\/b=1):=λd hd=>hr d (J0 _ hd)
      with_reducible refine rC rfl ?_
      with_reducible refine MQ (λρ=>∃x:PyData,(vJ x=true/\x≠SQ es)/\ρ=[some (.fz (XQ ns)),some (.fz (SQ es)),some (.fz (.int j)),some (.fz (tQ [s1,s2])),some (.fz (tQ fl)),some (.ow (.list (ds++[x]))),none,none,some (.fz (.int b)),none]) ?_ ?_
      ·intro M2 hM2
       refine ⟨_,rfl,_,rfl,iQ (by simp;omega),iQ (by simp;omega),O2 (show ds.length<=1000 by omega) (by decide),?_⟩
       exact hM2 _ ⟨_,put (r:=([s1+b,s2],fl)) (smst _ _ (by omega) (by omega)) (λz=>by
         have z:[s1+b,s2]=[s1,s2]:=congrArg Prod.fst z
         injection z with z _
         omega),rfl⟩
      rintro _ ⟨x,hx,rfl⟩
      refine ⟨_,rfl,_,rfl,iQ (by simp;omega),iQ (by simp;omega),O2 (show (ds++[x]).length<=1000 by simp;omega) (by decide),?_⟩
      have B:=put (r:=([s1,s2+b],fl)) (smst _ _ (by omega) (by omega)) (λz=>by
          have z:[s1,s2+b]=[s1,s2]:=congrArg Prod.fst z
          injection z with _ z
          injection z with z _
          omega)
      exact hN2 _ ⟨ds++[x]++[_],by simp;omega,snoc (snoc hk hx) B,hr',rfl⟩
     ·rintro ρ ⟨ds,hl,hk,_,rfl⟩
      exact hM _ ⟨ds,hk,rfl⟩
    rintro _ ⟨ds2,hk2,rfl⟩
    refine mJ (λrest ρ=>(∀d∈rest,vJ d=true/\d≠SQ es)/\ρ=[some (.fz (XQ ns)),some (.fz (SQ es)),some (.fz (.int j)),some (.fz (tQ [s1,s2])),some (.fz (tQ fl)),some (.fz (.list ds2)),none,none,none,none]) ?_ ?_ ⟨hk2,rfl⟩
    ·rintro d rest ρ ⟨h,rfl⟩ N2 hN2
     have hd:=h d G0
     refine ⟨ns,d,ps,rfl,by omega,by omega,hd.1,hps,λo=>?_⟩
     rw[hpe,sZ hd.2]
     exact hN2 _ ⟨λd hd=>h d (J0 _ hd),rfl⟩
    ·rintro ρ ⟨_,rfl⟩
     exact hN' _ ⟨hrest,rfl⟩
   ·rintro ρ ⟨_,rfl⟩
    exact hN _ rfl
   ·rw[PQ]at hd
    obtain⟨k,hk,rfl⟩:=T0.mp hd
    have:=Q3.mp hk
    rw[hml]at this
    exact ⟨k,by omega,by rw[m8]⟩
  rintro _ rfl
  exact q _
end
theorem DM{i:Nat}{a:TD}{E:DE}{ρ:Ev}(J:Sl->Ev->Prop)(h1:∀Q:Sl->Ev->Prop,(∀r ρ',J r ρ'->Q r ρ')->a ρ Q)(h2:∀r ρ',J r ρ'->match ρ'[i]? with
  | some (some (.io _))=>False
  | some _=>E.nx (ρ'.set i (some r))
  | none=>False):wD i a E ρ:=h1 _ h2
theorem EM{a b:TD}{ρ:Ev}{Q:Sl->Ev->Prop}(J1:List PyData->Ev->Prop)(J2:List PyData->Ev->Prop)(h1:∀Q':Sl->Ev->Prop,(∀l ρ',J1 l ρ'->Q' (.ow (.list l)) ρ')->a ρ Q')(h2:∀l ρ',J1 l ρ'->∀Q':Sl->Ev->Prop,(∀m ρ2,J2 m ρ2->Q' (.ow (.list m)) ρ2)->b ρ' Q')
  (h3:∀l ρ1 m ρ2,J1 l ρ1->J2 m ρ2->l.length+m.length<=sizeLine/\Q (.ow (.list (l++m))) ρ2):fY [.inr a,.inr b] (o2 cE) ρ Q :=
 h1 _ λl ρ1 j1=>h2 l ρ1 j1 _ λm ρ2 j2=>h3 l ρ1 m ρ2 j1 j2
theorem SI{α:Type}(l:List α)(x y:α):TJ (l++[x,y]) (-1)=some y:=by
 unfold TJ wH
 rw[if_neg (by decide),Q0,if_pos (by simp;omega)]
 show (l++[x,y])[((-1:Int)+((l.length+2:Nat):Int)).toNat]?=_
 rw[show ((-1:Int)+((l.length+2:Nat):Int)).toNat=l.length+1 by omega]
 simp
theorem UI{α:Type}(l:List α)(x y:α):TJ (l++[x,y]) (-2)=some x:=by
 unfold TJ wH
 rw[if_neg (by decide),Q0,if_pos (by simp;omega)]
 show (l++[x,y])[((-2:Int)+((l.length+2:Nat):Int)).toNat]?=_
 rw[show ((-2:Int)+((l.length+2:Nat):Int)).toNat=l.length by omega]
 simp
theorem yx{α:Type}{l:List α}(h:2<=l.length):∃(m:List α) (x y:α),l=m++[x,y]:=by
 refine ⟨l.take (l.length - 2),l[l.length - 2]'(by omega),l[l.length - 1]'(by omega),?_⟩
 refine m6 (by simp;omega) λi h1 h2=>?_
 by_cases hi:i < l.length - 2
 ·rw[List.getElem_append_left (by simp;omega)]
  simp
 ·rw[List.getElem_append_right (by simp;omega)]
  by_cases hi':i=l.length - 2
  ·subst hi'
   simp
  ·have:i=l.length - 1:=by omega
   subst this
   have e:l.length - 1 - (l.take (l.length - 2)).length=1:=by simp;omega
   simp only[e]
   rfl
section
variable {P:Program}{w:World}{K:q0}{mg:Str->Option Value}{base:Heap}
structure CalsLo(P:Program)(w:World)(K:q0)(mg:Str->Option Value)(base:Heap):Prop where
 law_draw:Cal P w K mg base 1 "_law_draw" ["_law_pen_here","_law_many"] (lQ K fW)
 law_parting:Cal P w K mg base 2 "_law_parting" ["_law_numbers"] (lQ K Av)
 holds_parted:Cal P w K mg base 4 "holds_parted" ["numbers","thing"] (lQ K zv)
noncomputable def ZM:Con:=λargs Q=>∃(a b c:Int),args=[.io (uQ a b c)]/\0<=a/\0<=b/\0<=c /\
 ∀(a' b' c':Int) (o:Ev),0<=a'->0<=b'->0<=c'->Q (.fz (.bool true)) (some (.io (uQ a' b' c')) :: o)
theorem FM:FnScope ["_law_pen_here","_law_numbers","_law_some","_law_spots","_law_spot","_law_ends","_law_flags","_law_at","_law_bent","_law_one","_law_other"] ["_law_pen_here"] (jQ (top 29)):=⟨rfl,rfl,rfl,by decide +kernel,rfl,by decide +kernel,by decide +kernel⟩
theorem VI{f:Addr}{fd:FuncData}(F:Fun K "_law_long_right" "_law_long_right" (top 29) f fd)(T:Txt mg)(C:CalsLo P w K mg base):FnOk P w K mg base WZ 5 f fd ["_law_pen_here"] (lQ K ZM):=by
 have S:=FM
 refine OK F S (λcdv A outer s H E hr=>(dQ (CV (i:=1) S.nd rfl rfl rfl (own:=["_law_k"]) (fr:=[0]) (by kernel_rfl) (nJ T.range_ (aQ (wx (w_bin gQ eQ (wx cQ) (wx (NQ C.law_draw (hr.mono (by first|decide|omega)) (aQ (wn 0) (aQ (wx cQ) bQ)))))) bQ)) (λ_ _ _ _=>(wQ (i:=0) (by decide +kernel:K3 (["_law_k","_law_pen_here"]:List Str)) rfl (Or.inl rfl))) (λ_ _ _ _=>Fx) (λ_ _ _ _=>(w_bin wZ tZ (wx (NQ C.law_draw (hr.mono (by first|decide|omega)) (aQ (wn 1) (aQ (wx cQ) bQ)))) (wx cQ))))
     (dQ (LX (zF QW rfl PySem.F.slot_list_insert PySem.F.type_list_insert KW (wn 1) (aQ (wx (NQ C.law_draw (hr.mono (by first|decide|omega)) (aQ (wn 0) (aQ (wx (w_bin gQ eQ (wx (mQ CQ (kQ (K:=K) rfl) T.len_ PySem.boot_len (aQ (wn 1) bQ))) (wx cQ))) bQ)))) (aQ (wx (w_bin gQ eQ (wx cQ) (wx (mQ yj (PU (K:=K) rfl rfl) T.max_ boot_max (aQ (wn 1) bQ))))) bQ))))
     (dQ (xQ (i:=2) S.nd rfl (Or.inr rfl) (DF C.law_parting (hr.mono (by first|decide|omega)) (aQ (wn 1) bQ)))
     (dQ (tX (FQ yJ hZ (wx (YX C.holds_parted (hr.mono (by first|decide|omega)) (aQ (wx (cX IX (aX (K:=K) rfl) T.list_ boot_list (aQ (wn 1) bQ))) (aQ (wn 2) bQ)))) (wx dZ)) (nQ (AQ dZ)) UQ)
     (dQ (xQ (i:=3) S.nd rfl (Or.inl rfl) (w_bin gQ eQ (wx (sX rfl (wx (bI rfl T.list_ T.range_ (aQ (wx (mQ CQ (kQ (K:=K) rfl) T.len_ PySem.boot_len (aQ (wn 2) bQ))) bQ))) (wx (MY (wx cQ))))) (wx (xZ rfl (own:=["_law_turn"]) (fr:=[0,2]) (by kernel_rfl) (nJ T.range_ (aQ (wx cQ) bQ)) (λ_ _ _ _=>(wQ (i:=0) (by decide +kernel:K3 (["_law_turn","_law_pen_here","_law_some"]:List Str)) rfl (Or.inl rfl))) (λ_ _ _ _=>Fx) (λ_ _ _ _=>(NQ C.law_draw (hr.mono (by first|decide|omega)) (aQ (wn 1) (aQ (wx (mQ CQ (kQ (K:=K) rfl) T.len_ PySem.boot_len (aQ (wn 2) bQ))) bQ))))))))
     (dQ (CJ [4,7,8,5,6] PassesOwn.never rfl (DZ rfl (wv 3)) (wQ (i:=4) S.nd rfl (Or.inl rfl)) (dQ (MJ (GQ rfl (wn 2) (wn 4)) (BJ rfl rfl (QQ (wQ (i:=5) S.nd rfl (Or.inl rfl)) (QQ (wQ (i:=6) S.nd rfl (Or.inl rfl)) kZ))))
     (dQ (xQ (i:=7) S.nd rfl (Or.inl rfl) (GQ rfl (wx (RQ (aQ (wx (w_bin wZ tZ (wx (mQ CQ (kQ (K:=K) rfl) T.len_ PySem.boot_len (aQ (wn 6) bQ))) (wx cQ))) (aQ (wx (NQ C.law_draw (hr.mono (by first|decide|omega)) (aQ (wn 0) (aQ (wx (mQ CQ (kQ (K:=K) rfl) T.len_ PySem.boot_len (aQ (wn 6) bQ))) bQ)))) bQ)))) (wx (NQ C.law_draw (hr.mono (by first|decide|omega)) (aQ (wn 0) (aQ (wx cQ) bQ))))))
     (dQ (xQ (i:=8) S.nd rfl (Or.inl rfl) (w_bin gQ eQ (wx (w_bin gQ eQ (wx (IK rfl (wn 6) (wn 7))) (wx (zQ (aQ (wx (w_bin wZ tZ (wx cQ) (wx (GQ rfl (wn 6) (wn 7))))) bQ))))) (wx (JK rfl (wn 6) (wx (w_bin gQ eQ (wn 7) (wx cQ)))))))
     (nQ (tX (FQ yJ hZ (wx (YX C.holds_parted (hr.mono (by first|decide|omega)) (aQ (wx (cX IX (aX (K:=K) rfl) T.list_ boot_list (aQ (wn 1) bQ))) (aQ (wx (w_bin gQ eQ (wx (w_bin gQ eQ (wx (rX rfl (wn 2) (wn 4))) (wx (RQ (aQ (wx (zQ (aQ (wx (wv 5)) (aQ (wx (wv 8)) bQ)))) bQ))))) (wx (sX rfl (wn 2) (wx (w_bin gQ eQ (wn 4) (wx cQ))))))) bQ)))) (wx dZ)) (nQ (AQ dZ)) UQ))))))
     (dQ (tX (ww (lG (FQ JY pY (wx (mQ CQ (kQ (K:=K) rfl) T.len_ PySem.boot_len (aQ (wn 2) bQ))) (wx cQ)) (NY (FQ JX (nX (K:=K) rfl hr.units) (wx (GQ rfl (wx (GQ rfl (wn 2) (wx (MY (wx cQ))))) (wx cQ))) (wx (GQ rfl (wx (GQ rfl (wn 2) (wx (MY (wx cQ))))) (wx cQ))))))) (nQ (AQ dZ)) UQ)
     (dQ (MJ (sX rfl (wn 2) (wx (MY (wx cQ)))) (FE rfl rfl (QQ (wQ (i:=9) S.nd rfl (Or.inl rfl)) (QQ (wQ (i:=10) S.nd rfl (Or.inl rfl)) kZ))))
     (nQ (AQ (LU nj mj (wx (YX C.holds_parted (hr.mono (by first|decide|omega)) (aQ (wx (cX IX (aX (K:=K) rfl) T.list_ boot_list (aQ (wn 1) bQ))) (aQ (wx (w_bin gQ eQ (wx (rX rfl (wn 2) (wx (MY (wx cQ))))) (wx (RQ (aQ (wx (zQ (aQ (wx (GQ rfl (wn 9) (wx cQ))) (aQ (wx (GQ rfl (wn 10) (wx cQ))) bQ)))) (aQ (wx (zQ (aQ (wx (GQ rfl (wn 10) (wx cQ))) (aQ (wx (GQ rfl (wn 9) (wx cQ))) bQ)))) bQ)))))) bQ)))) (wx dZ))))))))))))) ?_ ?_
 ·rintro args Qd ⟨a,b,c,rfl,_⟩;rfl
 ·rintro args Qd ⟨a,b,c,rfl,ha,hb,hc,q⟩
  refine ⟨BQ rfl,?_⟩
  with_reducible refine MQ (λρ=>∃(ns:List Int) (a1 b1 c1:Int),1<=ns.length/\ns.length<=119/\0<=a1/\0<=b1/\0<=c1/\ρ=[some (.io (uQ a1 b1 c1)),some (.ow (XQ ns)),none,none,none,none,none,none,none,none,none]) ?_ ?_
  ·intro N hN
   refine ⟨a,b,c,_,rfl,ha,hb,hc,by decide,by decide,λr a1 b1 c1 _ r0 r1 ha1 hb1 hc1=>?_⟩
   refine ⟨by omega,by omega,by rw[PQ,p0,G4];exact iQ (by omega),xF (λrest acc τ=>∃(cs:List Int) (a4 b4 c4:Int),τ=[none,some (.io (uQ a4 b4 c4))]/\acc=cs.map j0/\(cs.length+rest.length:Int)=20+r/\0<=a4/\0<=b4/\0<=c4) ?_ ?_
     ⟨[],a1,b1,c1,rfl,rfl,by simp[PQ];omega,ha1,hb1,hc1⟩⟩
   ·rintro d ds acc τ ⟨cs,a4,b4,c4,rfl,rfl,hlen,ha4,hb4,hc4⟩ N' hN'
    refine ⟨a4,b4,c4,_,rfl,ha4,hb4,hc4,by decide,by decide,λx a5 b5 c5 _ x0 x1 ha5 hb5 hc5=>?_⟩
    exact hN' _ _ ⟨cs++[x - 200],a5,b5,c5,rfl,by simp[Sl.d],by simp at hlen ⊢;omega,ha5,hb5,hc5⟩
   ·rintro acc τ ⟨cs,a4,b4,c4,rfl,rfl,hlen,ha4,hb4,hc4⟩
    simp at hlen
    exact hN _ ⟨cs,a4,b4,c4,by omega,by omega,ha4,hb4,hc4,rfl⟩
  rintro _ ⟨ns,a1,b1,c1,hn1,hn2,ha1,hb1,hc1,rfl⟩
  have hnm:(ns.map j0).length=ns.length:=p0 _
  with_reducible refine MQ (λρ=>∃(ms:List Int) (a2 b2 c2:Int),2<=(iX ms).length/\ms.length<=120/\0<=a2/\0<=b2/\0<=c2/\ρ=[some (.io (uQ a2 b2 c2)),some (.ow (XQ ms)),none,none,none,none,none,none,none,none,none]) ?_ ?_
  ·intro N hN
   refine ⟨a1,b1,c1,_,rfl,ha1,hb1,hc1,by rw[hnm];omega,by rw[hnm];omega,λi a2 b2 c2 _ i0 i1 ha2 hb2 hc2=>?_⟩
   rw[hnm]at i1
   obtain⟨k,rfl⟩:=K1 i0
   refine ⟨ns,rfl,by omega,λM hM hMx=>⟨by rw[hnm];exact O2 (show ns.length<=139 by omega) (by decide),i0,by rw[hnm];omega,?_⟩⟩
   have e:(ns.map j0).take (k:Int).toNat++j0 (1+M) :: (ns.map j0).drop (k:Int).toNat=(ns.take k++(1+M) :: ns.drop k).map j0:=by
    rw[show (k:Int).toNat=k by omega];simp[T4,E4]
   refine hN _ ⟨ns.take k++(1+M) :: ns.drop k,a2,b2,c2,cD k hn1 hMx,?_,ha2,hb2,hc2,?_⟩
   ·rw[Q0,E1,V1,P1];omega
   ·show _=[_,some (Sl.ow (P3 ((ns.take k++(1+M) :: ns.drop k).map j0))),_,_,_,_,_,_,_,_,_]
    rw[<- e]
    rfl
  rintro _ ⟨ms,a2,b2,c2,hw2,hm2,ha2,hb2,hc2,rfl⟩
  have hwl:=NX ms
  with_reducible refine MQ (λρ=>∃ps:List (Int×Int),Prs (iX ms).length ps/\ρ=[some (.io (uQ a2 b2 c2)),some (.ow (XQ ms)),some (.ow (SQ (rows ms ps))),none,none,none,none,none,none,none,none]) ?_ ?_
  ·intro N hN
   refine ⟨ms,rfl,by omega,by omega,λps o hq=>⟨VX (vK ms) _,?_⟩⟩
   rw[iZ]
   exact hN _ ⟨ps,hq,rfl⟩
  rintro _ ⟨ps,hps,rfl⟩
  have hp:=WV hw2 (by omega) hps
  have hpe:=iZ ms ps
  generalize rows ms ps=es at *
  with_reducible refine MQ (λρ=>ρ=[some (.io (uQ a2 b2 c2)),some (.ow (XQ ms)),some (.ow (SQ es)),none,none,none,none,none,none,none,none]) ?_ ?_
  ·intro N hN
   refine ⟨ms,SQ es,ps,rfl,by omega,by omega,sK (nY es).p,hps,λo=>?_⟩
   rw[hpe,SK rfl]
   exact ⟨rfl,hN _ rfl⟩
  rintro _ rfl
  have hone:=hp.one
  have hlen:=hp.len
  have hml:(es.map fQ).length=es.length:=p0 _
  with_reducible refine MQ (λρ=>∃(ks:List Nat) (a3 b3 c3:Int),(∀k∈ks,k < es.length)/\0<=a3/\0<=b3/\0<=c3/\ρ=[some (.io (uQ a3 b3 c3)),some (.ow (XQ ms)),some (.ow (SQ es)),some (.ow (.list (ks.map λ(k:Nat)=>.int k))),none,none,none,none,none,none,none]) ?_ ?_
  ·intro N hN
   refine DM (λr ρ=>∃(ks:List Nat) (a3 b3 c3:Int),(∀k∈ks,k < es.length)/\0<=a3/\0<=b3/\0<=c3/\r=.ow (.list (ks.map λ(k:Nat)=>.int k))/\ρ=[some (.io (uQ a3 b3 c3)),some (.ow (XQ ms)),some (.ow (SQ es)),none,none,none,none,none,none,none,none]) (λQ hQ=>?_) ?_
   ·refine EM (λl ρ=>ρ=[some (.io (uQ a2 b2 c2)),some (.ow (XQ ms)),some (.ow (SQ es)),none,none,none,none,none,none,none,none]/\∃ks:List Nat,ks.length<=300/\(∀k∈ks,k < es.length)/\l=ks.map λ(k:Nat)=>.int k) (λl ρ=>∃(ks:List Nat) (a3 b3 c3:Int),ks.length<=300/\(∀k∈ks,k < es.length)/\0<=a3/\0<=b3/\0<=c3/\(l=ks.map λ(k:Nat)=>.int k)/\ρ=[some (.io (uQ a3 b3 c3)),some (.ow (XQ ms)),some (.ow (SQ es)),none,none,none,none,none,none,none,none]) ?_ ?_ ?_
    ·intro Q' hQ'
     refine ⟨⟨by decide,by rw[hml];omega⟩,by rw[hml];omega,?_⟩
     refine hQ' _ _ ⟨rfl,(S1 es.length).drop ((-3:Int)+(PQ 0 ((es.map fQ).length:Int).toNat).length).toNat,?_,?_,?_⟩
     ·rw[P1,G4];omega
     ·intro k hk
      exact Q3.mp (A3 hk)
     ·show (PQ 0 ((es.map fQ).length:Int).toNat).drop ((-3:Int)+(PQ 0 ((es.map fQ).length:Int).toNat).length).toNat=_
      generalize ((-3:Int)+(PQ 0 ((es.map fQ).length:Int).toNat).length).toNat=m
      rw[PQ,hml,show ((es.length:Int)).toNat=es.length by omega,E4]
      congr 1
      refine K4 λk _=>?_
      rw[m8]
    ·rintro l ρ' ⟨rfl,_⟩ Q' hQ'
     refine ⟨by decide,by decide,by decide,xF (λrest acc τ=>∃(ks:List Nat) (a4 b4 c4:Int),τ=[none,some (.io (uQ a4 b4 c4)),some (.io (SQ es))]/\(acc=ks.map λ(k:Nat)=>j0 k)/\(∀k∈ks,k < es.length)/\ks.length+rest.length=9/\0<=a4/\0<=b4/\0<=c4) ?_ ?_ ⟨[],a2,b2,c2,rfl,rfl,by simp,rfl,ha2,hb2,hc2⟩⟩
     ·rintro d ds acc τ ⟨ks,a4,b4,c4,rfl,rfl,hk,hlen,ha4,hb4,hc4⟩ N' hN'
      refine ⟨a4,b4,c4,_,rfl,ha4,hb4,hc4,by rw[hml];omega,by rw[hml];omega,λx a5 b5 c5 _ x0 x1 ha5 hb5 hc5=>?_⟩
      rw[hml]at x1
      obtain⟨k,rfl⟩:=K1 x0
      exact hN' _ _ ⟨ks++[k],a5,b5,c5,rfl,by simp[Sl.d],λj hj=>by
        rcases V0.mp hj with z|z
        · exact hk j z
        · rw[Y0.mp z];omega,by simp at hlen ⊢;omega,ha5,hb5,hc5⟩
     ·rintro acc τ ⟨ks,a4,b4,c4,rfl,rfl,hk,hlen,ha4,hb4,hc4⟩
      exact hQ' _ _ ⟨ks,a4,b4,c4,by simp at hlen;omega,hk,ha4,hb4,hc4,rfl,rfl⟩
    ·rintro l ρ1 m ρ2 ⟨_,k1,l1,h1,rfl⟩ ⟨k2,a3,b3,c3,l2,h2,ha3,hb3,hc3,rfl,rfl⟩
     refine ⟨iQ (by simp;omega),hQ _ _ ⟨k1++k2,a3,b3,c3,λk hk=>?_,ha3,hb3,hc3,by rw[E2],rfl⟩⟩
     rcases V0.mp hk with z|z
     ·exact h1 k z
     ·exact h2 k z
   ·rintro r ρ' ⟨ks,a3,b3,c3,hk,ha3,hb3,hc3,rfl,rfl⟩
    exact hN _ ⟨ks,a3,b3,c3,hk,ha3,hb3,hc3,rfl⟩
  rintro _ ⟨ks,a3,b3,c3,hks,ha3,hb3,hc3,rfl⟩
  have hkd:∀d∈ks.map (λ(k:Nat)=>j0 k),∃j:Nat,j < es.length/\d=.int j:=λd hd=>by
   obtain⟨k,hk,rfl⟩:=T0.mp hd
   exact ⟨k,hks k hk,rfl⟩
  generalize ks.map (λ(k:Nat)=>j0 k)=L at hkd ⊢
  with_reducible refine MQ (λρ=>∃(a4 b4 c4:Int),0<=a4/\0<=b4/\0<=c4/\ρ=[some (.io (uQ a4 b4 c4)),some (.ow (XQ ms)),some (.ow (SQ es)),some (.fz (.list L)),none,none,none,none,none,none,none]) ?_ ?_
  ·intro N hN
   refine mJ (λrest ρ=>(∀d∈rest,∃j:Nat,j < es.length/\d=.int j)/\∃(a4 b4 c4:Int),0<=a4/\0<=b4/\0<=c4/\ρ=[some (.io (uQ a4 b4 c4)),some (.ow (XQ ms)),some (.ow (SQ es)),some (.fz (.list L)),none,none,none,none,none,none,none]) ?_ ?_ ⟨hkd,a3,b3,c3,ha3,hb3,hc3,rfl⟩
   ·rintro d ds ρ ⟨h,a4,b4,c4,ha4,hb4,hc4,rfl⟩ N' hN'
    obtain⟨j,hj,rfl⟩:=h d G0
    have hrest:∀d∈ds,∃j:Nat,j < es.length/\d=.int j:=λd hd=>h d (J0 _ hd)
    obtain⟨e,he⟩:∃e,es[j]?=some e:=⟨_,A0 hj⟩
    have hem:e∈es:=A1 he
    obtain⟨st,fl⟩:=e
    have hsm:=hp.sm _ hem
    have hat:TJ (es.map fQ) (j:Int)=some (fQ (st,fl)):=YQ (by rw[R0,he];rfl)
    have hfl:=hp.fl _ hem
    have hbit:=hp.bit _ hem
    obtain⟨h0m,h1m⟩:=hp.both _ hem
    simp only at hfl hbit h0m h1m
    have hf1:1<=fl.length:=e5 h0m
    have hfm:(fl.map j0).length=fl.length:=p0 _
    have e1:(if ((j:Nat):Int) < 0 then ((j:Int)+(es.map fQ).length).toNat else (j:Int).toNat)=j:=lW
    have e2:(if ((j:Nat):Int)+1 < 0 then ((j:Int)+1+(es.map fQ).length).toNat else ((j:Int)+1).toNat)=j+1:=mW
    have put:∀{r:mZ},Sm r->r≠(st,fl)->vJ (.list ((es.map fQ).take (if ((j:Nat):Int) < 0 then ((j:Int)+(es.map fQ).length).toNat else (j:Int).toNat)++[fQ r]++(es.map fQ).drop (if ((j:Nat):Int)+1 < 0 then ((j:Int)+1+(es.map fQ).length).toNat else ((j:Int)+1).toNat)))=true/\(P3 ((es.map fQ).take (if ((j:Nat):Int) < 0 then ((j:Int)+(es.map fQ).length).toNat else (j:Int).toNat)++[fQ r]++(es.map fQ).drop (if ((j:Nat):Int)+1 < 0 then ((j:Int)+1+(es.map fQ).length).toNat else ((j:Int)+1).toNat)))≠SQ es:=λ{r} h1 h2=>by
     have B:=Bad.entry hp he h1 h2
     rw[e1,e2,KK]
     exact ⟨B.ok,B.ne⟩
    with_reducible refine rC rfl ?_
    with_reducible refine MQ (λρ=>ρ=[some (.io (uQ a4 b4 c4)),some (.ow (XQ ms)),some (.ow (SQ es)),some (.fz (.list L)),some (.fz (.int j)),some (.fz (tQ st)),some (.fz (tQ fl)),none,none,none,none]) ?_ ?_
    ·intro M hM
     exact ⟨fQ (st,fl),hat,rfl,hM _ rfl⟩
    rintro _ rfl
    with_reducible refine MQ (λρ=>∃(i:Nat) (a5 b5 c5:Int),i < fl.length/\0<=a5/\0<=b5/\0<=c5/\ρ=[some (.io (uQ a5 b5 c5)),some (.ow (XQ ms)),some (.ow (SQ es)),some (.fz (.list L)),some (.fz (.int j)),some (.fz (tQ st)),some (.fz (tQ fl)),some (.fz (.int i)),none,none,none]) ?_ ?_
    ·intro M hM
     refine ⟨a4,b4,c4,_,rfl,ha4,hb4,hc4,by rw[hfm];omega,by rw[hfm];omega,λr a5 b5 c5 _ r0 r1 ha5 hb5 hc5=>?_⟩
     rw[hfm]at r1
     refine ⟨a5,b5,c5,2,rfl,ha5,hb5,hc5,by decide,by decide,λy a6 b6 c6 _ y0 y1 ha6 hb6 hc6=>?_⟩
     obtain⟨k,rfl⟩:=K1 r0
     rcases (show y=0\/y=1 by omega) with rfl|rfl
     ·refine ⟨.int (((fl.map j0).length:Int) - 1),rfl,?_⟩
      have ez:((fl.map j0).length:Int) - 1=((fl.length - 1:Nat):Int):=by rw[hfm];omega
      rw[ez]
      exact hM _ ⟨fl.length - 1,a6,b6,c6,by omega,ha6,hb6,hc6,rfl⟩
     ·exact ⟨.int k,rfl,hM _ ⟨k,a6,b6,c6,by omega,ha6,hb6,hc6,rfl⟩⟩
    rintro _ ⟨i,a5,b5,c5,hi,ha5,hb5,hc5,rfl⟩
    obtain⟨x,hx⟩:∃x,fl[i]?=some x:=⟨_,A0 hi⟩
    with_reducible refine MQ (λρ=>∃fr:List Int,fr≠fl/\fr.length<=300/\(∀z∈fr,z.natAbs < 10000)/\ρ=[some (.io (uQ a5 b5 c5)),some (.ow (XQ ms)),some (.ow (SQ es)),some (.fz (.list L)),some (.fz (.int j)),some (.fz (tQ st)),some (.fz (tQ fl)),some (.fz (.int i)),some (.fz (tQ fr)),none,none]) ?_ ?_
    ·intro M2 hM2
     have hx1:=hbit x (A1 hx)
     refine ⟨by omega,j0 x,YQ (by rw[R0,hx];rfl),?_⟩
     refine ⟨iQ (by simp;omega),by show (0:Int)<=(i:Int)+1;omega,iQ (by simp;omega),?_⟩
     refine hM2 _ ⟨fl.take i++(1 - x) :: fl.drop (i+1),kW hx (by omega),?_,λz hz=>?_,?_⟩
     ·rw[WX _ _ _ _ (by omega) (by omega) (by omega)];omega
     ·rcases VZ hz with rfl|hz
      ·omega
      ·have:=hbit z hz;omega
     ·have e1:((i:Int)).toNat=i:=by omega
      have e2:((i:Int)+1).toNat=i+1:=by omega
      have e:(fl.map j0).take (i:Int).toNat++[j0 (1 - x)]++(fl.map j0).drop ((i:Int)+1).toNat=(fl.take i++(1 - x) :: fl.drop (i+1)).map j0:=by
       rw[e1,e2];simp[T4,E4]
      show _=[_,_,_,_,_,_,_,_,some (Sl.fz (W1 ((fl.take i++(1 - x) :: fl.drop (i+1)).map j0))),_,_]
      rw[<- e]
      rfl
    rintro _ ⟨fr,f1,f2,f3,rfl⟩
    have B:=put (r:=(st,fr)) ⟨hsm.1,f2,hsm.2.2.1,f3⟩ (λz=>f1 (congrArg Prod.snd z))
    refine ⟨iQ (by simp;omega),iQ (by simp;omega),ms,(P3 ((es.map fQ).take (if ((j:Nat):Int) < 0 then ((j:Int)+(es.map fQ).length).toNat else (j:Int).toNat)++[fQ (st,fr)]++(es.map fQ).drop (if ((j:Nat):Int)+1 < 0 then ((j:Int)+1+(es.map fQ).length).toNat else ((j:Int)+1).toNat))),ps,rfl,by omega,by omega,B.1,hps,λo=>?_⟩
    rw[hpe,sZ B.2]
    exact hN' _ ⟨hrest,a5,b5,c5,ha5,hb5,hc5,rfl⟩
   ·rintro ρ ⟨_,a4,b4,c4,ha4,hb4,hc4,rfl⟩
    exact hN _ ⟨a4,b4,c4,ha4,hb4,hc4,rfl⟩
  rintro _ ⟨a4,b4,c4,ha4,hb4,hc4,rfl⟩
  have q:=λo=>q a4 b4 c4 o ha4 hb4 hc4
  by_cases h2:2<=es.length
  ·obtain⟨l,x,y,rfl⟩:=yx h2
   have em:(l++[x,y]).map fQ=l.map fQ++[fQ x,fQ y]:=by rw[E2];rfl
   have epa:SQ (l++[x,y])=.list (l.map fQ++[fQ x,fQ y]):=congrArg P3 em
   have hpx:=hp.sm x (by simp)
   have hpy:=hp.sm y (by simp)
   with_reducible refine MQ (λρ=>x.2≠y.2/\ρ=[some (.io (uQ a4 b4 c4)),some (.ow (XQ ms)),some (.ow (.list (l.map fQ++[fQ x,fQ y]))),some (.fz (.list L)),none,none,none,none,none,none,none]) ?_ ?_
   ·intro N hN
    rw[epa]
    have n1:=Nice.tup y.2
    have n2:=Nice.tup x.2
    refine eX (λh=>q _) (λh=>⟨fQ y,SI _ _ _,tQ y.2,rfl,fQ x,UI _ _ _,tQ x.2,rfl,n1.p,n2.p,n1.sh (by decide),n2.sh (by decide),wJ _ _,eX (λh=>q _) (λh=>?_)⟩)
    have h:¬sameAll (y.2.map j0) (x.2.map j0)=true:=h
    rw[fZ]at h
    exact hN _ ⟨λz=>h (decide_eq_true z.symm),rfl⟩
   rintro _ ⟨hne,rfl⟩
   have e0:(if (-2:Int) < 0 then ((-2:Int)+(l.map fQ++[fQ x,fQ y]).length).toNat else (-2:Int).toNat)=(l.map fQ).length:=by
    rw[if_pos (by decide),Q0]
    show ((-2:Int)+(((l.map fQ).length+2:Nat):Int)).toNat=_
    omega
   with_reducible refine MQ (λρ=>ρ=[some (.io (uQ a4 b4 c4)),some (.ow (XQ ms)),some (.ow (.list (l.map fQ++[fQ x,fQ y]))),some (.fz (.list L)),none,none,none,none,none,some (.fz (fQ x)),some (.fz (fQ y))]) ?_ ?_
   ·intro N hN
    show sL [t9 9,t9 10] (P3 ((l.map fQ++[fQ x,fQ y]).drop (if (-2:Int) < 0 then ((-2:Int)+(l.map fQ++[fQ x,fQ y]).length).toNat else (-2:Int).toNat))) _ _
    rw[e0,List.drop_left]
    exact ⟨rfl,hN _ rfl⟩
   rintro _ rfl
   have B:=Bad.rows (es:=l++[x,y]) (rs:=l++[(x.1,y.2),(y.1,x.2)]) (λz=>by
     have z:=List.append_cancel_left z
     injection z with z _
     exact hne (congrArg Prod.snd z).symm) (by simp at hlen ⊢;omega) (λr hr=>by
     rcases V0.mp hr with z|z
     · exact hp.sm r (L5 _ z)
     · simp only[K0,G1,or_false]at z
       rcases z with rfl|rfl
       · exact ⟨hpx.1,hpy.2.1,hpx.2.2.1,hpy.2.2.2⟩
       · exact ⟨hpy.1,hpx.2.1,hpy.2.2.1,hpx.2.2.2⟩)
   have e1:SQ (l++[(x.1,y.2),(y.1,x.2)])=.list ((l.map fQ++[fQ x,fQ y]).take (if (-2:Int) < 0 then ((-2:Int)+(l.map fQ++[fQ x,fQ y]).length).toNat else (-2:Int).toNat)++[fQ (x.1,y.2),fQ (y.1,x.2)]):=by
    rw[e0,List.take_left]
    show P3 _=_
    rw[E2]
    rfl
   refine ⟨tQ x.1,rfl,tQ y.2,rfl,tQ y.1,rfl,tQ x.2,rfl,iQ (by simp at hlen ⊢;omega),ms,SQ (l++[(x.1,y.2),(y.1,x.2)]),ps,?_,by omega,by omega,B.ok,hps,λo=>?_⟩
   ·rw[e1]
    rfl
   ·rw[hpe,sZ B.ne]
    exact q _
  ·refine eX (λh=>q _) (λh=>absurd (decide_eq_true (show ((es.map fQ).length:Int) < 2 by rw[hml];omega)) h)
end
theorem vH{s:Str}:(!decide (s=s))=false:=by simp
theorem Bad.repr{es:List mZ}{d:PyData}(h:Bad es d){Q:Sl->Prop}(q:Q (.fz (.str d.shown))):Xj d Q:=by
 rcases h.kd with z|⟨ps,ne,e⟩
 ·exact .inl ⟨z,h.s,h.dp,h.l,q⟩
 ·exact .inr ⟨ps,e,ne,h.s,h.dp,h.l,q⟩
theorem fq{ns:List Int}{n:Nat}(h:1<=ns.length):∃x:Int,(O0 n ((ns.map j0).take 1)).flatten=(O0 n x).map j0:=by
 cases ns with
 | nil=>simp at h
 | cons x l =>
  refine ⟨x,?_⟩
  show (O0 n [j0 x]).flatten=_
  rw[XV,v7]
section
variable {P:Program}{w:World}{K:q0}{mg:Str->Option Value}{base:Heap}
structure CalsL(P:Program)(w:World)(K:q0)(mg:Str->Option Value)(base:Heap):Prop where
 law_pen:Cal P w K mg base 1 "_law_pen" ["_law_script","_law_k"] (lQ K jI)
 law_draw:Cal P w K mg base 1 "_law_draw" ["_law_pen_here","_law_many"] (lQ K fW)
 law_row:Cal P w K mg base 3 "_law_row" ["_law_pen_here","_law_most"] (lQ K lI)
 law_parting:Cal P w K mg base 2 "_law_parting" ["_law_numbers"] (lQ K Av)
 law_spoilt:Cal P w K mg base 4 "_law_spoilt" ["_law_pen_here","_law_numbers","_law_some"] (lQ K NI)
 holds_parted:Cal P w K mg base 4 "holds_parted" ["numbers","thing"] (lQ K zv)
 law_alike_right:Cal P w K mg base 5 "_law_alike_right" ["_law_numbers"] (lQ K XM)
 law_every_one:Cal P w K mg base 5 "_law_every_one" ["_law_numbers","_law_right"] (lQ K YM)
 law_long_right:Cal P w K mg base 5 "_law_long_right" ["_law_pen_here"] (lQ K ZM)
noncomputable def zx:Con:=λargs Q=>∃ns:List Int,args=[.fz (uZ ns)]/\ns.length<=63/\∀o,Q (.fz (.bool true)) o
theorem Fv{K:q0}{H:Hp}{a:Addr}{ns:List Int}(hl:ns.length<=63)(h:SqL K H a (ns.map V.int)):lQ K zx [.ref a] H (λv _=>v=.bl true) λ_ _ _=>False:=by
 refine ⟨⟨H,H,λ_=>none⟩,H,[.fz (uZ ns)],λr _=>r=.fz (.bool true),?_,⟨ns,rfl,hl,λ_=>rfl⟩,?_⟩
 ·refine ⟨rfl,Sub.refl _,Sub.refl _,λa o h=>.inl h,λa o h _=>h,?_,?_,?_,?_,?_,?_⟩
  ·intro i d e
   cases i with
   | zero=>cases e;exact ⟨_,rfl,.scr h⟩
   | succ i=>cases e
  ·intro i s e w
   cases i with
   | zero=>cases e;cases w
   | succ i=>cases e
  ·intro i d a e
   cases i with
   | zero=>cases e
   | succ i=>cases e
  ·intro i a e;cases e
  ·intro i d e
   cases i with
   | zero=>cases e
   | succ i=>cases e
  ·intro i j s t a e w
   cases i with
   | zero=>cases e;cases w
   | succ i=>cases e
 ·intro v H' F' r ρ' _ _ hr e
  subst e
  have hr:Da K F' v (.bool true):=hr
  cases hr
  rfl
theorem XI:FnScope ["_law_script","_law_far_pen","_law_k","_law_pen_here","_law_numbers","_law_some","_law_turn","_law_thing","_law_shown"] ["_law_script"] (jQ (top 30)):=⟨rfl,rfl,rfl,by decide +kernel,rfl,by decide +kernel,by decide +kernel⟩
theorem lC{f:Addr}{fd:FuncData}(F:Fun K "law" "law" (top 30) f fd)(T:Txt mg)(C:CalsL P w K mg base):FnOk P w K mg base WZ 6 f fd ["_law_script"] (lQ K zx):=by
 have S:=XI
 refine OK F S (λcdv A outer s H E hr=>(dQ (xQ (i:=1) S.nd rfl (Or.inl rfl) (YX C.law_pen (hr.mono (by first|decide|omega)) (aQ (wn 0) (aQ (wx cQ) bQ))))
     (dQ (tX (ww (Xv (FQ JX (nX (K:=K) rfl hr.units) (wx (NQ C.law_draw (hr.mono (by first|decide|omega)) (aQ (wn 1) (aQ (wx cQ) bQ)))) (wx cQ)) (Yz (TW (UW (NQ C.law_long_right (hr.mono (by first|decide|omega)) (aQ (wn 1) bQ))))))) (nQ (AQ dZ)) UQ)
     (dQ (CJ [2,3,4,5,6] PassesOwn.never rfl (nJ T.range_ (aQ (wx (mQ Rv (jD rfl) T.max_ boot_max (aQ (wx cQ) (aQ (wx (mQ Rv (kD rfl) T.min_ boot_min (aQ (wx cQ) (aQ (wx (mQ CQ (kQ (K:=K) rfl) T.len_ PySem.boot_len (aQ (wn 0) bQ))) bQ)))) bQ)))) bQ)) (wQ (i:=2) S.nd rfl (Or.inl rfl)) (dQ (xQ (i:=3) S.nd rfl (Or.inl rfl) (YX C.law_pen (hr.mono (by first|decide|omega)) (aQ (wn 0) (aQ (wn 2) bQ))))
     (dQ (xQ (i:=4) S.nd rfl (Or.inl rfl) (NQ C.law_row (hr.mono (by first|decide|omega)) (aQ (wn 3) (aQ (wx cQ) bQ))))
     (dQ (LX (zF QW rfl PySem.F.slot_list_insert PySem.F.type_list_insert KW (wn 4) (aQ (wx (NQ C.law_draw (hr.mono (by first|decide|omega)) (aQ (wn 3) (aQ (wx (w_bin gQ eQ (wx (mQ CQ (kQ (K:=K) rfl) T.len_ PySem.boot_len (aQ (wn 4) bQ))) (wx cQ))) bQ)))) (aQ (wx (w_bin gQ eQ (wx cQ) (wx (mQ yj (PU (K:=K) rfl rfl) T.max_ boot_max (aQ (wn 4) bQ))))) bQ))))
     (dQ (xQ (i:=5) S.nd rfl (Or.inl rfl) (DF C.law_parting (hr.mono (by first|decide|omega)) (aQ (wn 4) bQ)))
     (dQ (CJ [6,7,8] PassesOwn.never rfl (nJ T.range_ (aQ (wx cQ) bQ)) (wQ (i:=6) S.nd rfl (Or.inl rfl)) (dQ (xQ (i:=7) S.nd rfl (Or.inl rfl) (NQ C.law_spoilt (hr.mono (by first|decide|omega)) (aQ (wn 3) (aQ (wx (wv 4)) (aQ (wx (wv 5)) bQ)))))
     (dQ (xQ (i:=8) S.nd rfl (Or.inl rfl) (mQ kH (eW (K:=K) rfl hr) T.repr_ boot_repr (aQ (wn 7) bQ)))
     (nQ (tX (ww (lG (FQ yJ hZ (wx (YX C.holds_parted (hr.mono (by first|decide|omega)) (aQ (wx (cX IX (aX (K:=K) rfl) T.list_ boot_list (aQ (wn 4) bQ))) (aQ (wn 7) bQ)))) (wx dZ)) (NY (FQ KY (LJ (K:=K) rfl hr.units) (wx (mQ kH (eW (K:=K) rfl hr) T.repr_ boot_repr (aQ (wn 7) bQ))) (wn 8))))) (nQ (AQ dZ)) UQ)))))
     (dQ (tX (ww (lG (FQ yJ hZ (wx (YX C.holds_parted (hr.mono (by first|decide|omega)) (aQ (wx (cX IX (aX (K:=K) rfl) T.list_ boot_list (aQ (wn 4) bQ))) (aQ (wn 5) bQ)))) (wx dZ)) (NY (TW (UW (YX C.law_alike_right (hr.mono (by first|decide|omega)) (aQ (wx (w_bin JJ PZ (wx (rX rfl (wn 4) (wx cQ))) (wx (mQ CQ (kQ (K:=K) rfl) T.len_ PySem.boot_len (aQ (wn 4) bQ))))) bQ))))))) (nQ (AQ dZ)) UQ)
     (nQ (tX (TW (UW (YX C.law_every_one (hr.mono (by first|decide|omega)) (aQ (wn 4) (aQ (wn 5) bQ))))) (nQ (AQ dZ)) UQ)))))))))
     (nQ (AQ dZ)))))) ?_ ?_
 ·rintro args Qd ⟨ns,rfl,_⟩;rfl
 ·rintro args Qd ⟨ns,rfl,hn,q⟩
  refine ⟨BQ rfl,?_⟩
  with_reducible refine MQ (λρ=>∃(a b:Int),0<=a/\0<=b/\ρ=[some (.fz (uZ ns)),some (.ow (uQ a b 0)),none,none,none,none,none,none,none]) ?_ ?_
  ·intro N hN
   exact ⟨ns,27,rfl,by decide,by decide,λa b o ha hb=>hN _ ⟨a,b,ha,hb,rfl⟩⟩
  rintro _ ⟨a,b,ha,hb,rfl⟩
  with_reducible refine MQ (λρ=>∃(a b c:Int),ρ=[some (.fz (uZ ns)),some (.ow (uQ a b c)),none,none,none,none,none,none,none]) ?_ ?_
  ·intro N hN
   refine ⟨a,b,0,8,rfl,ha,hb,by decide,by decide,by decide,λr a1 b1 c1 _ r0 r1 ha1 hb1 hc1=>?_⟩
   refine eX (λh=>?_) (λh=>hN _ ⟨a1,b1,c1,rfl⟩)
   exact ⟨a1,b1,c1,rfl,ha1,hb1,hc1,λa2 b2 c2 o _ _ _=>hN _ ⟨a2,b2,c2,rfl⟩⟩
  rintro _ ⟨a0,b0,c0,rfl⟩
  have hj:∀x:Int,0<=x->2<=(if (if x < 4 then x else 4) > 2 then (if x < 4 then x else 4) else 2)/\(if (if x < 4 then x else 4) > 2 then (if x < 4 then x else 4) else 2)<=4:=λx hx=>by
   constructor<;>(split<;>(try split)<;>omega)
  have hj:=hj (ns.length:Int) (by omega)
  with_reducible refine MQ (λρ=>ρ=[some (.fz (uZ ns)),some (.ow (uQ a0 b0 c0)),none,none,none,none,none,none,none]) ?_ ?_
  rotate_left
  ·rintro _ rfl
   exact q _
  intro N0 hN0
  refine ⟨ns,rfl,?_⟩
  refine ⟨Int.le_trans (by decide) hj.1,Int.lt_of_le_of_lt hj.2 (by decide),?_⟩
  refine mJ (λrest ρ=>(∀d∈rest,∃i:Int,d=.int i/\0<=i/\i<=1000)/\ρ=[some (.fz (uZ ns)),some (.ow (uQ a0 b0 c0)),none,none,none,none,none,none,none]) ?_ (λ_ e=>hN0 _ e.2) ⟨?_,rfl⟩
  ·rintro d ds ρ ⟨hd,rfl⟩ N hN
   obtain⟨k,rfl,k0,k1⟩:=hd d G0
   have hd':∀d∈ds,∃i:Int,d=.int i/\0<=i/\i<=1000:=λd h=>hd d (J0 _ h)
   with_reducible refine rC rfl ?_
   with_reducible refine MQ (λρ=>∃(a b:Int),0<=a/\0<=b/\ρ=[some (.fz (uZ ns)),some (.ow (uQ a0 b0 c0)),some (.fz (.int k)),some (.ow (uQ a b 0)),none,none,none,none,none]) ?_ ?_
   ·intro M hM
    exact ⟨ns,k,rfl,k0,k1,λa b o ha hb=>hM _ ⟨a,b,ha,hb,rfl⟩⟩
   rintro _ ⟨a,b,ha,hb,rfl⟩
   with_reducible refine MQ (λρ=>∃(cs:List Int) (a1 b1 c1:Int),1<=cs.length/\cs.length<=8/\0<=a1/\0<=b1/\0<=c1/\ρ=[some (.fz (uZ ns)),some (.ow (uQ a0 b0 c0)),some (.fz (.int k)),some (.ow (uQ a1 b1 c1)),some (.ow (XQ cs)),none,none,none,none]) ?_ ?_
   ·intro M hM
    exact ⟨a,b,0,8,rfl,ha,hb,Int.le_refl 0,by decide,by decide,λcs a1 b1 c1 _ l1 l2 _ ha1 hb1 hc1=>hM _ ⟨cs,a1,b1,c1,l1,by omega,ha1,hb1,hc1,rfl⟩⟩
   rintro _ ⟨cs,a1,b1,c1,hc1l,hc2l,ha1,hb1,hc1,rfl⟩
   have hnm:(cs.map j0).length=cs.length:=p0 _
   with_reducible refine MQ (λρ=>∃(ms:List Int) (a2 b2 c2:Int),2<=(iX ms).length/\ms.length<=120/\0<=a2/\0<=b2/\0<=c2/\ρ=[some (.fz (uZ ns)),some (.ow (uQ a0 b0 c0)),some (.fz (.int k)),some (.ow (uQ a2 b2 c2)),some (.ow (XQ ms)),none,none,none,none]) ?_ ?_
   ·intro M hM
    refine ⟨a1,b1,c1,_,rfl,ha1,hb1,hc1,by rw[hnm];omega,by rw[hnm];omega,λi a2 b2 c2 _ i0 i1 ha2 hb2 hc2=>?_⟩
    rw[hnm]at i1
    obtain⟨j,rfl⟩:=K1 i0
    refine ⟨cs,rfl,by omega,λX hX hXx=>⟨by rw[hnm];exact O2 (show cs.length<=139 by omega) (by decide),i0,by rw[hnm];omega,?_⟩⟩
    have e:(cs.map j0).take (j:Int).toNat++j0 (1+X) :: (cs.map j0).drop (j:Int).toNat=(cs.take j++(1+X) :: cs.drop j).map j0:=by
     rw[show (j:Int).toNat=j by omega];simp[T4,E4]
    refine hM _ ⟨cs.take j++(1+X) :: cs.drop j,a2,b2,c2,cD j hc1l hXx,?_,ha2,hb2,hc2,?_⟩
    ·rw[Q0,E1,V1,P1];omega
    ·show _=[_,_,_,_,some (Sl.ow (P3 ((cs.take j++(1+X) :: cs.drop j).map j0))),_,_,_,_]
     rw[<- e]
     rfl
   rintro _ ⟨ms,a2,b2,c2,hw2,hm2,ha2,hb2,hc2,rfl⟩
   have hwl:=NX ms
   with_reducible refine MQ (λρ=>∃ps:List (Int×Int),Prs (iX ms).length ps/\ρ=[some (.fz (uZ ns)),some (.ow (uQ a0 b0 c0)),some (.fz (.int k)),some (.ow (uQ a2 b2 c2)),some (.ow (XQ ms)),some (.ow (SQ (rows ms ps))),none,none,none]) ?_ ?_
   ·intro M hM
    refine ⟨ms,rfl,by omega,by omega,λps o hq=>⟨VX (vK ms) _,?_⟩⟩
    rw[iZ]
    exact hM _ ⟨ps,hq,rfl⟩
   rintro _ ⟨ps,hps,rfl⟩
   have hpe:=iZ ms ps
   have hnm:(ms.map j0).length=ms.length:=p0 _
   with_reducible refine MQ (λρ=>∃a3 b3 c3:Int,ρ=[some (.fz (uZ ns)),some (.ow (uQ a0 b0 c0)),some (.fz (.int k)),some (.ow (uQ a3 b3 c3)),some (.fz (XQ ms)),some (.fz (SQ (rows ms ps))),none,none,none]) ?_ ?_
   ·intro M hM
    refine ⟨by decide,by decide,?_⟩
    have hr0:PQ 0 (8:Int).toNat≠[]:=by decide
    generalize PQ 0 (8:Int).toNat=L at hr0 ⊢
    refine mJ (λrest ρ=>∃(s4 s5:Sl) (a3 b3 c3:Int),(s4=.fz (XQ ms)/\s5=.fz (SQ (rows ms ps))\/rest≠[]/\s4=.ow (XQ ms)/\s5=.ow (SQ (rows ms ps)))/\0<=a3/\0<=b3/\0<=c3/\ρ=[some (.fz (uZ ns)),some (.ow (uQ a0 b0 c0)),some (.fz (.int k)),some (.ow (uQ a3 b3 c3)),some s4,some s5,none,none,none]) ?_ ?_ ⟨_,_,a2,b2,c2,.inr ⟨hr0,rfl,rfl⟩,ha2,hb2,hc2,rfl⟩
    ·rintro d rest ρ ⟨s4,s5,a3,b3,c3,hs,ha3,hb3,hc3,rfl⟩ N2 hN2
     with_reducible refine rC rfl ?_
     with_reducible refine MQ (λρ=>∃(t:PyData) (r:Sl) (a4 b4 c4:Int),(r=.fz t\/r=.ow t)/\Bad (rows ms ps) t/\0<=a4/\0<=b4/\0<=c4/\ρ=[some (.fz (uZ ns)),some (.ow (uQ a0 b0 c0)),some (.fz (.int k)),some (.ow (uQ a4 b4 c4)),some (.fz (XQ ms)),some (.fz (SQ (rows ms ps))),some (.fz d),some r,none]) ?_ ?_
     ·intro M2 hM2
      rcases hs with⟨rfl,rfl⟩|⟨_,rfl,rfl⟩<;>exact ⟨a3,b3,c3,ms,ps,rfl,ha3,hb3,hc3,hw2,by omega,hps,λt r a4 b4 c4 o hr B ha4 hb4 hc4=>hM2 _ ⟨t,r,a4,b4,c4,hr,B,ha4,hb4,hc4,rfl⟩⟩
     rintro _ ⟨t,r,a4,b4,c4,hr,B,ha4,hb4,hc4,rfl⟩
     with_reducible refine MQ (λρ=>ρ=[some (.fz (uZ ns)),some (.ow (uQ a0 b0 c0)),some (.fz (.int k)),some (.ow (uQ a4 b4 c4)),some (.fz (XQ ms)),some (.fz (SQ (rows ms ps))),some (.fz d),some r,some (.fz (.str t.shown))]) ?_ ?_
     ·intro M2 hM2
      rcases hr with rfl|rfl<;>exact B.repr (hM2 _ rfl)
     rintro _ rfl
     rcases hr with rfl|rfl
     ·refine ⟨ms,t,ps,rfl,by omega,by omega,B.ok,hps,λo=>?_⟩
      rw[hpe,sZ B.ne]
      refine B.repr ?_
      refine eX (λh=>absurd h (by rw[vH];decide)) (λ_=>?_)
      exact hN2 _ ⟨_,_,a4,b4,c4,.inl ⟨rfl,rfl⟩,ha4,hb4,hc4,rfl⟩
     ·refine ⟨ms,t,ps,rfl,by omega,by omega,B.ok,hps,λo=>?_⟩
      rw[hpe,sZ B.ne]
      refine ⟨rfl,?_⟩
      refine B.repr ?_
      refine eX (λh=>absurd h (by rw[vH];decide)) (λ_=>?_)
      exact hN2 _ ⟨_,_,a4,b4,c4,.inl ⟨rfl,rfl⟩,ha4,hb4,hc4,rfl⟩
    ·rintro ρ ⟨s4,s5,a3,b3,c3,hs,ha3,hb3,hc3,rfl⟩
     rcases hs with⟨rfl,rfl⟩|⟨z,_⟩
     ·exact hM _ ⟨a3,b3,c3,rfl⟩
     ·exact absurd rfl z
   rintro _ ⟨a3,b3,c3,rfl⟩
   with_reducible refine MQ (λρ=>ρ=[some (.fz (uZ ns)),some (.ow (uQ a0 b0 c0)),some (.fz (.int k)),some (.ow (uQ a3 b3 c3)),some (.fz (XQ ms)),some (.fz (SQ (rows ms ps))),none,none,none]) ?_ ?_
   ·intro M hM
    refine ⟨ms,SQ (rows ms ps),ps,rfl,by omega,by omega,sK (nY (rows ms ps)).p,hps,λo=>?_⟩
    rw[hpe,SK rfl]
    obtain⟨x,hx⟩:=fq (ns:=ms) (n:=((ms.map j0).length:Int).toNat) (by omega)
    refine ⟨by omega,by rw[hnm];omega,iQ (Z0 (Nat.mul_le_mul (show _<=1 from List.length_take_le _ _) (show ((ms.map j0).length:Int).toNat<=120 by rw[hnm];omega)) (by decide)),?_⟩
    refine ⟨x,((ms.map j0).length:Int).toNat,congrArg (λl=>[Sl.fz (P3 l)]) hx,by rw[hnm];omega,by rw[hnm];omega,λo=>?_⟩
    exact hM _ rfl
   rintro _ rfl
   refine ⟨ms,ps,rfl,hw2,by omega,hps,λo=>?_⟩
   exact hN _ ⟨hd',rfl⟩
  ·intro d hd
   unfold PQ at hd
   obtain⟨i,hi,rfl⟩:=T0.mp hd
   have:=Q3.mp hi
   have h2:=hj.2
   exact ⟨_,rfl,by omega,by omega⟩
end
theorem GM{p:List Value->Prop}(h:p []):∀us:List Value,us.length=0->p us:=λus e=>by
 cases us with
 | nil=>exact h
 | cons x us=>cases e
theorem len1{p:List Value->Prop}(h:∀x0,p [x0]):∀us:List Value,us.length=1->p us:=λus e=>by
 cases us with
 | nil=>cases e
 | cons x us=>exact GM (p:=λl=>p (x :: l)) (h x) us (e9 e)
theorem len2{p:List Value->Prop}(h:∀x0 x1,p [x0,x1]):∀us:List Value,us.length=2->p us:=λus e=>by
 cases us with
 | nil=>cases e
 | cons x us=>exact len1 (p:=λl=>p (x :: l)) (λx1=>h x x1) us (e9 e)
theorem YI{p:List Value->Prop}(h:∀x0 x1 x2,p [x0,x1,x2]):∀us:List Value,us.length=3->p us:=λus e=>by
 cases us with
 | nil=>cases e
 | cons x us=>exact len2 (p:=λl=>p (x :: l)) (λx1 x2=>h x x1 x2) us (e9 e)
structure Df(K:q0)(mg:Str->Option Value)(x:Str)(st:Stmt)(f:Addr)(d:FuncData):Prop where
 F:Fun K x x st f d
 m:mg x=some (.ref f)
 k:n5 K (.ref f)=true
section
variable {K:q0}{mg:Str->Option Value}
theorem df_mk{h:Heap}(X:K.In h)(G:h.Ns mainGlobals mg){x:Str}{st:Stmt}{f:Addr}{oc:Value}{od an:Option Addr}{osl:Array (Option Value)}{kV doc pm cdv ct:Value}(a:X2 K mainGlobals x=some (some (.ref f)))(l:K.lookup f=some ⟨oc,od,.func (G5 x x (KZ st) (TX st) (jQ st) .none kV doc pm an cdv ct),osl⟩)(c:m7 K cdv x=true)(k:n5 K (.ref f)=true):Df K mg x st f (G5 x x (KZ st) (TX st) (jQ st) .none kV doc pm an cdv ct) :=
 ⟨Ju l c k,PySem.W.mg_of X G a,k⟩
theorem bZ(P:Program)(w:World)(base:Heap){k:Nat}{x:Str}{ps:List Str}{sp:Sp}{st:Stmt}{f:Addr}{d:FuncData}(D:Df K mg x st f d)(h:FnOk P w K mg base WZ k f d ps sp)(b:∀(kV doc pm:Value) (an:Option Addr) (cdv ct:Value) (us:List Value),us.length=ps.length->bindArgs (G5 x x (KZ st) (TX st) (jQ st) .none kV doc pm an cdv ct) ⟨us,[]⟩=pure (ps.zip us)):Cal P w K mg base k x ps sp :=
 ⟨⟨f,d,h,D.m,D.k,D.F.binds b⟩⟩
end
theorem all_mk{l:w8}{w:World}{K:q0}{h:Heap}{mg:Str->Option Value}{fa f0 f1 f2 f3 f4 f5 f6 f7 f8 f9 f10 f11 f12 f13 f14 f15 f16 f17 f18 f19 f20 f21 f22 f23 f24 f25:Addr}{d0 d1 d2 d3 d4 d5 d6 d7 d8 d9 d10 d11 d12 d13 d14 d15 d16 d17 d18 d19 d20 d21 d22 d23 d24 d25:FuncData}(X:K.In h)(G:h.Ns mainGlobals mg)(hfa:mg "law"=some (.ref fa))
  (D0:Df K mg "_law_pen" (top 14) f0 d0) (D1:Df K mg "_law_draw" (top 15) f1 d1) (D2:Df K mg "_law_number" (top 16) f2 d2) (D3:Df K mg "_law_row" (top 17) f3 d3) (D4:Df K mg "_law_worths" (top 20) f4 d4) (D5:Df K mg "_law_halves" (top 19) f5 d5) (D6:Df K mg "_law_parting" (top 21) f6 d6) (D7:Df K mg "_law_flag_bent" (top 22) f7 d7) (D8:Df K mg "_law_stretch_bent" (top 23) f8 d8) (D9:Df K mg "_law_odd" (top 24) f9 d9) (D10:Df K mg "_law_other_row" (top 25) f10 d10) (D11:Df K mg "_law_spoilt" (top 26) f11 d11) (D12:Df K mg "worths" (top 7) f12 d12) (D13:Df K mg "worth_numbers" (top 8) f13 d13) (D14:Df K mg "two_halves" (top 1) f14 d14) (D15:Df K mg "stretches" (top 2) f15 d15) (D16:Df K mg "flags_at" (top 9) f16 d16) (D17:Df K mg "parted" (top 10) f17 d17) (D18:Df K mg "is_whole" (top 4) f18 d18) (D19:Df K mg "are_wholes" (top 5) f19 d19) (D20:Df K mg "is_entry" (top 12) f20 d20) (D21:Df K mg "holds_parted" (top 11) f21 d21) (D22:Df K mg "_law_alike_right" (top 27) f22 d22) (D23:Df K mg "_law_every_one" (top 28) f23 d23) (D24:Df K mg "_law_long_right" (top 29) f24 d24) (D25:Df K mg "law" (top 30) f25 d25)
  (z0:X2 K mainGlobals "len"=some none) (z1:X2 K mainGlobals "max"=some none) (z2:X2 K mainGlobals "min"=some none) (z3:X2 K mainGlobals "all"=some none) (z4:X2 K mainGlobals "isinstance"=some none) (z5:X2 K mainGlobals "tuple"=some none) (z6:X2 K mainGlobals "list"=some none) (z7:X2 K mainGlobals "dict"=some none) (z8:X2 K mainGlobals "set"=some none) (z9:X2 K mainGlobals "int"=some none) (z10:X2 K mainGlobals "bool"=some none) (z11:X2 K mainGlobals "range"=some none) (z12:X2 K mainGlobals "zip"=some none) (z13:X2 K mainGlobals "enumerate"=some none) (z14:X2 K mainGlobals "repr"=some none) (z15:X2 K mainGlobals "sorted"=some none) :
  ∃fd:FuncData,(∀(s:Shared) (v:Value),BindsTo s fd ⟨[v],[]⟩ [("_law_script",v)])/\∀base:Heap,K.In base->base.Ns mainGlobals mg->FnOk l.prog w K mg base WZ 6 fa fd ["_law_script"] (lQ K zx):=by
 cases hfa.symm.trans D25.m
 have T:Txt mg:=⟨U1 X G z0,U1 X G z1,U1 X G z2,U1 X G z3,U1 X G z4,U1 X G z5,U1 X G z6,U1 X G z7,U1 X G z8,U1 X G z9,U1 X G z10,U1 X G z11,U1 X G z12,U1 X G z13,U1 X G z14,U1 X G z15⟩
 obtain⟨oc,od,kV,doc,pm,an,cdv,ct,osl,e,lk,hcd⟩:=D25.F.ex
 refine ⟨d25,λs v=>by subst e;exact .of_eq rfl,λb _ _=>?_⟩
 have C0:=bZ l.prog w b D0 (IB D0.F T) λ_ _ _ _ _ _=>len2 λ_ _=>rfl
 have C1:=bZ l.prog w b D1 (jv D1.F) λ_ _ _ _ _ _=>len2 λ_ _=>rfl
 have C2:=bZ l.prog w b D2 (cq D2.F ⟨C1⟩) λ_ _ _ _ _ _=>len1 λ_=>rfl
 have C3:=bZ l.prog w b D3 (KB D3.F T ⟨C1,C2⟩) λ_ _ _ _ _ _=>len2 λ_ _=>rfl
 have C4:=bZ l.prog w b D4 (aC D4.F T) λ_ _ _ _ _ _=>len1 λ_=>rfl
 have C5:=bZ l.prog w b D5 (QB D5.F T) λ_ _ _ _ _ _=>len1 λ_=>rfl
 have C6:=bZ l.prog w b D6 (bC D6.F T ⟨C4,C5⟩) λ_ _ _ _ _ _=>len1 λ_=>rfl
 have C7:=bZ l.prog w b D7 (HI D7.F T ⟨C1⟩) λ_ _ _ _ _ _=>len2 λ_ _=>rfl
 have C8:=bZ l.prog w b D8 (II D8.F T ⟨C1⟩) λ_ _ _ _ _ _=>len2 λ_ _=>rfl
 have C9:=bZ l.prog w b D9 (eC D9.F T ⟨C1⟩) λ_ _ _ _ _ _=>len2 λ_ _=>rfl
 have C10:=bZ l.prog w b D10 (iC D10.F T ⟨C1,C4,C6,C7⟩) λ_ _ _ _ _ _=>YI λ_ _ _=>rfl
 have C11:=bZ l.prog w b D11 (jC D11.F ⟨C1,C7,C8,C9,C10⟩) λ_ _ _ _ _ _=>YI λ_ _ _=>rfl
 have C12:=bZ l.prog w b D12 (SB D12.F T) λ_ _ _ _ _ _=>len1 λ_=>rfl
 have C13:=bZ l.prog w b D13 (TB D13.F T ⟨C12⟩) λ_ _ _ _ _ _=>len1 λ_=>rfl
 have C14:=bZ l.prog w b D14 (NB D14.F) λ_ _ _ _ _ _=>len1 λ_=>rfl
 have C15:=bZ l.prog w b D15 (OB D15.F T ⟨C14⟩) λ_ _ _ _ _ _=>len1 λ_=>rfl
 have C16:=bZ l.prog w b D16 (UB D16.F T ⟨C14⟩) λ_ _ _ _ _ _=>len2 λ_ _=>rfl
 have C17:=bZ l.prog w b D17 (WB D17.F T ⟨C13,C12,C15,C16⟩) λ_ _ _ _ _ _=>len1 λ_=>rfl
 have C18:=bZ l.prog w b D18 (jx D18.F T) λ_ _ _ _ _ _=>len1 λ_=>rfl
 have C19:=bZ l.prog w b D19 (xv D19.F T ⟨C18⟩) λ_ _ _ _ _ _=>len2 λ_ _=>rfl
 have C20:=bZ l.prog w b D20 (CI D20.F T ⟨C19⟩) λ_ _ _ _ _ _=>len2 λ_ _=>rfl
 have C21:=bZ l.prog w b D21 (YB D21.F T ⟨C17,C20⟩) λ_ _ _ _ _ _=>len2 λ_ _=>rfl
 have C22:=bZ l.prog w b D22 (QI D22.F T ⟨C21⟩) λ_ _ _ _ _ _=>len1 λ_=>rfl
 have C23:=bZ l.prog w b D23 (RI D23.F T ⟨C21⟩) λ_ _ _ _ _ _=>len2 λ_ _=>rfl
 have C24:=bZ l.prog w b D24 (VI D24.F T ⟨C1,C6,C21⟩) λ_ _ _ _ _ _=>len1 λ_=>rfl
 exact lC D25.F T ⟨C0,C1,C3,C6,C11,C21,C22,C23,C24⟩
theorem walk{l:w8}{q:Program}{loose:List Str}{XP:(Str->Option Value)->Heap->Prop}{YP:World->Heap->Prop}{d:DefRec}{K:Params->q0}(hn:l.most=some 63)(hdf:d.params.defaults=[])
  (hY:∀(w:World) (h:Heap),YP w h->(K w.params).In h)
  (F:∀(w:World) (mg:Str->Option Value) (fa:Addr) (h:Heap),(K w.params).In h->h.Ns mainGlobals mg->mg d.name=some (.ref fa) ->
    ∃fd:FuncData,(∀(s:Shared) (u:Value),BindsTo s fd ⟨[u],[]⟩ [("_law_script",u)])/\∀base:Heap,(K w.params).In base->base.Ns mainGlobals mg->FnOk l.prog w (K w.params) mg base WZ 6 fa fd ["_law_script"] (lQ (K w.params) zx)) :
  PySem.W.WalkO q loose XP YP l.row.toRowW d [] (λf vs=>PySem.call f vs) :=
 L2.walk_of (n:=63) (k:=6) (x:="_law_script") (CX:=λ_=>WZ) (sp:=λw=>lQ (K w.params) zx) hn (by decide) hdf ⟨rfl,by decide,by decide,rfl⟩ hY F (λ_ _ a ns hl _ hS=>Fv hl hS) λ_ _ _ _ _ z=>z
end R39
open PySem PySem.W PyProof.Rows
namespace PySem.W.Fast
def tw3177526568023416129:Unit:=()
def tw8604048942767445791:Unit:=()
def tw11606730129707233468:Unit:=()
def tw6106310750720307012:Unit:=()
def tw2791754259938551681:Unit:=()
def tw6943318137739651864:Unit:=()
def tw2595339412880292244:Unit:=()
def tw11347229446972240984:Unit:=()
def tw13363025160177425723:Unit:=()
def tw16182019631602691836:Unit:=()
def tw13327278702075111083:Unit:=()
def tw14142597643606536011:Unit:=()
def tw12271805629238916190:Unit:=()
def tw17643854260573037142:Unit:=()
def tw14583249752038097818:Unit:=()
def tw17444514268896060699:Unit:=()
def tw6843569121209215799:Unit:=()
def tw996293711304869736:Unit:=()
def tw8566694037209254030:Unit:=()
def tw9263464223909714735:Unit:=()
def tw3347719473599409825:Unit:=()
def tw11126317364659479849:Unit:=()
def tw6867818784032380656:Unit:=()
def tw943697789211246294:Unit:=()
def tw2616180737308491490:Unit:=()
def tw301017685118725064:Unit:=()
def tw14992986617993166245:Unit:=()
def tw12149958303366309062:Unit:=()
def tw417070122634925194:Unit:=()
def tw5444631315379651101:Unit:=()
def tw16304536010093228591:Unit:=()
def tw4766104369817776265:Unit:=()
def tw8473514058471307277:Unit:=()
def tw17130192067409930700:Unit:=()
def tw845357056257992649:Unit:=()
def tw4921831161392190000:Unit:=()
def tw14725894590032009842:Unit:=()
def tw15183585716490539884:Unit:=()
def tw18427249549158382438:Unit:=()
def tw14472241348318801160:Unit:=()
def tw12605966625211773486:Unit:=()
def tw1059065109373684707:Unit:=()
def tw13468316282189835565:Unit:=()
def tw3710770440955718353:Unit:=()
def tw14838238516936126733:Unit:=()
def tw4484191629786966228:Unit:=()
def tw10470550255614054068:Unit:=()
def tw11951295118292094085:Unit:=()
def tw13795787897067938997:Unit:=()
def tw7019136860978059859:Unit:=()
def tw9721527861482125560:Unit:=()
def tw8463166114110001958:Unit:=()
def tw659004052073459215:Unit:=()
def tw5760239657022759508:Unit:=()
def tw3474403937742437999:Unit:=()
def tw17371823232589973708:Unit:=()
def tw13314524961613693068:Unit:=()
def tw2220556118886900308:Unit:=()
def tw6818933185673149137:Unit:=()
def tw7969483832020927408:Unit:=()
def tw7595702985794596686:Unit:=()
def tw17835916351540294316:Unit:=()
def tw7506885811507426804:Unit:=()
end PySem.W.Fast
set_option maxRecDepth 100000 in
set_option maxHeartbeats 0 in
theorem PySem.Challenge.cw_boxsums_k39_no_partings_holds : PySem.Challenge.rw_boxsums_k39_no_partings.Holds := by
 w_on;o_law;k_head;(case hw=>w_witness2)
 k_fill
 refine R39.walk (l:=PySem.Challenge.rw_boxsums_k39_no_partings) rfl rfl (λw h Y=>PySem.W.kIn_of Y) ?F
 case F =>
  intro w mg fa h KX G hmg
  refine' R39.all_mk KX G hmg (R39.df_mk KX G ?a0 ?l0 ?c0 ?k0) (R39.df_mk KX G ?a1 ?l1 ?c1 ?k1) (R39.df_mk KX G ?a2 ?l2 ?c2 ?k2) (R39.df_mk KX G ?a3 ?l3 ?c3 ?k3) (R39.df_mk KX G ?a4 ?l4 ?c4 ?k4) (R39.df_mk KX G ?a5 ?l5 ?c5 ?k5) (R39.df_mk KX G ?a6 ?l6 ?c6 ?k6) (R39.df_mk KX G ?a7 ?l7 ?c7 ?k7) (R39.df_mk KX G ?a8 ?l8 ?c8 ?k8) (R39.df_mk KX G ?a9 ?l9 ?c9 ?k9) (R39.df_mk KX G ?a10 ?l10 ?c10 ?k10) (R39.df_mk KX G ?a11 ?l11 ?c11 ?k11) (R39.df_mk KX G ?a12 ?l12 ?c12 ?k12) (R39.df_mk KX G ?a13 ?l13 ?c13 ?k13) (R39.df_mk KX G ?a14 ?l14 ?c14 ?k14) (R39.df_mk KX G ?a15 ?l15 ?c15 ?k15) (R39.df_mk KX G ?a16 ?l16 ?c16 ?k16) (R39.df_mk KX G ?a17 ?l17 ?c17 ?k17) (R39.df_mk KX G ?a18 ?l18 ?c18 ?k18) (R39.df_mk KX G ?a19 ?l19 ?c19 ?k19) (R39.df_mk KX G ?a20 ?l20 ?c20 ?k20) (R39.df_mk KX G ?a21 ?l21 ?c21 ?k21) (R39.df_mk KX G ?a22 ?l22 ?c22 ?k22) (R39.df_mk KX G ?a23 ?l23 ?c23 ?k23) (R39.df_mk KX G ?a24 ?l24 ?c24 ?k24) (R39.df_mk KX G ?a25 ?l25 ?c25 ?k25) ?z0 ?z1 ?z2 ?z3 ?z4 ?z5 ?z6 ?z7 ?z8 ?z9 ?z10 ?z11 ?z12 ?z13 ?z14 ?z15
  case a0|l0|c0|k0|a1|l1|c1|k1|a2|l2|c2|k2|a3|l3|c3|k3|a4|l4|c4|k4|a5|l5|c5|k5|a6|l6|c6|k6|a7|l7|c7|k7|a8|l8|c8|k8|a9|l9|c9|k9|a10|l10|c10|k10|a11|l11|c11|k11|a12|l12|c12|k12|a13|l13|c13|k13|a14|l14|c14|k14|a15|l15|c15|k15|a16|l16|c16|k16|a17|l17|c17|k17|a18|l18|c18|k18|a19|l19|c19|k19|a20|l20|c20|k20|a21|l21|c21|k21|a22|l22|c22|k22|a23|l23|c23|k23|a24|l24|c24|k24|a25|l25|c25|k25|z0|z1|z2|z3|z4|z5|z6|z7|z8|z9|z10|z11|z12|z13|z14|z15=>k_is
