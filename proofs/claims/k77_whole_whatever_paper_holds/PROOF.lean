import PyProof.Rows.All
import Wide.All
import OpenK.AllK
import Wide.FinOn
import Lean
import PyProof.EqAt
import PyProof.EqKinds
import PyProof.TupleCall
import PyProof.Rows.SortRuns
import KE.KRevIter
import PySem.Challenge.RW_boxsums_k77_whole_whatever_paper_holds
set_option Elab.async false
set_option linter.all false
set_option maxRecDepth 100000
set_option maxHeartbeats 4000000
open PySem.Heap renaming get?_push_of_some → i0,lt_size → B0,get?_push_size → K0,size_push → L1,get?_update_other → Y1,get?_update_self → J2,SameBut → Y4,get?_push_ne → W5,size_update → o7,get?_none_of_le → O7,get?_update_ne → U7
open PySem.W renaming Frag → j0,mg_none_of → N1,nsIn → B2,keepIn → W3,fnOf → Q4,findIn → T5,codeIn → K6,methodObj → X6,mg_of → g7,cellsFrom_some → y7,OpenLaw → F7,specialIn → t8,instObj → A8
open PySem.PyData renaming int → q0,tuple → K2,list → Q3,shown → Z4,shownAll → P5,canLay0 → L6,canLayAll0 → Y6,depth → v7,depthAll → G7,bool → M7,showableAll → h8,hasDictAll → u8
open List renaming length_map → A0,mem_cons_of_mem → G0,getElem?_eq_getElem → J0,size_toArray → L0,mem_cons_self → M0,getElem?_set_ne → P0,getD_eq_getElem?_getD → Q0,mem_map → U0,getElem?_map → W0,getElem?_eq_some_iff → X0,length_append → Z0,mem_singleton → A1,mem_cons → B1,mem_append_right → G1,map_cons → K1,replicate → P1,mem_of_getElem? → Q1,map_map → T1,length_cons → Z1,map_append → j2,range → A2,take_of_length_le → E2,drop_of_length_le → O2,getElem_mem → S2,getElem?_append_right → U2,sum_cons → V2,getElem?_append_left → W2,mem_range → Y2,mem_append → Z2,length_singleton → A3,flatten_cons → B3,lookup_cons → G3,getElem?_eq_none_iff → J3,Nodup → K3,length_set → N3,map_nil → O3,replicate_succ → P3,append_nil → S3,getElem?_zip_eq_some → U3,getElem?_cons_succ → Y3,pairwise_singleton → Z3,forIn_cons → j4,length_pos_iff → o4,forIn_nil → G4,mem_iff_getElem? → J4,pairwise_iff_getElem → L4,nodup_cons → M4,of_mem_zip → N4,length_drop → W4,all_eq_true → X4,zip_cons_cons → i5,mem_filter → j5,length_zip → u5,cons_append → K5,map_congr_left → N5,length_nil → O5,pairwise_cons → Q5,set_eq_take_append_cons_drop → S5,append_assoc → U5,pairwise_map → X5,getElem?_set_self → Y5,zipIdx_cons → e6,countP_cons → j6,filter_cons → o6,mem_append_left → u6,zipIdx_nil → v6,filter_map → x6,filterMap_cons → A6,map_eq_nil_iff → B6,sum_nil → G6,perm_append_singleton → P6,drop_eq_getElem_cons → S6,lookup → U6,filter_congr → Z6,length_take → i7,getElem_zip → m7,mem_flatMap → t7,getElem?_replicate → u7,filter_eq_nil_iff → E7,eq_nil_or_concat → J7,set_getElem_self → K7,length_filter_le → L7,mem_iff_getElem → P7,getElem_of_mem → S7,length_reverse → T7,mem_map_of_mem → V7,all_cons → W7,any_cons → X7,map_take → Y7,map_drop → Z7,mem_filterMap → e8,forIn_toArray → g8,set_cons_zero → i8,set_cons_succ → j8,length → x8,map_id → y8,foldl → E8
open Nat renaming le_refl → N0,lt_of_lt_of_le → O0,ne_of_lt → S0,ne_of_gt → j1,le_trans → O1,lt_irrefl → X1,le_add_right → j3,lt_of_le_of_lt → E3,zero_le → B4,min_eq_left → P4,le_of_succ_le → S4,le_of_lt → G5,lt_trans → J5,lt_succ_of_lt → V5,min_eq_right → i6,succ_mul → E6,le_succ → V6,le_of_not_lt → j7,length_repr_le_iff → B7,mul_le_mul_right → R7,le_of_eq → m8,zero_add → n8
open PySem.Builtin.SmallTypes renaming nextOf → R0,ownedTupleIsFree → V0,ownedTupleHandOut → M3
open Bool renaming false_ne_true → T0,and_eq_true → Y0,eq_false_iff → E1,false_and → U1,true_and → P2,false_eq_true → X2,eq_iff_iff → o5,beq_eq_decide_eq → v5,and_false → B5,and_true → b8
open Ne renaming symm → J1
open PySem.Obj renaming mapSeq → S1
open Option.some renaming inj → V1
open Array renaming length_toList → W1,perm_iff_toList_perm → E5,toList_map → m6,getElem?_eq_getElem → T6,getElem_toList → Q7,toList_push → v8
open PySem.Value renaming ref → G2,none → A5,type → Z5,bool → B8
open PyProof.Rows renaming callWith_type1 → Q2,slot_tuple_getitem → T3
open Int renaming eq_ofNat_of_zero_le → T2,le_refl → V3,mul_le_mul_of_nonneg_left → X3,toNat_natCast → T4,mul_le_mul_of_nonneg_right → t6,emod_nonneg → w6,emod_lt_of_pos → M6,one_mul → W6,mul_assoc → e7,mul_le_mul → N7,sub_zero → o8,add_zero → r8
open Option renaming map_eq_some_iff → u4,getD_some → E4,map_some → O4,getD_none → w8
open PySem.Builtin.List renaming listExtendWith → A4,listTooLong → V4,listSameRef → h7,listItems → A7
open PySem.Builtin.Slice renaming slicePlaces → K4,sliceAdjust → L5,sliceApplied → N6
open PySem.Builtin.Tuple renaming tupleExact → U4,tupleItemsOf → O6,tupleHashOf → Q6
open PySem.Heap.SameBut renaming update → M5
open Nat.succ renaming inj → J6
namespace L2
open PySem PySem.Spec PyProof.Rows
noncomputable abbrev Key:=Sum Int Str
noncomputable def keyIs:Key->Value->Bool
 | .inl k,v=>Value.isInt k v
 | .inr x,v=>Value.isStrOf x v
noncomputable def keyH(w:World):Key->Int
 | .inl k=>hashInt k
 | .inr x=>hashStr w x
theorem keyIs_shape:∀{k:Key}{v:Value},keyIs k v=true->(∃i t,k=Sum.inl i/\v=Value.int i t)\/(∃x t,k=Sum.inr x/\v=Value.str x t)
 | .inl i,v,h=>by
  obtain⟨t,e⟩:=Value.isInt_shape (k:=i) (v:=v) h
  exact .inl ⟨i,t,rfl,e⟩
 | .inr x,v,h=>by
  obtain⟨t,e⟩:=Value.isStrOf_shape (x:=x) (v:=v) h
  exact .inr ⟨x,t,rfl,e⟩
theorem keyIs_int(i:Int)(t:Tok):keyIs (.inl i) (.int i t)=true:=by simp[keyIs,Value.isInt]
theorem keyIs_str(x:Str)(t:Tok):keyIs (.inr x) (.str x t)=true:=by simp[keyIs,Value.isStrOf]
theorem key_ll(a b:Int):decide ((Sum.inl a:Key)=Sum.inl b)=(a==b):=by
 by_cases e:a=b
 ·subst e;simp
 ·have h:¬(Sum.inl a:Key)=Sum.inl b:=λq=>e (Sum.inl.inj q)
  rw[decide_eq_false h]
  exact (beq_eq_false_iff_ne.mpr e).symm
theorem key_rr(a b:Str):decide ((Sum.inr a:Key)=Sum.inr b)=decide (a=b):=by
 by_cases e:a=b
 ·subst e;simp
 ·have h:¬(Sum.inr a:Key)=Sum.inr b:=λq=>e (Sum.inr.inj q)
  rw[decide_eq_false h,decide_eq_false e]
theorem key_lr(a:Int)(b:Str):decide ((Sum.inl a:Key)=Sum.inr b)=false:=decide_eq_false (λq=>nomatch q)
theorem key_rl(a:Str)(b:Int):decide ((Sum.inr a:Key)=Sum.inl b)=false:=decide_eq_false (λq=>nomatch q)
noncomputable def mixKind(prog:Program)(w:World):PySem.KeyKind prog w Key where
 is:=keyIs
 hash:=keyH w
 inj:=λv a b ha hb=>by
  rcases keyIs_shape ha with⟨i,t,rfl,rfl⟩|⟨x,t,rfl,rfl⟩
  ·rcases keyIs_shape hb with⟨j,u,rfl,e⟩|⟨y,u,rfl,e⟩
   ·injection e with e1 _;rw[e1]
   ·exact nomatch e
  ·rcases keyIs_shape hb with⟨j,u,rfl,e⟩|⟨y,u,rfl,e⟩
   ·exact nomatch e
   ·injection e with e1 _;rw[e1]
 byValue:=λk v h=>by
  rcases keyIs_shape h with⟨i,t,rfl,rfl⟩|⟨x,t,rfl,rfl⟩<;>rfl
 pyHash:=λhv h=>by
  rcases keyIs_shape hv with⟨i,t,rfl,rfl⟩|⟨x,t,rfl,rfl⟩
  ·exact wpAny_pyHash_int h
  ·exact wpAny_pyHash_str h
 eqBool:=λhu hv h=>by
  rcases keyIs_shape hu with⟨i,t,rfl,rfl⟩|⟨x,t,rfl,rfl⟩
  ·rcases keyIs_shape hv with⟨j,u,rfl,rfl⟩|⟨y,u,rfl,rfl⟩
   ·rw[key_ll]at h;exact wpAny_eqBool_int h
   ·rw[key_lr]at h;exact SeqAt.EqAt.int_str i t y u _ _ _ _ h
  ·rcases keyIs_shape hv with⟨j,u,rfl,rfl⟩|⟨y,u,rfl,rfl⟩
   ·rw[key_rl]at h;exact SeqAt.EqAt.str_int x t j u _ _ _ _ h
   ·rw[key_rr]at h;exact wpAny_eqBool_str h
 «strs»:=λk x t v h=>by
  rcases keyIs_shape h with⟨i,u,rfl,e⟩|⟨y,u,rfl,e⟩
  ·exact nomatch e
  ·injection e with e1 _
   subst e1
   cases v<;>rfl
theorem mixKind_int(prog:Program)(w:World)(i:Int)(t:Tok):(mixKind prog w).is (.inl i) (.int i t)=true:=keyIs_int i t
theorem mixKind_str(prog:Program)(w:World)(x:Str)(t:Tok):(mixKind prog w).is (.inr x) (.str x t)=true:=keyIs_str x t
inductive V where
 | non|bl (b:Bool)|int (i:Int)|str (x:Str)|byt (b:Array UInt8)|flt (b:UInt64)|ref (a:Addr)|ty (n:String)
 deriving DecidableEq
noncomputable def RelV:V->Value->Prop
 | .non,u=>u=A5
 | .bl b,u=>u=B8 b
 | .int i,u=>∃t,u=Value.int i t
 | .str x,u=>∃t,u=Value.str x t
 | .byt b,u=>∃t,u=Value.bytes b t
 | .flt b,u=>∃t,u=Value.float b t
 | .ref a,u=>u=G2 a
 | .ty n,u=>u=Z5 n
noncomputable abbrev Vals:List V->List Value->Prop:=Paired RelV
theorem Vals.length{xs:List V}{us:List Value}(r:Vals xs us):xs.length=us.length:=Paired.length r
theorem Vals.get:∀{xs:List V}{us:List Value}{i:Nat}{x:V},Vals xs us->xs[i]?=some x->∃u,us[i]?=some u/\RelV x u
 | _,_,_,_,.nil,e=>by simp at e
 | _,_,0,_,.cons r _,e=>by simp at e;subst e;exact ⟨_,rfl,r⟩
 | _,_,i+1,x,.cons _ t,e=>by
  obtain⟨u,h1,h2⟩:=Vals.get (i:=i) (x:=x) t (by simpa using e)
  exact ⟨u,by simpa using h1,h2⟩
theorem Vals.set{x:V}{u:Value}(r:RelV x u):∀{xs:List V}{us:List Value} (i:Nat),Vals xs us->Vals (xs.set i x) (us.set i u)
 | _,_,_,.nil=>.nil
 | _,_,0,.cons _ t=>.cons r t
 | _,_,i+1,.cons q t=>.cons q (Vals.set r i t)
theorem Vals.append:∀{xs ys:List V}{us ws:List Value},Vals xs us->Vals ys ws->Vals (xs++ys) (us++ws)
 | _,_,_,_,.nil,s=>s
 | _,_,_,_,.cons r t,s=>.cons r (Vals.append t s)
theorem Vals.take:∀{xs:List V}{us:List Value} (n:Nat),Vals xs us->Vals (xs.take n) (us.take n)
 | _,_,0,_=>.nil
 | _,_,_+1,.nil=>.nil
 | _,_,n+1,.cons r t=>.cons r (Vals.take n t)
theorem Vals.drop:∀{xs:List V}{us:List Value} (n:Nat),Vals xs us->Vals (xs.drop n) (us.drop n)
 | _,_,0,r=>r
 | _,_,_+1,.nil=>.nil
 | _,_,n+1,.cons _ t=>Vals.drop n t
theorem Vals.none_of:∀{xs:List V}{us:List Value}{i:Nat},Vals xs us->xs[i]?=none->us[i]?=none:=λ{xs us i} r e=>by
 have h1:=r.length
 have h2:xs.length<=i:=J3.mp e
 exact J3.mpr (by omega)
noncomputable def RelO:Option V->Option Value->Prop
 | some v,some u=>RelV v u
 | none,none=>True
 | _,_=>False
noncomputable def KV{κ:Type}:List (κ×V)->List (κ×Value)->Prop:=Paired λ(p:κ×V) (q:κ×Value)=>p.1=q.1/\RelV p.2 q.2
noncomputable def kV:Key->V
 | .inl i=>.int i
 | .inr x=>.str x
inductive HO where
 | lst (xs:List V)
 | tup (xs:List V)
 | dK (kvs:List (Key×V))|dT (kvs:List (List Key×V))
 | set (S:Int->Bool) (n:Nat)
 | ins (C dx:Addr) (fs:List (Str×V))
 | own (x:Addr)
 | xd (fs:List (Str×V))
 | met (f x:Addr)
 | rng (lo hi:Int)
 | frz (o:Obj) (u:HO)
 | tbl (ps:Array Value)
 | ext (φ:Heap->Prop)
noncomputable abbrev Hp:=Addr->Option HO
noncomputable def upd(H:Hp)(a:Addr)(o:HO):Hp:=λb=>if b=a then some o else H b
theorem upd_same{H:Hp}{a:Addr}{o:HO}:upd H a o a=some o:=by unfold upd;rw[if_pos rfl]
theorem upd_ne{H:Hp}{a b:Addr}{o:HO}(h:b≠a):upd H a o b=H b:=by unfold upd;rw[if_neg h]
theorem ne_of_none{H:Hp}{a b:Addr}{o:HO}(h:H a=some o)(h':H b=none):a≠b:=by
 intro e;subst e;rw[h]at h';cases h'
noncomputable def IsTupD(h:Heap)(a:Addr)(items:Array Value):Prop:=∃o,h.get? a=some o/\o.cls=.type "tuple"/\∃n,o.data=.seq items n/\o.dict=none
theorem IsTupD.t{h:Heap}{a:Addr}{items:Array Value}:IsTupD h a items->IsTup h a items:=λ⟨o,e,c,n,d,_⟩=>⟨o,e,c,n,d⟩
theorem IsTupD.new(h:Heap)(items:Array Value):IsTupD (h.push { cls:=.type "tuple",data:=.seq items }) h.objs.size items:=⟨_,K0 _ rfl,rfl,_,rfl,rfl⟩
section
variable (P:Program)(w:World)
noncomputable def ObjOk(H:Hp)(h:Heap)(a:Addr):HO->Prop
 | .lst xs=>xs.length<=sizeLine/\∃(its:List Value) (n:Nat),Vals xs its/\h.get? a=some { cls:=.type "list",data:=.seq its.toArray n }
 | .tup xs=>xs.length<=sizeLine/\∃its:List Value,Vals xs its/\IsTupD h a its.toArray
 | .dK kvs=>kvs.length<=sizeLine/\(a==sysModules)=false/\∃vs,KV kvs vs/\h.DictOf (mixKind P w) a vs
 | .dT kvs=>kvs.length<=sizeLine/\(a==sysModules)=false/\∃xs:List (List Key×Addr×Value),
   Paired (λ(p:List Key×V) (q:List Key×Addr×Value)=>p.1=q.1/\H q.2.1=some (.tup (p.1.map kV))/\RelV p.2 q.2.2) kvs xs /\
   ∃o es ep,h.get? a=some o/\o.ExactDict/\o.data=.dict es ep/\es.toList=xs.map (entryOfKey (tupleKind (mixKind P w)))/\(xs.map (·.1)).Nodup
 | .set S n=>h.SetOf (intKind P w) a S n
 | .ins C dx fs=>H dx=some (.own a)/\fs.length<=1000/\dx≠a/\h.get? a=some (A8 C dx) /\
   ∃mA,h.Ns1 dx mA/\(∀f,RelO (fs.lookup f) (mA f))/\PySem.Within mA (fs.map (·.1))
 | .own _=>∃o,h.get? a=some o
 | .xd fs=>∃mA,h.Ns1 a mA/\∀f,RelO (fs.lookup f) (mA f)
 | .rng lo hi=>∃t u v,h.get? a=some { cls:=.type "range",data:=.fields #[.int lo t,.int hi u,.int 1 v] }
 | .frz o u=>h.get? a=some o/\ObjOk H h a u
 | .tbl ps=>h.get? a=some { cls:=.none,data:=.fields ps }
 | .met f x=>h.get? a=some (X6 (.ref f) (.ref x))
 | .ext φ=>φ h/\(∃o,h.get? a=some o)/\∀h1 h2:Heap,φ h1->(∀o,h1.get? a=some o->h2.get? a=some o)->φ h2
noncomputable def HOk(H:Hp)(h:Heap):Prop:=∀a o,H a=some o->ObjOk P w H h a o
end
section
variable {P:Program}{w:World}{H H':Hp}{h h':Heap}{a:Addr}{o:HO}
theorem ObjOk.lt(x:ObjOk P w H h a o):a < h.objs.size:=by
 cases o with
 | lst xs=>obtain⟨_,_,_,_,e⟩:=x;exact B0 e
 | tup xs=>obtain⟨_,_,_,p⟩:=x;exact p.t.lt
 | dK kvs=>obtain⟨_,_,_,_,o,_,_,e,_⟩:=x;exact B0 e
 | dT kvs=>obtain⟨_,_,_,_,o,_,_,e,_⟩:=x;exact B0 e
 | set S n=>obtain⟨o,_,_,_,e,_⟩:=x;exact B0 e
 | ins C dx fs=>obtain⟨_,_,_,e,_⟩:=x;exact B0 e
 | own y=>obtain⟨_,e⟩:=x;exact B0 e
 | xd fs=>obtain⟨_,⟨_,_,_,e,_⟩,_⟩:=x;exact B0 e
 | rng lo hi=>obtain⟨_,_,_,e⟩:=x;exact B0 e
 | frz ob u=>obtain⟨e,_⟩:=x;exact B0 e
 | tbl ps=>exact B0 (show h.get? a=some _ from x)
 | met f y=>exact B0 (show h.get? a=some _ from x)
 | ext φ=>obtain⟨_,⟨_,e⟩,_⟩:=x;exact B0 e
theorem Paired.mapP{α β:Type}{F G:α->β->Prop}:∀{l₁:List α}{l₂:List β},Paired F l₁ l₂->(∀a b,F a b->G a b)->Paired G l₁ l₂
 | _,_,.nil,_=>.nil
 | _,_,.cons r t,f=>.cons (f _ _ r) (Paired.mapP t f)
theorem ObjOk.stay(x:ObjOk P w H h a o)(k:∀b u,(b=a\/H b=some (.own a))->h.get? b=some u->h'.get? b=some u)
  (ho:∀b,H b=some (.own a)->H' b=some (.own a)) (ht:∀b xs,H b=some (.tup xs)->H' b=some (.tup xs)):ObjOk P w H' h' a o:=by
 induction o with
 | lst xs=>obtain⟨z,its,n,r,e⟩:=x;exact ⟨z,its,n,r,k _ _ (.inl rfl) e⟩
 | tup xs=>obtain⟨z,its,r,ob,e,c⟩:=x;exact ⟨z,its,r,ob,k _ _ (.inl rfl) e,c⟩
 | dK kvs=>obtain⟨z,y,vs,r,ob,es,ep,e,c⟩:=x;exact ⟨z,y,vs,r,ob,es,ep,k _ _ (.inl rfl) e,c⟩
 | dT kvs =>
  obtain⟨z,y,xs,r,ob,es,ep,e,c⟩:=x
  exact ⟨z,y,xs,Paired.mapP r λp q z=>⟨z.1,ht _ _ z.2.1,z.2.2⟩,ob,es,ep,k _ _ (.inl rfl) e,c⟩
 | set S n=>obtain⟨ob,es,ep,t,e,c⟩:=x;exact ⟨ob,es,ep,t,k _ _ (.inl rfl) e,c⟩
 | ins C dx fs =>
  obtain⟨d,z,ne,e,mA,⟨od,es,ep,e2,c⟩,r⟩:=x
  exact ⟨ho _ d,z,ne,k _ _ (.inl rfl) e,mA,⟨od,es,ep,k _ _ (.inr d) e2,c⟩,r⟩
 | own y=>obtain⟨ob,e⟩:=x;exact ⟨ob,k _ _ (.inl rfl) e⟩
 | xd fs=>obtain⟨mA,⟨od,es,ep,e,c⟩,r⟩:=x;exact ⟨mA,⟨od,es,ep,k _ _ (.inl rfl) e,c⟩,r⟩
 | rng lo hi=>obtain⟨t,u,v,e⟩:=x;exact ⟨t,u,v,k _ _ (.inl rfl) e⟩
 | frz ob u ih=>obtain⟨e,q⟩:=x;exact ⟨k _ _ (.inl rfl) e,ih q⟩
 | tbl ps =>
  have e:h.get? a=some { cls:=.none,data:=.fields ps }:=x
  show h'.get? a=some { cls:=.none,data:=.fields ps }
  exact k a _ (.inl rfl) e
 | met f y =>
  have e:h.get? a=some (X6 (.ref f) (.ref y)):=x
  show h'.get? a=some (X6 (.ref f) (.ref y))
  exact k a _ (.inl rfl) e
 | ext φ=>obtain⟨p,⟨o,e⟩,st⟩:=x;exact ⟨st _ _ p λo q=>k _ _ (.inl rfl) q,⟨o,k _ _ (.inl rfl) e⟩,st⟩
theorem HOk.lt(x:HOk P w H h)(e:H a=some o):a < h.objs.size:=(x a o e).lt
theorem HOk.fresh(x:HOk P w H h)(e:h.objs.size<=a):H a=none:=by
 cases q:H a with
 | none=>rfl
 | some u=>exact absurd (O0 (x.lt q) e) (X1 _)
theorem HOk.kept(x:HOk P w H h)(k:∀b u,h.get? b=some u->h'.get? b=some u):HOk P w H h':=λa o e =>
 (x a o e).stay (λb u _ q=>k b u q) (λ_ q=>q) λ_ _ q=>q
theorem HOk.laid(x:HOk P w H h)(k:∀b u,h.get? b=some u->h'.get? b=some u)(hp:h.objs.size<=a)(new:ObjOk P w (upd H a o) h' a o):HOk P w (upd H a o) h':=λb u e=>by
 have hn:=x.fresh hp
 by_cases hb:b=a
 ·subst hb;rw[upd_same]at e;cases e;exact new
 ·rw[upd_ne hb]at e
  exact (x b u e).stay (λc v _ q=>k c v q) (λc q=>by rw[upd_ne (ne_of_none q hn)];exact q) λc xs q=>by rw[upd_ne (ne_of_none q hn)];exact q
end
noncomputable def Rd(H:Hp)(a:Addr)(u:HO):Prop:=H a=some u\/∃o,H a=some (.frz o u)
theorem Rd.ok{P:Program}{w:World}{H:Hp}{h:Heap}{a:Addr}{u:HO}(r:Rd H a u)(x:HOk P w H h):ObjOk P w H h a u:=by
 rcases r with r|⟨o,r⟩
 ·exact x a u r
 ·obtain⟨_,q⟩:=x a _ r
  exact q
noncomputable def Mut:Option HO->Prop
 | some (.lst _)=>True
 | some (.dK _)=>True
 | some (.dT _)=>True
 | some (.set _ _)=>True
 | some (.ins _ _ _)=>True
 | some (.ext _)=>True
 | _=>False
section
variable {P:Program}{w:World}{H:Hp}{h h':Heap}{x e:Addr}{o':HO}
theorem HOk.write(ok:HOk P w H h)(mu:Mut (H x))(he:e=x\/H e=some (.own x))(k:∀b u,b≠e->h.get? b=some u->h'.get? b=some u)(heo:∃u,h'.get? e=some u)
  (new:ObjOk P w (upd H x o') h' x o'):HOk P w (upd H x o') h':=λb u q=>by
 have nown:∀c y,H c=some (.own y)->c≠x:=λc y r z=>by subst z;rw[r]at mu;exact mu
 have ntup:∀c xs,H c=some (.tup xs)->c≠x:=λc xs r z=>by subst z;rw[r]at mu;exact mu
 by_cases hb:b=x
 ·subst hb;rw[upd_same]at q;cases q;exact new
 ·rw[upd_ne hb]at q
  by_cases hbe:b=e
  ·have q':H b=some (.own x):=by
    rcases he with z|z
    ·exact absurd (hbe.trans z) hb
    ·rw[hbe];exact z
   rw[q]at q';cases q'
   obtain⟨v,hv⟩:=heo
   exact ⟨v,by rw[hbe];exact hv⟩
  ·refine (ok b u q).stay (λc v hc r=>k c v ?_ r) (λc r=>by rw[upd_ne (nown c b r)];exact r) λc xs r=>by rw[upd_ne (ntup c xs r)];exact r
   rcases hc with rfl|hc
   ·exact hbe
   ·rintro rfl
    rcases he with z|z
    ·exact nown c b hc z
    ·rw[hc]at z;cases z;exact hb rfl
end
structure Un(fs ex:List Addr)(H H':Hp)(h h':Heap):Prop where
 keep:∀b o,h.get? b=some o->H b=none->b∉fs->b∉ex->h'.get? b=some o
 slot:∀b o,h.get? b=some o->H b=none->b∈fs->b∉ex->∃sl,h'.get? b=some { o with slots:=sl }
 free:∀b o,h.get? b=some o->H b=none->b∉ex->H' b=none
 there:∀b o,h.get? b=some o->b∉ex->∃o',h'.get? b=some o'
 tups:∀b xs,H b=some (.tup xs)->H' b=some (.tup xs)
 frzs:∀b o u,H b=some (.frz o u)->H' b=some (.frz o u)
 tbls:∀b ps,H b=some (.tbl ps)->∃more,H' b=some (.tbl (ps++more))
section
variable {fs fs' ex ex':List Addr}{H H1 H2:Hp}{h h1 h2 h':Heap}{a x e:Addr}{o:HO}
theorem Un.any(u:Un fs ex H H1 h h1){b:Addr}{ob:Obj}(q:h.get? b=some ob)(n:H b=none)(hx:b∉ex):∃sl,h1.get? b=some { ob with slots:=sl }:=by
 by_cases hb:b∈fs
 ·exact u.slot b ob q n hb hx
 ·exact ⟨ob.slots,u.keep b ob q n hb hx⟩
theorem Un.kept(k:∀b u,h.get? b=some u->h'.get? b=some u):Un fs ex H H h h' :=
 ⟨λb ob q _ _ _=>k b ob q,λb ob q _ _ _=>⟨ob.slots,k b ob q⟩,λ_ _ _ n _=>n,λb ob q _=>⟨ob,k b ob q⟩,λ_ _ q=>q,λ_ _ _ q=>q,λ_ ps q=>⟨#[],by rw[q];simp⟩⟩
theorem Un.refl:Un fs ex H H h h:=Un.kept λ_ _ q=>q
theorem Un.laid(k:∀b u,h.get? b=some u->h'.get? b=some u)(hp:h.objs.size<=a)(hn:H a=none):Un fs ex H (upd H a o) h h' where
 keep:=λb u q _ _ _=>k b u q
 slot:=λb u q _ _ _=>⟨u.slots,k b u q⟩
 free:=λb u q n _=>by rw[upd_ne (S0 (O0 (B0 q) hp))];exact n
 there:=λb u q _=>⟨u,k b u q⟩
 tups:=λb xs q=>by rw[upd_ne (ne_of_none q hn)];exact q
 frzs:=λb u xs q=>by rw[upd_ne (ne_of_none q hn)];exact q
 tbls:=λb ps q=>⟨#[],by rw[upd_ne (ne_of_none q hn),q];simp⟩
theorem Un.write(mu:Mut (H x))(he:e=x\/H e=some (.own x))(k:∀b u,b≠e->h.get? b=some u->h'.get? b=some u)(heo:∃u,h'.get? e=some u):Un fs ex H (upd H x o) h h':=by
 have hx:∀b,H b=none->b≠x:=λb n z=>by subst z;rw[n]at mu;exact mu
 have hb:∀b,H b=none->b≠e:=λb n z=>by
  subst z
  rcases he with r|r
  ·exact hx b n r
  ·rw[n]at r;cases r
 have hm:∀b u,H b=some u->¬Mut (some u)->b≠x:=λb u q nm z=>by subst z;rw[q]at mu;exact nm mu
 refine ⟨λb u q n _ _=>k b u (hb b n) q,λb u q n _ _=>⟨u.slots,k b u (hb b n) q⟩,λb u q n _=>by rw[upd_ne (hx b n)];exact n,λb u q _=>?_,
   λb xs q=>by rw[upd_ne (hm b _ q λz=>z)];exact q,λb u xs q=>by rw[upd_ne (hm b _ q λz=>z)];exact q,λb ps q=>⟨#[],by rw[upd_ne (hm b _ q λz=>z),q];simp⟩⟩
 by_cases hbe:b=e
 ·subst hbe;exact heo
 ·exact ⟨u,k b u hbe q⟩
end
noncomputable def trk(h:Heap)(H:Hp):List Addr:=(A2 h.objs.size).filter λa=>(H a).isSome
noncomputable def hidT(h:Heap)(H:Hp):Heap:=PySem.W.hideAll h (trk h H)
theorem hidT_size(h:Heap)(H:Hp):(hidT h H).objs.size=h.objs.size:=PySem.W.hideAll_size _ _
theorem hidT_get{h:Heap}{H:Hp}{b:Addr}{o:Obj}(e:h.get? b=some o)(n:H b=none):(hidT h H).get? b=some o :=
 PySem.W.hideAll_get _ e λhm=>by
  have q:(H b).isSome=true:=(j5.mp hm).2
  rw[n]at q;simp at q
theorem of_hidT{h:Heap}{H:Hp}{b:Addr}{o:Obj}(e:(hidT h H).get? b=some o):h.get? b=some o/\H b=none:=by
 have e':h.get? b=some o:=PySem.W.of_hideAll (trk h H) e
 refine ⟨e',?_⟩
 cases q:H b with
 | none=>rfl
 | some x =>
  have hm:b∈trk h H:=j5.mpr ⟨Y2.mpr (B0 e'),by simp[q]⟩
  have z:(hidT h H).get? b=none:=PySem.W.hideAll_none (trk h H) hm
  rw[z]at e;cases e
noncomputable def allNews(g h:Heap)(L:Addr):List (Addr×Obj):=(A2 h.objs.size).filterMap λa=>if a=L\/(g.get? a).isSome=true then none else (h.get? a).map λo=>(a,o)
noncomputable def rest(g h:Heap)(L d:Addr):List (Addr×Obj):=(allNews g h L).filter λp=>decide (p.1≠d)
structure Mod(K:j0)(mg:Str->Option Value)(base:Heap):Prop where
 kin:K.In base
 glob:base.Ns mainGlobals mg
 blt:∃mb,base.Ns builtinsNs mb/\∀x:Str,x ≠ "__name__"->mb x=bootBuiltins x
 nolimit:base.NoLimit
structure Cx where
 prog:Program
 w:World
 K:j0
 mg:Str->Option Value
 base:Heap
 A:Around
 N:List Str
 s₀:Shared
 H₀:Hp
 env:Env
 outer:List Env
 stack:List Env
 ex:List Addr
 fn:Str->Bool
 calm:Bool
 pn:List (Addr×Obj)
 xe:Value->Shared->Prop
noncomputable def frs(l:List Env):List Addr:=l.filterMap (·.frame)
noncomputable abbrev Cx.fs(X:Cx):List Addr:=frs X.outer
noncomputable def Vis(sc:Scope)(x:Str):Prop:=sc.names.lookup x=some .local\/sc.names.lookup x=some .cell\/sc.names.lookup x=some .free
noncomputable def Loc(sc:Scope)(x:Str):Prop:=sc.names.lookup x=some .local\/sc.names.lookup x=some .cell
noncomputable def Look(env:Env)(h:Heap)(m:Str->Option Value)(x:Str)(u:Value):Prop :=
 (env.kindOf x=some .local/\m x=some u)\/((env.kindOf x=some .cell\/env.kindOf x=some .free)/\∃c,env.cells.lookup x=some c/\h.IsCell c (some u))
structure Cx.Ok(X:Cx):Prop where
 mod:Mod X.K X.mg X.base
 kind:X.env.scope.kind=.function
 glob:X.env.globals=mainGlobals
 blt:X.env.builtins=builtinsNs
 above:X.s₀.heap.objs.size<=X.env.locals
 inj:∀x y c,X.env.cells.lookup x=some c->X.env.cells.lookup y=some c->x=y
 has:∀x,(X.env.kindOf x=some .cell\/X.env.kindOf x=some .free)->∃c,X.env.cells.lookup x=some c
 cab:∀x c,X.fn x=true->X.env.cells.lookup x=some c->X.s₀.heap.objs.size<=c
 hd:X.calm=true->X.A.handled=none
 frames:X.A.frames=some X.stack
 stk:X.stack=X.outer\/(X.stack=X.env :: X.outer/\X.env.frame=some X.env.locals)
 exf:∀b∈X.ex,b≠X.env.locals/\∀x c,X.env.cells.lookup x=some c->c≠b
 bs:∀b o,X.base.get? b=some o->X.s₀.heap.get? b=some o/\X.H₀ b=none
 bsz:X.base.objs.size<=X.s₀.heap.objs.size
 noex:∀b o,X.base.get? b=some o->b∉X.ex
 exfs:∀b∈X.ex,b∉X.fs
 funs:X.s₀.heap.FunFrames X.base X.outer
 frf:∀b∈X.fs,X.H₀ b=none
structure Inv(X:Cx)(pins:List (Addr×Obj))(σ:List (Option V))(H:Hp)(s:Shared):Prop where
 ok:X.Ok
 os:s.os=X.s₀.os
 bare:AllBare s.gens
 base:Un X.fs X.ex X.H₀ H X.s₀.heap s.heap
 loc:∃m,s.heap.Ns X.env.locals m/\∀(i:Nat) (x:Str) (v:V),X.N[i]?=some x->σ[i]?=some (some v)->Vis X.env.scope x->∃u,RelV v u/\Look X.env s.heap m x u
 cell:∀x c,X.env.cells.lookup x=some c->∃v,s.heap.IsCell c v
 free:H X.env.locals=none
 freeC:∀x c,X.env.cells.lookup x=some c->H c=none
 pin:∀p∈X.pn++pins,s.heap.get? p.1=some p.2/\H p.1=none/\p.1≠X.env.locals/\p.1∉X.fs/\∀v,p.2.data≠.cell v
 hok:HOk X.prog X.w H s.heap
 len:σ.length=X.N.length
section
variable {X:Cx}{pins:List (Addr×Obj)}{σ:List (Option V)}{H H':Hp}{s:Shared}{h':Heap}
theorem Cx.Ok.nofr(ok:X.Ok){b:Addr}{o:Obj}(e:X.base.get? b=some o):b∉X.fs:=λhb=>by
 have:=(ok.funs.mem hb).1
 rw[e]at this;cases this
theorem Inv.bs(I:Inv X pins σ H s):∀b o,X.base.get? b=some o->s.heap.get? b=some o/\H b=none:=λb o e =>
 ⟨I.base.keep b o (I.ok.bs b o e).1 (I.ok.bs b o e).2 (I.ok.nofr e) (I.ok.noex b o e),I.base.free b o (I.ok.bs b o e).1 (I.ok.bs b o e).2 (I.ok.noex b o e)⟩
theorem Inv.bk(I:Inv X pins σ H s):∀b o,X.base.get? b=some o->s.heap.get? b=some o:=λb o e=>(I.bs b o e).1
theorem Inv.mod(I:Inv X pins σ H s):Mod X.K X.mg X.base:=I.ok.mod
theorem Inv.kIn(I:Inv X pins σ H s):X.K.In s.heap:=I.ok.mod.kin.keeps I.bk
theorem Inv.lt(I:Inv X pins σ H s):X.env.locals < s.heap.objs.size:=let ⟨_,hn,_⟩:=I.loc;hn.lt
theorem Inv.sz(I:Inv X pins σ H s):X.s₀.heap.objs.size<=s.heap.objs.size:=O1 I.ok.above (G5 I.lt)
theorem Inv.nofs(I:Inv X pins σ H s){a:Addr}(h:s.heap.objs.size<=a):a∉X.fs:=λhb=>by
 obtain⟨_,o,ho,_⟩:=I.ok.funs.mem hb
 exact absurd (O0 (B0 ho) (O1 I.sz h)) (X1 _)
theorem Inv.cne(I:Inv X pins σ H s):∀x c,X.env.cells.lookup x=some c->c≠X.env.locals:=λx c e z=>by
 obtain⟨v,o,ho,hd⟩:=I.cell x c e
 obtain⟨m,⟨o',es,ep,ho',hd',_⟩,_⟩:=I.loc
 rw[z,ho']at ho;cases ho;rw[hd']at hd;cases hd
theorem Inv.funs(I:Inv X pins σ H s):s.heap.FunFrames X.base X.outer:=by
 have all:∀(l:List Env),(∀b∈frs l,b∈X.fs)->X.s₀.heap.FunFrames X.base l->s.heap.FunFrames X.base l:=by
  intro l
  induction l with
  | nil=>intro _ _;trivial
  | cons env r ih =>
   intro hs hl
   obtain⟨hk,⟨L,o,hf,hn,ho,hd⟩,hr⟩:=hl
   have hL:L∈X.fs:=hs L (by unfold frs;rw[A6,hf];exact M0)
   obtain⟨sl,e⟩:=I.base.slot L o ho (I.ok.frf L hL) hL λz=>I.ok.exfs L z hL
   exact ⟨hk,⟨L,_,hf,hn,e,hd⟩,ih (λb hb=>hs b (by unfold frs;rw[A6,hf];exact G0 _ hb)) hr⟩
 exact all X.outer (λ_ hb=>hb) I.ok.funs
theorem Inv.stack(I:Inv X pins σ H s):s.heap.FunFrames X.base X.stack:=by
 rcases I.ok.stk with e|⟨e,hf⟩
 ·rw[e];exact I.funs
 ·rw[e]
  obtain⟨m,hn,_⟩:=I.loc
  refine .cons (by rw[I.ok.kind];decide) hf hn ?_ I.funs
  exact O7 (O1 I.ok.bsz I.ok.above)
theorem Inv.stkSub(I:Inv X pins σ H s):∀b∈frs X.stack,b∈X.env.locals :: X.fs:=λb hb=>by
 rcases I.ok.stk with e|⟨e,hf⟩
 ·rw[e]at hb;exact G0 _ hb
 ·rw[e]at hb
  unfold frs at hb
  rw[A6,hf]at hb
  exact hb
theorem Inv.stkFree(I:Inv X pins σ H s):∀b∈frs X.stack,H b=none:=λb hb=>by
 rcases B1.mp (I.stkSub b hb) with e|hb
 ·rw[e];exact I.free
 ·obtain⟨_,o,ho,_⟩:=I.ok.funs.mem hb
  exact I.base.free b o ho (I.ok.frf b hb) λz=>I.ok.exfs b z hb
theorem Inv.step{g':Array GenState}{t':Nat}{d':Drawn}{ch:List Addr}(I:Inv X pins σ H s)
  (hch:∀b∈ch,(b∈X.ex\/X.s₀.heap.objs.size<=b)/\b≠X.env.locals/\(∀x c,X.env.cells.lookup x=some c->c≠b)/\∀p∈X.pn++pins,p.1≠b)
  (keep:∀b o,b≠X.env.locals->b∉X.fs->b∉ch->s.heap.get? b=some o->H b=none->h'.get? b=some o)
  (slot:∀b o,b≠X.env.locals->b∈X.fs->b∉ch->s.heap.get? b=some o->H b=none->∃sl,h'.get? b=some { o with slots:=sl }) (free:∀b o,b∉ch->s.heap.get? b=some o->H b=none->H' b=none)
  (there:∀b o,b∉ch->s.heap.get? b=some o->∃o',h'.get? b=some o')
  (tups:∀b xs,H b=some (.tup xs)->H' b=some (.tup xs)) (frzs:∀b o u,H b=some (.frz o u)->H' b=some (.frz o u)) (tbls:∀b ps,H b=some (.tbl ps)->∃more,H' b=some (.tbl (ps++more)))
  (ns:∀m,s.heap.Ns X.env.locals m->h'.Ns X.env.locals m) (hok:HOk X.prog X.w H' h') (hg:AllBare g') :
  Inv X pins σ H' { s with heap:=h',gens:=g',drawn:=d',toks:=t' }:=by
 have neL:∀b o,X.s₀.heap.get? b=some o->b≠X.env.locals:=λb o e=>S0 (O0 (B0 e) I.ok.above)
 have neC:∀b o,X.s₀.heap.get? b=some o->b∉X.ex->b∉ch:=λb o e hx hb=>by
  rcases (hch b hb).1 with z|z
  ·exact hx z
  ·exact absurd (O0 (B0 e) z) (X1 _)
 have cellK:∀x c,X.env.cells.lookup x=some c->∀v,s.heap.IsCell c v->h'.IsCell c v:=λx c e v ⟨o,ho,hd⟩=>by
  have nch:c∉ch:=λz=>(hch c z).2.2.1 x c e rfl
  by_cases hc:c∈X.fs
  ·obtain⟨sl,q⟩:=slot c o (I.cne x c e) hc nch ho (I.freeC x c e)
   exact ⟨_,q,hd⟩
  ·exact ⟨o,keep c o (I.cne x c e) hc nch ho (I.freeC x c e),hd⟩
 refine ⟨I.ok,I.os,hg,⟨λb o e n hb hx=>?_,λb o e n hb hx=>?_,λb o e n hx=>?_,λb o e hx=>?_,λb xs e=>tups b xs (I.base.tups b xs e),λb o xs e=>frzs b o xs (I.base.frzs b o xs e),λb ps e=>?_⟩,?_,λx c e=>?_,?_,λx c e=>?_,λp hp=>?_,hok,I.len⟩
 ·exact keep b o (neL b o e) hb (neC b o e hx) (I.base.keep b o e n hb hx) (I.base.free b o e n hx)
 ·obtain⟨sl,e1⟩:=I.base.slot b o e n hb hx
  obtain⟨sl',e2⟩:=slot b _ (neL b o e) hb (neC b o e hx) e1 (I.base.free b o e n hx)
  exact ⟨sl',e2⟩
 ·obtain⟨o',e1⟩:=I.base.there b o e hx
  exact free b o' (neC b o e hx) e1 (I.base.free b o e n hx)
 ·obtain⟨o',e1⟩:=I.base.there b o e hx
  exact there b o' (neC b o e hx) e1
 ·obtain⟨m1,e1⟩:=I.base.tbls b ps e
  obtain⟨m2,e2⟩:=tbls b _ e1
  exact ⟨m1++m2,by rw[e2,Array.append_assoc]⟩
 ·obtain⟨m,hn,hl⟩:=I.loc
  refine ⟨m,ns m hn,λi x v e1 e2 e3=>?_⟩
  obtain⟨u,r,l⟩:=hl i x v e1 e2 e3
  refine ⟨u,r,?_⟩
  rcases l with l|⟨k,c,e,z⟩
  ·exact .inl l
  ·exact .inr ⟨k,c,e,cellK x c e _ z⟩
 ·obtain⟨v,z⟩:=I.cell x c e
  exact ⟨v,cellK x c e v z⟩
 ·obtain⟨m,⟨o,_,_,ho,_⟩,_⟩:=I.loc
  exact free _ o (λz=>(hch _ z).2.1 rfl) ho I.free
 ·obtain⟨v,o,ho,hd⟩:=I.cell x c e
  exact free c o (λz=>(hch c z).2.2.1 x c e rfl) ho (I.freeC x c e)
 ·obtain⟨e,n,ne,nf,d⟩:=I.pin p hp
  have nch:p.1∉ch:=λz=>(hch p.1 z).2.2.2 p hp rfl
  exact ⟨keep p.1 p.2 ne nf nch e n,free p.1 p.2 nch e n,ne,nf,d⟩
theorem Inv.un{t':Nat}(I:Inv X pins σ H s)(u:Un X.fs [] H H' s.heap h')(hok:HOk X.prog X.w H' h'):Inv X pins σ H' { s with heap:=h',toks:=t' }:=by
 obtain⟨m,⟨o,es,ep,ho,r⟩,_⟩:=id I.loc
 obtain⟨sl,hL⟩:=u.any ho I.free (by simp)
 exact I.step (g':=s.gens) (d':=s.drawn) (ch:=[]) (λ_ z=>nomatch z) (λb o _ hb _ e n=>u.keep b o e n hb (by simp)) (λb o _ hb _ e n=>u.slot b o e n hb (by simp)) (λb o _ e n=>u.free b o e n (by simp)) (λb o _ e=>u.there b o e (by simp)) u.tups u.frzs u.tbls (λm' hm=>by
   obtain⟨o',es',ep',ho',r'⟩:=hm
   rw[ho]at ho';cases ho'
   exact ⟨_,es',ep',hL,r'⟩) hok I.bare
theorem Inv.call{g':Array GenState}{t':Nat}{d':Drawn}{ch:List Addr}(I:Inv X pins σ H s)(u:Un (frs X.stack) ch H H' s.heap h')(hok:HOk X.prog X.w H' h')(hg:AllBare g')
  (hch:∀b∈ch,(b∈X.ex\/X.s₀.heap.objs.size<=b)/\b≠X.env.locals/\(∀x c,X.env.cells.lookup x=some c->c≠b)/\∀p∈X.pn++pins,p.1≠b) :
  Inv X pins σ H' { s with heap:=h',gens:=g',drawn:=d',toks:=t' }:=by
 obtain⟨m,⟨o,es,ep,ho,r⟩,_⟩:=id I.loc
 obtain⟨sl,hL⟩:=u.any ho I.free λz=>(hch _ z).2.1 rfl
 exact I.step (ch:=ch) hch (λb o hL hb hc e n=>u.keep b o e n (λz=>(B1.mp (I.stkSub b z)).elim hL hb) hc) (λb o _ _ hc e n=>u.any e n hc) (λb o hc e n=>u.free b o e n hc) (λb o hc e=>u.there b o e hc) u.tups u.frzs u.tbls (λm' hm=>by
   obtain⟨o',es',ep',ho',r'⟩:=hm
   rw[ho]at ho';cases ho'
   exact ⟨_,es',ep',hL,r'⟩) hok hg
theorem Inv.turned{t':Nat}{it:Addr}(I:Inv X pins σ H s)(k:∀b o,b≠it->s.heap.get? b=some o->h'.get? b=some o)(hn:H it=none)(hL:it≠X.env.locals)
  (h1:it∈X.ex\/X.s₀.heap.objs.size<=it) (h2:∀x c,X.env.cells.lookup x=some c->c≠it) (h3:∀p∈X.pn++pins,p.1≠it):Inv X pins σ H { s with heap:=h',toks:=t' }:=by
 have nit:∀b u,H b=some u->b≠it:=λb u e z=>by rw[z,hn]at e;cases e
 refine I.step (g':=s.gens) (d':=s.drawn) (ch:=[it]) (λb hb=>?_) (λb o _ _ hc e _=>k b o (λz=>hc (by simp[z])) e) (λb o _ _ hc e _=>⟨o.slots,k b o (λz=>hc (by simp[z])) e⟩) (λ_ _ _ _ n=>n)
  (λb o hc e=>⟨o,k b o (λz=>hc (by simp[z])) e⟩) (λ_ _ e=>e) (λ_ _ _ e=>e) (λb ps e=>⟨#[],by rw[e];simp⟩) (λm hm=>?_) (λb u e=>?_) I.bare
 ·have e:b=it:=by simpa using hb
  subst e
  exact ⟨h1,hL,h2,h3⟩
 ·obtain⟨o,es,ep,ho,r⟩:=hm
  exact ⟨o,es,ep,k _ o (J1 hL) ho,r⟩
 ·refine (I.hok b u e).stay (λc v hc q=>k c v ?_ q) (λ_ q=>q) λ_ _ q=>q
  rcases hc with z|z
  ·rw[z];exact nit b u e
  ·exact nit c _ z
theorem Inv.tok(I:Inv X pins σ H s)(t:Nat):Inv X pins σ H { s with toks:=t }:=I.un (h':=s.heap) (t':=t) Un.refl I.hok
theorem Inv.kept{t':Nat}(I:Inv X pins σ H s)(k:∀b u,s.heap.get? b=some u->h'.get? b=some u):Inv X pins σ H { s with heap:=h',toks:=t' }:=I.un (Un.kept k) (I.hok.kept k)
theorem Inv.laid{a:Addr}{o:HO}{t':Nat}(I:Inv X pins σ H s)(k:∀b u,s.heap.get? b=some u->h'.get? b=some u)(hp:s.heap.objs.size<=a)(new:ObjOk X.prog X.w (upd H a o) h' a o) :
  Inv X pins σ (upd H a o) { s with heap:=h',toks:=t' }:=I.un (Un.laid k hp (I.hok.fresh hp)) (I.hok.laid k hp new)
theorem Inv.write{x e:Addr}{o:HO}{t':Nat}(I:Inv X pins σ H s)(mu:Mut (H x))(he:e=x\/H e=some (.own x))(k:∀b u,b≠e->s.heap.get? b=some u->h'.get? b=some u)(heo:∃u,h'.get? e=some u)
  (new:ObjOk X.prog X.w (upd H x o) h' x o):Inv X pins σ (upd H x o) { s with heap:=h',toks:=t' }:=I.un (Un.write mu he k heo) (I.hok.write mu he k heo new)
theorem Inv.pins_of{pins':List (Addr×Obj)}(I:Inv X pins σ H s)(h:∀p∈pins',s.heap.get? p.1=some p.2/\H p.1=none/\p.1≠X.env.locals/\p.1∉X.fs/\∀v,p.2.data≠.cell v):Inv X pins' σ H s :=
 ⟨I.ok,I.os,I.bare,I.base,I.loc,I.cell,I.free,I.freeC,λp hp=>(Z2.mp hp).elim (λz=>I.pin p (u6 _ z)) (h p),I.hok,I.len⟩
theorem nodup_ix{N:List Str}(hN:N.Nodup){i j:Nat}{x:Str}(a:N[i]?=some x)(b:N[j]?=some x):i=j:=by
 obtain⟨h1,e1⟩:=X0.mp a
 obtain⟨h2,e2⟩:=X0.mp b
 exact (List.getElem_inj hN).mp (e1.trans e2.symm)
theorem store_ok2{M:Model}{A:Around}{E:Value->Shared->Prop}{i:Nat}{x:Str}{v:V}{u:Value}{Q:Unit->Shared->Prop}(I:Inv X pins σ H s)(hN:X.N.Nodup)(hi:X.N[i]?=some x)(hx:Loc X.env.scope x)(r:RelV v u)
  (h:∀s',Inv X pins (σ.set i (some v)) H s'->(∃a,Y4 a s.heap s'.heap/\(a=X.env.locals\/X.env.cells.lookup x=some a))->Q () s') (hf:X.fn x=true\/X.env.scope.names.lookup x=some .local:=by first|exact .inl rfl|exact .inr rfl|assumption):wpAny M A (storeName X.env x u) Q E s:=by
 obtain⟨m,hn,hl⟩:=id I.loc
 have hcls:(X.env.scope.kind==.class||(X.env.scope.kind==.module&&X.env.locals != X.env.globals))=false:=by rw[I.ok.kind];rfl
 have hiσ:i < σ.length:=by rw[I.len];exact (X0.mp hi).1
 have cne:=I.cne
 have tracked:∀{a:Addr}{h':Heap},(∃o,s.heap.get? a=some o/\H a=none)->Y4 a s.heap h'->HOk X.prog X.w H h':=λ{a h'} ha hs b ob e=>by
  obtain⟨_,_,hfree⟩:=ha
  refine (I.hok b ob e).stay (λc w' hc q=>(hs.2 c ?_).trans q) (λ_ q=>q) λ_ _ q=>q
  rintro rfl
  rcases hc with rfl|hc
  ·rw[hfree]at e;cases e
  ·rw[hfree]at hc;cases hc
 rcases hx with hk|hk
 ·refine wpAny_storeName_local hk hn (λh' hn' hs=>?_) hcls
  obtain⟨oL,_,_,hoL,_⟩:=id hn
  refine h _ ⟨I.ok,I.os,I.bare,⟨λb o e n hb hx=>?_,λb o e n hb hx=>?_,I.base.free,λb o e hx=>?_,I.base.tups,I.base.frzs,I.base.tbls⟩,⟨_,hn',λj y v' e1 e2 e3=>?_⟩,λy c e=>?_,I.free,I.freeC,λp hp=>?_,tracked ⟨oL,hoL,I.free⟩ hs,by simpa using I.len⟩ ⟨_,hs,.inl rfl⟩
  ·exact (hs.2 b (S0 (O0 (B0 e) I.ok.above))).trans (I.base.keep b o e n hb hx)
  ·obtain⟨sl,e1⟩:=I.base.slot b o e n hb hx
   exact ⟨sl,(hs.2 b (S0 (O0 (B0 e) I.ok.above))).trans e1⟩
  ·obtain⟨o',e1⟩:=I.base.there b o e hx
   exact ⟨o',(hs.2 b (S0 (O0 (B0 e) I.ok.above))).trans e1⟩
  ·by_cases hj:j=i
   ·subst hj
    rw[hi]at e1;cases e1
    rw[Y5 hiσ]at e2
    cases e2
    exact ⟨u,r,.inl ⟨hk,by simp⟩⟩
   ·rw[P0 (J1 hj)]at e2
    obtain⟨u',r',q⟩:=hl j y v' e1 e2 e3
    refine ⟨u',r',?_⟩
    rcases q with⟨k,e⟩|⟨k,c,e,z⟩
    ·refine .inl ⟨k,?_⟩
     have:y≠x:=λe=>hj (nodup_ix hN e1 (e ▸ hi))
     simp[this,e]
    ·exact .inr ⟨k,c,e,z.sameBut hs (cne y c e)⟩
  ·obtain⟨w',z⟩:=I.cell y c e
   exact ⟨w',z.sameBut hs (cne y c e)⟩
  ·obtain⟨e,n,ne,nf,d⟩:=I.pin p hp
   exact ⟨(hs.2 p.1 ne).trans e,n,ne,nf,d⟩
 ·have hfn:X.fn x=true:=by
   rcases hf with z|z
   ·exact z
   ·rw[z]at hk;cases hk
  obtain⟨c,hc⟩:=I.ok.has x (.inl hk)
  obtain⟨w',z⟩:=I.cell x c hc
  refine wpAny_storeName_cell I.ok.kind hk hc z (λh' hc' hs=>?_)
  obtain⟨oc,hoc,hocd⟩:=id z
  refine h { s with heap:=h' } ⟨I.ok,I.os,I.bare,⟨λb o e n hb hx=>?_,λb o e n hb hx=>?_,I.base.free,λb o e hx=>?_,I.base.tups,I.base.frzs,I.base.tbls⟩,⟨m,hn.sameBut hs (J1 (cne x c hc)),λj y v' e1 e2 e3=>?_⟩,λy c' e=>?_,I.free,I.freeC,λp hp=>?_,tracked ⟨oc,hoc,I.freeC x c hc⟩ hs,by simpa using I.len⟩ ⟨c,hs,.inr hc⟩
  ·exact (hs.2 b (S0 (O0 (B0 e) (I.ok.cab x c hfn hc)))).trans (I.base.keep b o e n hb hx)
  ·obtain⟨sl,e1⟩:=I.base.slot b o e n hb hx
   exact ⟨sl,(hs.2 b (S0 (O0 (B0 e) (I.ok.cab x c hfn hc)))).trans e1⟩
  ·obtain⟨o',e1⟩:=I.base.there b o e hx
   exact ⟨o',(hs.2 b (S0 (O0 (B0 e) (I.ok.cab x c hfn hc)))).trans e1⟩
  ·by_cases hj:j=i
   ·subst hj
    rw[hi]at e1;cases e1
    rw[Y5 hiσ]at e2
    cases e2
    exact ⟨u,r,.inr ⟨.inl hk,c,hc,hc'⟩⟩
   ·rw[P0 (J1 hj)]at e2
    obtain⟨u',r',q⟩:=hl j y v' e1 e2 e3
    refine ⟨u',r',?_⟩
    rcases q with q|⟨k,c',e,z'⟩
    ·exact .inl q
    ·refine .inr ⟨k,c',e,z'.sameBut hs ?_⟩
     rintro rfl
     exact hj (nodup_ix hN e1 (I.ok.inj _ _ _ e hc ▸ hi))
  ·by_cases hcc:c'=c
   ·subst hcc;exact ⟨_,hc'⟩
   ·obtain⟨w2,z2⟩:=I.cell y c' e
    exact ⟨w2,z2.sameBut hs hcc⟩
  ·obtain⟨e,n,ne,nf,d⟩:=I.pin p hp
   refine ⟨(hs.2 p.1 ?_).trans e,n,ne,nf,d⟩
   intro q
   rw[q,hoc]at e
   have q':oc=p.2:=V1 e
   exact d w' (by rw[<- q'];exact hocd)
theorem store_ok{M:Model}{A:Around}{E:Value->Shared->Prop}{i:Nat}{x:Str}{v:V}{u:Value}{Q:Unit->Shared->Prop}(I:Inv X pins σ H s)(hN:X.N.Nodup)(hi:X.N[i]?=some x)(hx:Loc X.env.scope x)(r:RelV v u)
  (h:∀s',Inv X pins (σ.set i (some v)) H s'->Q () s') (hf:X.fn x=true\/X.env.scope.names.lookup x=some .local:=by first|exact .inl rfl|exact .inr rfl|assumption):wpAny M A (storeName X.env x u) Q E s :=
 store_ok2 I hN hi hx r (λs' I' _=>h s' I') hf
theorem Inv.call'{s':Shared}{ch:List Addr}(I:Inv X pins σ H s)(ho:s'.os=s.os)(u:Un (frs X.stack) ch H H' s.heap s'.heap)(hok:HOk X.prog X.w H' s'.heap)(hg:AllBare s'.gens)
  (hch:∀b∈ch,(b∈X.ex\/X.s₀.heap.objs.size<=b)/\b≠X.env.locals/\(∀x c,X.env.cells.lookup x=some c->c≠b)/\∀p∈X.pn++pins,p.1≠b):Inv X pins σ H' s':=by
 obtain⟨h',g',d',t',o'⟩:=s'
 have e:o'=s.os:=ho
 subst e
 exact I.call (g':=g') (t':=t') (d':=d') u hok hg hch
end
noncomputable abbrev XK:=Value->Option Addr->Hp->Prop
noncomputable abbrev St:=List (Option V)
noncomputable abbrev VK:=V->Hp->Prop
noncomputable abbrev TE:=St->Hp->VK->Prop
noncomputable abbrev TT:=St->Hp->(Bool->Hp->Prop)->Prop
noncomputable abbrev TA:=St->Hp->(List V->Hp->Prop)->Prop
structure Ends where
 nx:St->Hp->Prop
 rt:VK
 bk:St->Hp->Prop:=λ_ _=>False
 ct:St->Hp->Prop:=λ_ _=>False
noncomputable abbrev TS:=Ends->St->Hp->Prop
noncomputable def EP(X:Cx)(pins:List (Addr×Obj))(σ:St)(Q:VK)(u:Value)(s':Shared):Prop:=∃v H',Inv X pins σ H' s'/\RelV v u/\Q v H'
noncomputable def TP(X:Cx)(pins:List (Addr×Obj))(σ:St)(Q:Bool->Hp->Prop)(b:Bool)(s':Shared):Prop:=∃H',Inv X pins σ H' s'/\Q b H'
noncomputable def AP(X:Cx)(pins:List (Addr×Obj))(σ:St)(Q:List V->Hp->Prop)(us:List Value)(s':Shared):Prop:=∃vs H',Inv X pins σ H' s'/\Vals vs us/\Q vs H'
noncomputable def SP(X:Cx)(pins:List (Addr×Obj))(D:Ends)(f:Flow)(s':Shared):Prop :=
 match f with
 | .next=>∃σ' H',Inv X pins σ' H' s'/\D.nx σ' H'
 | .brk=>∃σ' H',Inv X pins σ' H' s'/\D.bk σ' H'
 | .cont=>∃σ' H',Inv X pins σ' H' s'/\D.ct σ' H'
 | .ret u=>∃v σ' H',Inv X pins σ' H' s'/\RelV v u/\D.rt v H'
noncomputable def PE(X:Cx)(e:Expr)(t:TE):Prop :=
 ∀(pins:List (Addr×Obj)) (s:Shared) (σ:St) (H:Hp) (Q:VK),Inv X pins σ H s->t σ H Q->wpAny (model X.prog X.w) X.A (eval e X.env) (EP X pins σ Q) X.xe s
noncomputable def PT(X:Cx)(e:Expr)(t:TT):Prop :=
 ∀(pins:List (Addr×Obj)) (s:Shared) (σ:St) (H:Hp) (Q:Bool->Hp->Prop),Inv X pins σ H s->t σ H Q->wpAny (model X.prog X.w) X.A (isTrue e X.env (eval e X.env)) (TP X pins σ Q) X.xe s
noncomputable def PW(X:Cx)(e:Expr)(t:TT):Prop :=
 ∀(whole:Sem Value) (pins:List (Addr×Obj)) (s:Shared) (σ:St) (H:Hp) (Q:Bool->Hp->Prop),Inv X pins σ H s->t σ H Q->wpAny (model X.prog X.w) X.A (isTrue e X.env whole) (TP X pins σ Q) X.xe s
theorem PW.pt{X:Cx}{e:Expr}{t:TT}(h:PW X e t):PT X e t:=h _
noncomputable def PA(X:Cx)(es:List Expr)(t:TA):Prop :=
 ∀(pos:Pos) (pins:List (Addr×Obj)) (s:Shared) (σ:St) (H:Hp) (Q:List V->Hp->Prop),Inv X pins σ H s->t σ H Q->wpAny (model X.prog X.w) X.A (spliced (backTo pos (starEach es X.env))) (AP X pins σ Q) X.xe s
noncomputable def PS(X:Cx)(st:Stmt)(t:TS):Prop :=
 ∀(pins:List (Addr×Obj)) (s:Shared) (σ:St) (H:Hp) (D:Ends),Inv X pins σ H s->t D σ H->wpAny (model X.prog X.w) X.A (exec st X.env) (SP X pins D) X.xe s
noncomputable def PSs(X:Cx)(st:List Stmt)(t:TS):Prop :=
 ∀(pins:List (Addr×Obj)) (s:Shared) (σ:St) (H:Hp) (D:Ends),Inv X pins σ H s->t D σ H->wpAny (model X.prog X.w) X.A (execs st X.env) (SP X pins D) X.xe s
theorem thn{α:Type}{t:Sem α}{Q Q':α->Shared->Prop}{M:Model}{A:Around}{E:Value->Shared->Prop}{s:Shared}(h:wpAny M A t Q E s)(hQ:∀a s,Q a s->Q' a s):wpAny M A t Q' E s:=wpAny_mono h hQ λ_ _ x=>x
section
variable {X:Cx}
noncomputable def tVar(i:Nat):TE:=λσ H Q=>∃v,σ[i]?=some (some v)/\Q v H
noncomputable def tC(v:V):TE:=λ_ H Q=>Q v H
theorem pe_var{i:Nat}{x:Str}{pos:Pos}(hN:X.N[i]?=some x)(hv:Vis X.env.scope x)(hd:(x==("__debug__":Str))=false:=by decide)(hcd:(x==("__classdict__":Str))=false:=by decide):PE X (.Name x pos) (tVar i):=by
 intro pins s σ H Q I h
 obtain⟨v,e,h⟩:=h
 obtain⟨m,hn,hl⟩:=I.loc
 obtain⟨u,r,l⟩:=hl i x v hN e hv
 have fin:EP X pins σ Q u s:=⟨v,H,I,r,h⟩
 rcases l with⟨hk,hm⟩|⟨hk,c,hc,hcell⟩
 ·exact wpAny_Name (wpAny_loadName_local I.ok.kind hk hn hm fin) hd
 ·rcases hk with hk|hk
  ·exact wpAny_Name (wpAny_loadName_cell I.ok.kind hk hc hcell fin) hd
  ·exact wpAny_Name (wpAny_loadName_free I.ok.kind hk hc hcell fin hcd) hd
theorem pe_int{i j pos}:PE X (.Constant (.int i) j pos) (tC (.int i)):=λ_ _ _ H _ I h=>wpAny_Constant_int ⟨.int i,H,I.tok _,⟨_,rfl⟩,h⟩
theorem pe_bl{b j pos}:PE X (.Constant (.bool b) j pos) (tC (.bl b)):=λ_ _ _ H _ I h=>Constant_bool ⟨.bl b,H,I,rfl,h⟩
theorem pe_str{x j pos}:PE X (.Constant (.str x) j pos) (tC (.str x)):=λ_ _ _ H _ I h=>Calls.Constant_str ⟨.str x,H,I.tok _,⟨_,rfl⟩,h⟩
noncomputable def Gl(X:Cx)(x:Str):Prop:=X.env.kindOf x=some .globalImplicit
theorem ld_glob{E:Value->Shared->Prop}{pins:List (Addr×Obj)}{s:Shared}{σ:St}{H:Hp}{x:Str}{u:Value}{pos:Pos}{Q:Value->Shared->Prop}(I:Inv X pins σ H s)(hg:Gl X x)(hm:X.mg x=some u)(h:Q u s)
  (hd:(x==("__debug__":Str))=false:=by decide):wpAny (model X.prog X.w) X.A (eval (.Name x pos) X.env) Q E s :=
 Calls.Name_function_global I.ok.kind hg (Calls.loadGlobal_global (by rw[I.ok.glob];exact I.mod.glob.keeps I.bk) hm h) hd
theorem ld_blt{E:Value->Shared->Prop}{pins:List (Addr×Obj)}{s:Shared}{σ:St}{H:Hp}{x:Str}{u:Value}{pos:Pos}{Q:Value->Shared->Prop}(I:Inv X pins σ H s)(hg:Gl X x)(hm:X.mg x=none)(hv:bootBuiltins x=some u)(h:Q u s)
  (hn:x ≠ "__name__":=by decide) (hd:(x==("__debug__":Str))=false:=by decide):wpAny (model X.prog X.w) X.A (eval (.Name x pos) X.env) Q E s:=by
 obtain⟨mb,h1,h2⟩:=I.mod.blt
 exact Calls.Name_function_global I.ok.kind hg (Calls.loadGlobal_builtin (by rw[I.ok.glob];exact I.mod.glob.keeps I.bk) hm (by rw[I.ok.blt];exact h1.keeps I.bk) ((h2 x hn).trans hv) h) hd
theorem pe_glob{x:Str}{v:V}{u:Value}{pos:Pos}(hg:Gl X x)(hm:X.mg x=some u)(r:RelV v u)(hd:(x==("__debug__":Str))=false:=by decide):PE X (.Name x pos) (tC v) :=
 λ_ _ _ H _ I h=>ld_glob I hg hm ⟨v,H,I,r,h⟩ hd
theorem pe_bltn{x:Str}{v:V}{u:Value}{pos:Pos}(hg:Gl X x)(hm:X.mg x=none)(hv:bootBuiltins x=some u)(r:RelV v u)(hn:x ≠ "__name__":=by decide)(hd:(x==("__debug__":Str))=false:=by decide):PE X (.Name x pos) (tC v) :=
 λ_ _ _ H _ I h=>ld_blt I hg hm hv ⟨v,H,I,r,h⟩ hn hd
variable {a b:Expr}{ta tb:TE}{pos:Pos}
noncomputable def tB(t:TE):TT:=λσ H Q=>t σ H λx H1=>∃c,x=.bl c/\Q c H1
theorem pt_val{e:Expr}{t:TE}(h:PE X e t)(he:∀whole,isTrue e X.env whole=(do let v<-whole;standAt e.pos;holding [v] (truthy v)):=by intro _;rfl):PT X e (tB t):=by
 intro pins s σ H Q I hw
 refine isTrue_plain (thn (h pins s σ H _ I hw) λv s1 ⟨x,H1,I1,r1,q1⟩=>?_) (he _)
 obtain⟨d,rfl,q⟩:=q1
 cases r1
 exact wpAny_truthy_bool ⟨H1,I1,q⟩
variable {tA tB':TT}{rest:List Expr}
noncomputable def tAnd(t u:TT):TT:=λσ H Q=>t σ H λc H1=>if c=true then u σ H1 Q else Q false H1
noncomputable def tOr(t u:TT):TT:=λσ H Q=>t σ H λc H1=>if c=true then Q true H1 else u σ H1 Q
noncomputable def tNot(t:TT):TT:=λσ H Q=>t σ H λc H1=>Q (!c) H1
theorem pw_and1(ha:PT X a tA):PW X (.BoolOp .And [a] pos) tA:=by
 intro wh pins s σ H Q I h
 refine isTrue_and (thn (ha pins s σ H Q I h) λc s1 e=>?_)
 cases c with
 | true=>exact isTrue_and_nil e
 | false=>exact e
theorem pw_or1(ha:PT X a tA):PW X (.BoolOp .Or [a] pos) tA:=by
 intro wh pins s σ H Q I h
 refine isTrue_or (thn (ha pins s σ H Q I h) λc s1 e=>?_)
 cases c with
 | false=>exact isTrue_or_nil e
 | true=>exact e
theorem pw_and(ha:PT X a tA)(hb:PW X (.BoolOp .And (b :: rest) pos) tB'):PW X (.BoolOp .And (a :: b :: rest) pos) (tAnd tA tB'):=by
 intro wh pins s σ H Q I h
 refine isTrue_and (thn (ha pins s σ H _ I h) λc s1 ⟨H1,I1,q1⟩=>?_)
 cases c with
 | true=>exact hb wh pins s1 σ H1 Q I1 q1
 | false=>exact ⟨H1,I1,q1⟩
theorem pw_or(ha:PT X a tA)(hb:PW X (.BoolOp .Or (b :: rest) pos) tB'):PW X (.BoolOp .Or (a :: b :: rest) pos) (tOr tA tB'):=by
 intro wh pins s σ H Q I h
 refine isTrue_or (thn (ha pins s σ H _ I h) λc s1 ⟨H1,I1,q1⟩=>?_)
 cases c with
 | true=>exact ⟨H1,I1,q1⟩
 | false=>exact hb wh pins s1 σ H1 Q I1 q1
theorem pt_not(ha:PT X a tA):PT X (.UnaryOp .Not a pos) (tNot tA):=by
 intro pins s σ H Q I h
 exact isTrue_not (ha pins s σ H (λc H1=>Q (!c) H1) I h)
noncomputable def tAndV(ta tb:TE):TE:=λσ H Q=>ta σ H λx H1=>∃c,x=.bl c/\if c=true then tb σ H1 Q else Q (.bl false) H1
noncomputable def tOrV(ta tb:TE):TE:=λσ H Q=>ta σ H λx H1=>∃c,x=.bl c/\if c=true then Q (.bl true) H1 else tb σ H1 Q
noncomputable def tNotV(ta:TE):TE:=λσ H Q=>ta σ H λx H1=>∃c,x=.bl c/\Q (.bl (!c)) H1
theorem pe_one{op}{t:TE}(h:PE X a t):PE X (.BoolOp op [a] pos) t:=λpins s σ H Q I hw=>BoolOp_one (h pins s σ H Q I hw)
theorem pe_and(ha:PE X a ta)(hb:PE X (.BoolOp .And (b :: rest) pos) tb):PE X (.BoolOp .And (a :: b :: rest) pos) (tAndV ta tb):=by
 intro pins s σ H Q I h
 refine BoolOp_and (thn (ha pins s σ H _ I h) λv s1 ⟨x,H1,I1,r1,q1⟩=>?_)
 obtain⟨c,rfl,q1⟩:=q1
 cases r1
 refine wpAny_truthy_bool ?_
 cases c with
 | true=>exact hb pins s1 σ H1 Q I1 q1
 | false=>exact ⟨.bl false,H1,I1,rfl,q1⟩
theorem pe_or(ha:PE X a ta)(hb:PE X (.BoolOp .Or (b :: rest) pos) tb):PE X (.BoolOp .Or (a :: b :: rest) pos) (tOrV ta tb):=by
 intro pins s σ H Q I h
 refine BoolOp_or (thn (ha pins s σ H _ I h) λv s1 ⟨x,H1,I1,r1,q1⟩=>?_)
 obtain⟨c,rfl,q1⟩:=q1
 cases r1
 refine wpAny_truthy_bool ?_
 cases c with
 | false=>exact hb pins s1 σ H1 Q I1 q1
 | true=>exact ⟨.bl true,H1,I1,rfl,q1⟩
theorem pe_not(ha:PE X a ta):PE X (.UnaryOp .Not a pos) (tNotV ta):=by
 intro pins s σ H Q I h
 refine UnaryOp_ (thn (ha pins s σ H _ I h) λv s1 ⟨x,H1,I1,r1,q1⟩=>?_)
 obtain⟨c,rfl,q1⟩:=q1
 cases r1
 exact not_of (wpAny_truthy_bool ⟨.bl (!c),H1,I1,rfl,q1⟩)
noncomputable def tIf(t:TT)(ta tb:TE):TE:=λσ H Q=>t σ H λc H1=>if c=true then ta σ H1 Q else tb σ H1 Q
theorem pe_ifExp{c:Expr}(hc:PT X c tA)(ha:PE X a ta)(hb:PE X b tb):PE X (.IfExp c a b pos) (tIf tA ta tb):=by
 intro pins s σ H Q I h
 refine wpAny_IfExp (thn (hc pins s σ H _ I h) λd s1 ⟨H1,I1,q1⟩=>?_)
 cases d with
 | true=>exact ha pins s1 σ H1 Q I1 q1
 | false=>exact hb pins s1 σ H1 Q I1 q1
end
noncomputable def SqL(K:j0)(H:Hp)(a:Addr)(xs:List V):Prop :=
 Rd H a (.lst xs) \/
  ∃(o:Obj) (its:Array Value) (n:Nat),K.lookup a=some o/\o.cls=.type "list"/\o.dict=none/\o.data=.seq its n/\its.size<=sizeLine/\Vals xs its.toList
noncomputable def SqT(K:j0)(H:Hp)(a:Addr)(xs:List V):Prop :=
 Rd H a (.tup xs) \/
  ∃(o:Obj) (its:Array Value) (n:Nat),K.lookup a=some o/\o.cls=.type "tuple"/\o.data=.seq its n/\its.size<=sizeLine/\Vals xs its.toList
noncomputable def absV:Value->Option V
 | .none=>some .non
 | .bool b=>some (.bl b)
 | .int i _=>some (.int i)
 | .str x _=>some (.str x)
 | .bytes b _=>some (.byt b)
 | .float b _=>some (.flt b)
 | .ref a=>some (.ref a)
 | .type n=>some (.ty n)
 | _=>none
theorem RelV.abs{x:V}{u:Value}(r:RelV x u):absV u=some x:=by
 cases x with
 | non=>cases r;rfl
 | bl _=>cases r;rfl
 | int _=>obtain⟨t,rfl⟩:=r;rfl
 | str _=>obtain⟨t,rfl⟩:=r;rfl
 | byt _=>obtain⟨t,rfl⟩:=r;rfl
 | flt _=>obtain⟨t,rfl⟩:=r;rfl
 | ref _=>cases r;rfl
 | ty _=>cases r;rfl
theorem RelV.inj{x y:V}{u:Value}(r:RelV x u)(q:RelV y u):x=y:=V1 (r.abs.symm.trans q.abs)
theorem Vals.inj:∀{xs ys:List V}{us:List Value},Vals xs us->Vals ys us->xs=ys
 | _,_,_,.nil,.nil=>rfl
 | _,_,_,.cons r t,.cons r' t'=>by rw[r.inj r',Vals.inj t t']
section
variable {X:Cx}{pins:List (Addr×Obj)}{σ:St}{H:Hp}{s:Shared}{a:Addr}{xs ys:List V}
theorem SqL.of{K:j0}(h:H a=some (.lst xs)):SqL K H a xs:=.inl (.inl h)
theorem SqT.of{K:j0}(h:H a=some (.tup xs)):SqT K H a xs:=.inl (.inl h)
theorem Inv.list(I:Inv X pins σ H s)(h:SqL X.K H a xs):∃its:List Value,Vals xs its/\PlainL s.heap a its.toArray/\xs.length<=sizeLine:=by
 rcases h with h|⟨o,its,n,hk,hc,hd,hs,hz,r⟩
 ·obtain⟨z,its,n,r,e⟩:=h.ok I.hok
  exact ⟨its,r,⟨_,n,e,rfl,rfl,rfl⟩,z⟩
 ·refine ⟨its.toList,r,⟨o,n,I.kIn a o hk,hc,hd,by simpa using hs⟩,?_⟩
  have e:=r.length
  simp only[W1]at e
  omega
theorem Inv.tuple(I:Inv X pins σ H s)(h:SqT X.K H a xs):∃its:List Value,Vals xs its/\IsTup s.heap a its.toArray/\xs.length<=sizeLine:=by
 rcases h with h|⟨o,its,n,hk,hc,hs,hz,r⟩
 ·obtain⟨z,its,r,p⟩:=h.ok I.hok
  exact ⟨its,r,p.t,z⟩
 ·refine ⟨its.toList,r,⟨o,I.kIn a o hk,hc,n,by simpa using hs⟩,?_⟩
  have e:=r.length
  simp only[W1]at e
  omega
theorem Inv.list_inj(I:Inv X pins σ H s)(h:SqL X.K H a xs)(h':SqL X.K H a ys):xs=ys:=by
 obtain⟨its,r,⟨o,n,e,_,_,d⟩,_⟩:=I.list h
 obtain⟨its',r',⟨o',n',e',_,_,d'⟩,_⟩:=I.list h'
 rw[e]at e';cases e'
 rw[d]at d'
 injection d' with d1 _
 have:its=its':=by simpa using congrArg Array.toList d1
 subst this
 exact r.inj r'
theorem Inv.tuple_inj(I:Inv X pins σ H s)(h:SqT X.K H a xs)(h':SqT X.K H a ys):xs=ys:=by
 obtain⟨its,r,⟨o,e,_,n,d⟩,_⟩:=I.tuple h
 obtain⟨its',r',⟨o',e',_,n',d'⟩,_⟩:=I.tuple h'
 rw[e]at e';cases e'
 rw[d]at d'
 injection d' with d1 _
 have:its=its':=by simpa using congrArg Array.toList d1
 subst this
 exact r.inj r'
end
noncomputable abbrev Cx.wish(X:Cx)(E:Value->Shared->Prop):Cx:={ X with xe:=E }
noncomputable abbrev Cx.nox(X:Cx):Cx:=X.wish λ_ _=>False
theorem Cx.Ok.wish{X:Cx}(ok:X.Ok)(E:Value->Shared->Prop):(X.wish E).Ok :=
 ⟨ok.mod,ok.kind,ok.glob,ok.blt,ok.above,ok.inj,ok.has,ok.cab,ok.hd,ok.frames,ok.stk,ok.exf,ok.bs,ok.bsz,ok.noex,ok.exfs,ok.funs,ok.frf⟩
theorem Cx.Ok.unwish{X:Cx}{E:Value->Shared->Prop}(ok:(X.wish E).Ok):X.Ok :=
 ⟨ok.mod,ok.kind,ok.glob,ok.blt,ok.above,ok.inj,ok.has,ok.cab,ok.hd,ok.frames,ok.stk,ok.exf,ok.bs,ok.bsz,ok.noex,ok.exfs,ok.funs,ok.frf⟩
section
variable {X:Cx}{pins:List (Addr×Obj)}{σ:St}{H:Hp}{s:Shared}{E:Value->Shared->Prop}
theorem Inv.wish(I:Inv X pins σ H s)(E:Value->Shared->Prop):Inv (X.wish E) pins σ H s:=⟨I.ok.wish E,I.os,I.bare,I.base,I.loc,I.cell,I.free,I.freeC,I.pin,I.hok,I.len⟩
theorem Inv.unwish(I:Inv (X.wish E) pins σ H s):Inv X pins σ H s:=⟨I.ok.unwish,I.os,I.bare,I.base,I.loc,I.cell,I.free,I.freeC,I.pin,I.hok,I.len⟩
theorem SP.unwish{D:Ends}{f:Flow}{s':Shared}(h:SP (X.wish E) pins D f s'):SP X pins D f s':=by
 cases f with
 | next=>obtain⟨σ',H',I,q⟩:=h;exact ⟨σ',H',I.unwish,q⟩
 | brk=>obtain⟨σ',H',I,q⟩:=h;exact ⟨σ',H',I.unwish,q⟩
 | cont=>obtain⟨σ',H',I,q⟩:=h;exact ⟨σ',H',I.unwish,q⟩
 | ret u=>obtain⟨v,σ',H',I,r,q⟩:=h;exact ⟨v,σ',H',I.unwish,r,q⟩
theorem PSs.nox{st:List Stmt}{t:TS}(h:PSs X.nox st t):PSs X st t:=λpins s σ H D I hw =>
 wpAny_mono (h pins s σ H D (I.wish _) hw) (λ_ _ q=>q.unwish) λ_ _ z=>False.elim z
end
section
variable {X:Cx}{st:Stmt}{rest:List Stmt}{t u:TS}{e:Expr}{te:TE}{pos:Pos}
noncomputable def tNext:TS:=λD σ H=>D.nx σ H
noncomputable def tSeq(t u:TS):TS:=λD σ H=>t { D with nx:=u D } σ H
theorem pss_nil:PSs X [] tNext:=λ_ _ σ H _ I h=>wpAny_execs_nil ⟨σ,H,I,h⟩
theorem pss_cons(h1:PS X st t)(h2:PSs X rest u):PSs X (st :: rest) (tSeq t u):=by
 intro pins s σ H D I h
 refine wpAny_execs_cons (thn (h1 pins s σ H { D with nx:=u D } I h) λf s1 q=>?_)
 cases f with
 | next =>
  obtain⟨σ',H',I',q⟩:=q
  exact h2 pins s1 σ' H' D I' q
 | ret v=>exact q
 | brk=>exact q
 | cont=>exact q
theorem pss_one(h1:PS X st t):PSs X [st] t:=by
 intro pins s σ H D I h
 refine wpAny_execs_cons (thn (h1 pins s σ H D I h) λf s1 q=>?_)
 cases f with
 | next=>exact wpAny_execs_nil q
 | ret v=>exact q
 | brk=>exact q
 | cont=>exact q
theorem Inv.quiet{pins:List (Addr×Obj)}{σ:St}{H:Hp}{s:Shared}(I:Inv X pins σ H s):interactive X.env=false:=by simp[interactive,I.ok.kind]
noncomputable def tDrop(te:TE):TS:=λD σ H=>te σ H λ_ H1=>D.nx σ H1
theorem ps_expr(he:PE X e te)(hs:swapsWith e none pos.line X.env=pure false:=by rfl):PS X (.Expr e pos) (tDrop te):=by
 intro pins s σ H D I h
 exact wpAny_Expr_any (thn (he pins s σ H _ I h) λv s1 ⟨x,H1,I1,r1,q1⟩=>⟨σ,H1,I1,q1⟩) I.quiet hs
noncomputable def tRet(te:TE):TS:=λD σ H=>te σ H D.rt
theorem ps_ret(he:PE X e te):PS X (.Return (some e) pos) (tRet te):=by
 intro pins s σ H D I h
 exact wpAny_Return_some (thn (he pins s σ H _ I h) λv s1 ⟨x,H1,I1,r1,q1⟩=>⟨x,σ,H1,I1,r1,q1⟩)
noncomputable def tIfS(c:TT)(t u:TS):TS:=λD σ H=>c σ H λb H1=>if b=true then t D σ H1 else u D σ H1
theorem ps_if{c:Expr}{a b:List Stmt}{tc:TT}(hc:PT X c tc)(ha:PSs X a t)(hb:PSs X b u):PS X (.If c a b pos) (tIfS tc t u):=by
 intro pins s σ H D I h
 refine wpAny_If (thn (hc pins s σ H _ I h) λd s1 ⟨H1,I1,q1⟩=>?_)
 cases d with
 | true=>exact ha pins s1 σ H1 D I1 q1
 | false=>exact hb pins s1 σ H1 D I1 q1
end
noncomputable abbrev TG:=V->St->Hp->(St->Hp->Prop)->Prop
noncomputable abbrev TGs:=List V->St->Hp->(St->Hp->Prop)->Prop
noncomputable def PG(X:Cx)(target:Expr)(t:TG):Prop :=
 ∀(pins:List (Addr×Obj)) (s:Shared) (σ:St) (H:Hp) (v:V) (u:Value) (Q:St->Hp->Prop),Inv X pins σ H s->RelV v u->t v σ H Q ->
  wpAny (model X.prog X.w) X.A (assign target X.env u) (λ_ s'=>∃σ' H',Inv X pins σ' H' s'/\Q σ' H') X.xe s
noncomputable def PGs(X:Cx)(ts:List Expr)(t:TGs):Prop :=
 ∀(pins:List (Addr×Obj)) (s:Shared) (σ:St) (H:Hp) (vs:List V) (us:List Value) (Q:St->Hp->Prop),Inv X pins σ H s->Vals vs us->t vs σ H Q ->
  wpAny (model X.prog X.w) X.A (assignInOrder ((assignEach ts X.env).map (·.2)) us) (λ_ s'=>∃σ' H',Inv X pins σ' H' s'/\Q σ' H') X.xe s
noncomputable abbrev TSet:=V->V->V->Hp->(Hp->Prop)->Prop
noncomputable def PSet(X:Cx)(t:TSet):Prop :=
 ∀(pins:List (Addr×Obj)) (s:Shared) (σ:St) (H:Hp) (o i v:V) (ov iv u:Value) (Q:Hp->Prop),Inv X pins σ H s->RelV o ov->RelV i iv->RelV v u->t o i v H Q ->
  wpAny (model X.prog X.w) X.A (setItem ov iv u) (λ_ s'=>∃H',Inv X pins σ H' s'/\Q H') X.xe s
section
variable {X:Cx}{pos:Pos}
noncomputable def gName(i:Nat):TG:=λv σ H Q=>Q (σ.set i (some v)) H
theorem pg_name{i:Nat}{x:Str}(hN:X.N.Nodup)(hi:X.N[i]?=some x)(hx:Loc X.env.scope x)(hf:X.fn x=true\/X.env.scope.names.lookup x=some .local:=by first|exact .inl rfl|exact .inr rfl|assumption):PG X (.Name x pos) (gName i):=by
 intro pins s σ H v u Q I r h
 exact wpAny_assign_Name (store_ok I hN hi hx r (λs' I'=>⟨_,H,I',h⟩) hf)
noncomputable def gNil:TGs:=λvs σ H Q=>vs=[]/\Q σ H
noncomputable def gCons(t:TG)(u:TGs):TGs:=λvs σ H Q=>∃v r,vs=v :: r/\t v σ H λσ' H'=>u r σ' H' Q
theorem pgs_nil:PGs X [] gNil:=by
 intro pins s σ H vs us Q I r h
 obtain⟨e,h⟩:=h
 subst e
 cases r
 exact assignInOrder_nil ⟨σ,H,I,h⟩
theorem pgs_cons{e:Expr}{es:List Expr}{t:TG}{u:TGs}(h1:PG X e t)(h2:PGs X es u)
  (hs:(assignEach (e :: es) X.env).map (·.2)=assign e X.env :: (assignEach es X.env).map (·.2):=by rfl):PGs X (e :: es) (gCons t u):=by
 intro pins s σ H vs us Q I r h
 obtain⟨v,vr,e1,h⟩:=h
 subst e1
 cases r with
 | cons r rr =>
  rw[hs]
  refine assignInOrder_cons (thn (h1 pins s σ H _ _ _ I r h) λ_ s1 ⟨σ1,H1,I1,q1⟩=>?_)
  exact h2 pins s1 σ1 H1 _ _ Q I1 rr q1
noncomputable def gTup(K:j0)(n:Nat)(t:TGs):TG:=λv σ H Q=>∃a xs,v=.ref a/\SqT K H a xs/\xs.length=n/\t xs σ H Q
theorem pg_tup{es:List Expr}{k:Nat}{t:TGs}{n:Nat}(hc:X.calm=true)(h:PGs X es t)
  (hn:(assignEach es X.env).length=n:=by rfl) (hst:(assignEach es X.env).findIdx? (·.1)=none:=by rfl):PG X (.Tuple es k pos) (gTup X.K n t):=by
 intro pins s σ H v u Q I r hw
 obtain⟨a,xs,e1,hq,hl,hw⟩:=hw
 subst e1
 cases r
 obtain⟨its,rv,ht,hz⟩:=I.tuple hq
 refine assign_Tuple_tuple (I.ok.hd hc) ht (by simp[hn,<- hl,rv.length]) hst λh' hx=>?_
 have I1:Inv X pins σ H { s with heap:=h' }:=I.kept (t':=s.toks) λb o e=>hx b o (S0 (B0 e)) e
 exact h pins _ σ H xs _ Q I1 (by simpa using rv) hw
noncomputable def gSub(to ti:TE)(t:TSet):TG:=λv σ H Q=>to σ H λo H1=>ti σ H1 λi H2=>t o i v H2 λH3=>Q σ H3
theorem pg_sub{o i:Expr}{to ti:TE}{t:TSet}(ho:PE X o to)(hi:PE X i ti)(hs:PSet X t)
  (ha:∀v,assign (.Subscript o i pos) X.env v=(do
    let ov<-holding [v] (eval o X.env)
    let iv<-holding [v,ov] (eval i X.env)
    standAt pos
    holding [v,ov,iv] (setItem ov iv v)
    release [v,ov,iv] []):=by intro _;rfl):PG X (.Subscript o i pos) (gSub to ti t):=by
 intro pins s σ H v u Q I r h
 rw[ha]
 refine wpAny_bind (wpAny_holding (thn (ho pins s σ H _ I h) λov s1 ⟨x,H1,I1,r1,q1⟩=>?_))
 refine wpAny_bind (wpAny_holding (thn (hi pins s1 σ H1 _ I1 q1) λiv s2 ⟨y,H2,I2,r2,q2⟩=>?_))
 refine wpAny_bind (wpAny_standAt (wpAny_bind (wpAny_holding (thn (hs pins s2 σ H2 x y v ov iv u _ I2 r1 r2 r q2) λ_ s3 ⟨H3,I3,q3⟩=>?_))))
 exact wpAny_release ⟨σ,H3,I3,q3⟩
noncomputable def tAsg(te:TE)(g:TG):TS:=λD σ H=>te σ H λx H1=>g x σ H1 D.nx
theorem ps_asg{tg e:Expr}{te:TE}{g:TG}(he:PE X e te)(hg:PG X tg g)(hs:swapsWithSole [tg] e pos.line X.env=pure false:=by rfl)(hw:swappedStores [tg] e X.env=pure none:=by rfl)
  (h1:(assignEach [tg] X.env).map (·.2)=[assign tg X.env]:=by rfl):PS X (.Assign [tg] e pos) (tAsg te g):=by
 intro pins s σ H D I h
 refine wpAny_Assign_stores (thn (he pins s σ H _ I h) λv s1 ⟨x,H1,I1,r1,q1⟩=>?_) hs hw
 rw[h1]
 exact thn (hg pins s1 σ H1 x v _ I1 r1 q1) λ_ s2 q=>q
theorem ps_set{i:Nat}{x:Str}{e:Expr}{te:TE}{pos':Pos}(hN:X.N.Nodup)(hi:X.N[i]?=some x)(hx:Loc X.env.scope x)(he:PE X e te)(hs:swapsWith e (some (.Name x pos')) pos.line X.env=pure false:=by rfl)(hf:X.fn x=true\/X.env.scope.names.lookup x=some .local:=by first|exact .inl rfl|exact .inr rfl|assumption) :
  PS X (.Assign [.Name x pos'] e pos) (tAsg te (gName i)):=by
 intro pins s σ H D I h
 refine wpAny_Assign_Name (thn (he pins s σ H _ I h) λv s1 ⟨y,H1,I1,r1,q1⟩=>?_) hs
 exact store_ok I1 hN hi hx r1 (λs2 I2=>⟨_,H1,I2,q1⟩) hf
end
section
variable {X:Cx}{pos:Pos}
noncomputable def tWhile(c:TT)(tb:TS):TS:=λD σ H=>∃W:Nat->St->Hp->Prop,(∃m,W m σ H)/\∀m σ H,W m σ H ->
 c σ H λb H1=>if b=true then ∃N:St->Hp->Prop,(∀σ' H',N σ' H'->∃m',m' < m/\W m' σ' H')/\tb { D with nx:=N,ct:=N,bk:=D.nx } σ H1 else D.nx σ H1
theorem ps_while{c:Expr}{body:List Stmt}{tc:TT}{tb:TS}(hp:PassesOwn (model X.prog X.w) X.A X.env X.xe)(hc:PT X c tc)(hb:PSs X body tb):PS X (.While c body [] pos) (tWhile tc tb):=by
 intro pins s σ H D I h
 obtain⟨W,⟨m0,w0⟩,turn⟩:=h
 refine wpAny_While (codeAny_whileLoop (λn s'=>∃σ' H',Inv X pins σ' H' s'/\W n σ' H') ?_ m0 ⟨σ,H,I,w0⟩)
 rintro n s1 ⟨σ1,H1,I1,w1⟩
 refine wpAny_passesOwn hp (thn (hc pins s1 σ1 H1 _ I1 (turn n σ1 H1 w1)) λb s2 ⟨H2,I2,q2⟩=>?_)
 cases b with
 | true =>
  obtain⟨N,hN,q2⟩:=q2
  rw[if_pos rfl]
  refine wpAny_passesOwn hp (thn (hb pins s2 σ1 H2 _ I2 q2) λf s3 q3=>?_)
  cases f with
  | next =>
   obtain⟨σ3,H3,I3,n3⟩:=q3
   obtain⟨m',hm,w3⟩:=hN σ3 H3 n3
   exact ⟨m',hm,σ3,H3,I3,w3⟩
  | cont =>
   obtain⟨σ3,H3,I3,n3⟩:=q3
   obtain⟨m',hm,w3⟩:=hN σ3 H3 n3
   exact ⟨m',hm,σ3,H3,I3,w3⟩
  | brk=>exact q3
  | ret v=>exact q3
 | false =>
  rw[if_neg T0]
  exact wpAny_execs_nil ⟨σ1,H2,I2,q2⟩
end
structure It where
 go:Nat->Hp->Prop
 yld:Nat->Hp->V->Hp->Prop
 stop:Nat->Hp->Prop
noncomputable def FpOk(X:Cx)(pins:List (Addr×Obj))(H:Hp)(b:Addr):Prop :=
 H b=none/\b≠X.env.locals/\b∉X.fs/\(b∈X.ex\/X.s₀.heap.objs.size<=b)/\(∀x c,X.env.cells.lookup x=some c->c≠b)/\∀p∈X.pn++pins,p.1≠b
theorem Inv.fpOk{X:Cx}{pins:List (Addr×Obj)}{σ:St}{H H':Hp}{s:Shared}{b:Addr}(I:Inv X pins σ H s)(hb:s.heap.objs.size<=b)(hn:H' b=none):FpOk X pins H' b:=by
 refine ⟨hn,j1 (O0 I.lt hb),I.nofs hb,.inr (O1 I.sz hb),λx c e z=>?_,λp hp z=>?_⟩
 ·obtain⟨v,q⟩:=I.cell x c e
  exact absurd (O0 q.lt (by rw[z];exact hb)) (X1 _)
 ·exact absurd (O0 (B0 (I.pin p hp).1) (by rw[z];exact hb)) (X1 _)
structure Turn(P:Program)(w:World)(K:j0)(tg:Expr)(J:It)(fp:List Addr)(it:Addr)(tn:Nat->Heap->Prop):Prop where
 mem:it∈fp
 obj:∀i h,tn i h->∀b∈fp,∃o,h.get? b=some o/\∀v,o.data≠.cell v
 keep:∀i h h',tn i h->(∀b∈fp,∀o,h.get? b=some o->h'.get? b=some o)->tn i h'
 item:∀(X:Cx),X.prog=P->X.w=w->X.K=K->X.calm=true->∀(i:Nat) (pins:List (Addr×Obj)) (s:Shared) (σ:St) (H:Hp) (E:Value->Shared->Prop),Inv X pins σ H s->(∀b∈fp,FpOk X pins H b)->tn i s.heap->J.go i H ->
  wpAny (model P w) X.A (pyNext (.ref it)) (λr s1=>∃u,r=some u /\
    wpAny (model P w) X.A (letOwnedTupleGo tg (.ref it) u) (λ_ s2=>∃x H',Inv X pins σ H' s2/\RelV x u/\J.yld i H x H'/\tn (i+1) s2.heap/\∀b∈fp,H' b=none) E s1) E s
 done:∀(X:Cx),X.prog=P->X.w=w->X.K=K->X.calm=true->∀(i:Nat) (pins:List (Addr×Obj)) (s:Shared) (σ:St) (H:Hp) (E:Value->Shared->Prop),Inv X pins σ H s->(∀b∈fp,FpOk X pins H b)->tn i s.heap->J.stop i H ->
  wpAny (model P w) X.A (pyNext (.ref it)) (λr s1=>r=none/\Inv X pins σ H s1) E s
 self:∀(A:Around) (i:Nat) (s:Shared) (Q:Value->Shared->Prop) (E:Value->Shared->Prop),tn i s.heap->Q (.ref it) s->wpAny (model P w) A (pyIter (.ref it)) Q E s
noncomputable abbrev TI:=St->Hp->(It->Hp->Prop)->Prop
noncomputable def PIE(X:Cx)(pins:List (Addr×Obj))(σ:St)(tg:Expr)(R:It->Hp->Prop)(itv:Value)(s2:Shared):Prop :=
 ∃(it:Addr) (fp:List Addr) (tn:Nat->Heap->Prop) (J:It) (H':Hp),itv=.ref it/\Inv X pins σ H' s2/\Turn X.prog X.w X.K tg J fp it tn/\tn 0 s2.heap/\(∀b∈fp,FpOk X pins H' b)/\R J H'
noncomputable def PI(X:Cx)(tg iter:Expr)(wi:TI):Prop :=
 ∀(pins:List (Addr×Obj)) (s:Shared) (σ:St) (H:Hp) (R:It->Hp->Prop),Inv X pins σ H s->wi σ H R ->
  wpAny (model X.prog X.w) X.A (eval iter X.env) (λv s1=>wpAny (model X.prog X.w) X.A (pyIter v) (PIE X pins σ tg R) X.xe s1) X.xe s
theorem go_of{M:Model}{A:Around}{E:Value->Shared->Prop}{s:Shared}{tg:Expr}{it:Addr}{u:Value}{o:Obj}{n:String}{vs:Array Value}{Q:Unit->Shared->Prop}(ho:s.heap.get? it=some o)(hc:o.cls=.type n)(hd:o.data=.fields vs)
  (hn:["enumerate","zip","dict_itemiterator","dict_reverseitemiterator","odict_iterator","itertools.zip_longest","itertools.pairwise"].contains n=false) (hQ:Q () s):wpAny M A (letOwnedTupleGo tg (.ref it) u) Q E s:=by
 unfold letOwnedTupleGo
 cases tg<;>first
  | exact wpAny_pure hQ
  | (cases u<;>first
      | exact wpAny_pure hQ
      | (refine wpAny_bind (wpAny_load ho ?_)
         rw[hc,hd]
         show wpAny M A (if (["enumerate","zip","dict_itemiterator","dict_reverseitemiterator","odict_iterator","itertools.zip_longest","itertools.pairwise"].contains n&&vs[0]?==some (rawInt _))=true then _ else _) Q E s
         rw[if_neg (by intro h;rw[hn,U1]at h;cases h)]
         exact wpAny_pure hQ))
noncomputable def Itl(K:j0)(a:Addr):It :=
 ⟨λi H=>∃xs x,SqL K H a xs/\xs[i]?=some x,λi H x H'=>H'=H/\∀xs,SqL K H a xs->xs[i]?=some x,λi H=>∃xs,SqL K H a xs/\xs.length<=i⟩
noncomputable def Itt(K:j0)(a:Addr):It :=
 ⟨λi H=>∃xs x,SqT K H a xs/\xs[i]?=some x,λi H x H'=>H'=H/\∀xs,SqT K H a xs->xs[i]?=some x,λi H=>∃xs,SqT K H a xs/\xs.length<=i⟩
noncomputable def Itr(lo:Int)(n:Nat):It:=⟨λi _=>i < n,λi H x H'=>H'=H/\x=.int (lo+i),λi _=>n<=i⟩
theorem turn_list{P:Program}{w:World}{K:j0}{tg:Expr}(a it:Addr):Turn P w K tg (Itl K a) [it] it (λi h=>h.IsListIter it a i) where
 mem:=by simp
 obj:=λi h st b hb=>by
  have e:b=it:=by simpa using hb
  subst e
  obtain⟨o,e,c,d⟩:=st
  exact ⟨o,e,λv z=>by rw[d]at z;cases z⟩
 keep:=λi h h' st k=>st.at λo e=>k it (by simp) o e
 item:=by
  intro X hP hw hK hc i pins s σ H E I hf st hg
  subst hP hw hK
  obtain⟨xs,x,hq,hx⟩:=hg
  obtain⟨its,rv,p,hz⟩:=I.list hq
  obtain⟨u,hu,ru⟩:=rv.get hx
  obtain⟨f0,f1,f2,f3,f4,f5⟩:=hf it (by simp)
  refine wpAny_pyNext_list_item st p.isList (x:=u) (by simpa using hu) λh' st' sb=>?_
  have I1:Inv X pins σ H { s with heap:=h' }:=I.turned (t':=s.toks) (λb o hb e=>(sb.2 b hb).trans e) f0 f1 f3 f4 f5
  obtain⟨o,e,c,d⟩:=id st'
  exact ⟨u,rfl,go_of (s:={ s with heap:=h' }) e c d (by decide) ⟨x,H,I1,ru,⟨rfl,λys hy=>by rw[I.list_inj hy hq];exact hx⟩,st',λb hb=>(hf b hb).1⟩⟩
 done:=by
  intro X hP hw hK hc i pins s σ H E I hf st hg
  subst hP hw hK
  obtain⟨xs,hq,hx⟩:=hg
  obtain⟨its,rv,p,hz⟩:=I.list hq
  obtain⟨f0,f1,f2,f3,f4,f5⟩:=hf it (by simp)
  have hl:=rv.length
  exact wpAny_pyNext_list_end (I.ok.hd hc) st p.isList (by simp;omega) λh' eb=>⟨rfl,I.turned (t':=s.toks) (λb o hb e=>eb b o hb e) f0 f1 f3 f4 f5⟩
 self:=λ_ _ _ _ _ st h=>wpAny_pyIter_listiter st h
theorem turn_tuple{P:Program}{w:World}{K:j0}{tg:Expr}(a it:Addr):Turn P w K tg (Itt K a) [it] it (λi h=>h.IsTupleIter it a i) where
 mem:=by simp
 obj:=λi h st b hb=>by
  have e:b=it:=by simpa using hb
  subst e
  obtain⟨o,e,c,d⟩:=st
  exact ⟨o,e,λv z=>by rw[d]at z;cases z⟩
 keep:=λi h h' st k=>st.at λo e=>k it (by simp) o e
 item:=by
  intro X hP hw hK hc i pins s σ H E I hf st hg
  subst hP hw hK
  obtain⟨xs,x,hq,hx⟩:=hg
  obtain⟨its,rv,p,hz⟩:=I.tuple hq
  obtain⟨u,hu,ru⟩:=rv.get hx
  obtain⟨f0,f1,f2,f3,f4,f5⟩:=hf it (by simp)
  refine wpAny_pyNext_tuple_item st (show s.heap.IsTuple a its.toArray from p) (x:=u) (by simpa using hu) λh' st' sb=>?_
  have I1:Inv X pins σ H { s with heap:=h' }:=I.turned (t':=s.toks) (λb o hb e=>(sb.2 b hb).trans e) f0 f1 f3 f4 f5
  obtain⟨o,e,c,d⟩:=id st'
  exact ⟨u,rfl,go_of (s:={ s with heap:=h' }) e c d (by decide) ⟨x,H,I1,ru,⟨rfl,λys hy=>by rw[I.tuple_inj hy hq];exact hx⟩,st',λb hb=>(hf b hb).1⟩⟩
 done:=by
  intro X hP hw hK hc i pins s σ H E I hf st hg
  subst hP hw hK
  obtain⟨xs,hq,hx⟩:=hg
  obtain⟨its,rv,p,hz⟩:=I.tuple hq
  obtain⟨f0,f1,f2,f3,f4,f5⟩:=hf it (by simp)
  have hl:=rv.length
  exact wpAny_pyNext_tuple_end (I.ok.hd hc) st (show s.heap.IsTuple a its.toArray from p) (by simp;omega) λh' eb=>⟨rfl,I.turned (t':=s.toks) (λb o hb e=>eb b o hb e) f0 f1 f3 f4 f5⟩
 self:=λ_ _ _ _ _ st h=>wpAny_pyIter_tupleiter st h
theorem turn_range{P:Program}{w:World}{K:j0}{tg:Expr}(it:Addr)(lo:Int)(n:Nat):Turn P w K tg (Itr lo n) [it] it (λi h=>IsRangeIter h it (lo+(i:Nat) * 1) ((n:Int) - (i:Nat)) 1) where
 mem:=by simp
 obj:=λi h st b hb=>by
  have e:b=it:=by simpa using hb
  subst e
  exact ⟨_,st,λv z=>by
    have z':Data.fields _=Data.cell v:=z
    cases z'⟩
 keep:=λi h h' st k=>k it (by simp) _ st
 item:=by
  intro X hP hw hK hc i pins s σ H E I hf st hg
  subst hP hw hK
  obtain⟨f0,f1,f2,f3,f4,f5⟩:=hf it (by simp)
  have W:=Walks.range (prog:=X.prog) (w:=X.w) (I.ok.hd hc) it lo 1 n
  refine W.item i s _ _ hg st λv h' tk hv st' kk=>?_
  obtain⟨t,rfl⟩:=hv
  have I1:Inv X pins σ H { s with heap:=h',toks:=tk }:=I.turned (λb o hb e=>kk b o (by simpa using hb) e) f0 f1 f3 f4 f5
  refine ⟨_,rfl,go_of (s:={ s with heap:=h',toks:=tk }) (n:="range_iterator") st' rfl rfl (by decide) ⟨.int (lo+i),H,I1,⟨t,?_⟩,⟨rfl,rfl⟩,st',λb hb=>(hf b hb).1⟩⟩
  rw[Int.mul_one]
 done:=by
  intro X hP hw hK hc i pins s σ H E I hf st hg
  subst hP hw hK
  obtain⟨f0,f1,f2,f3,f4,f5⟩:=hf it (by simp)
  exact wpAny_pyNext_range_end (I.ok.hd hc) st (by have:n<=i:=hg;omega) λh' eb=>⟨rfl,I.turned (t':=s.toks) (λb o hb e=>eb b o hb e) f0 f1 f3 f4 f5⟩
 self:=λ_ _ _ _ _ st h=>wpAny_pyIter_rangeiter st h
section
variable {X:Cx}{tg:Expr}
theorem range_it{pins:List (Addr×Obj)}{σ:St}{H:Hp}{s:Shared}{R:It->Hp->Prop}{E:Value->Shared->Prop}{lo hi:Int}{t u v:Tok}{tk:Nat}(I:Inv X pins σ H s)(h1:-(2 ^ 62)<=lo)(h2:lo < 2 ^ 62)(h3:-(2 ^ 62)<=hi)(h4:hi < 2 ^ 62)
  (q:R (Itr lo (hi - lo).toNat) H):wpAny (model X.prog X.w) X.A (pyIter (.ref s.heap.objs.size)) (PIE X pins σ tg R) E { s with heap:=s.heap.push { cls:=.type "range",data:=.fields #[.int lo t,.int hi u,.int 1 v] },toks:=tk }:=by
 refine wpAny_pyIter_range (IsRange.new ..) (small_one h1 h2 h3 h4) ?_
 have I1:Inv X pins σ H { s with heap:=s.heap.push { cls:=.type "range",data:=.fields #[.int lo t,.int hi u,.int 1 v] },toks:=tk }:=I.kept λb o e=>i0 _ e
 refine ⟨(s.heap.push { cls:=.type "range",data:=.fields #[.int lo t,.int hi u,.int 1 v] }).objs.size,[(s.heap.push { cls:=.type "range",data:=.fields #[.int lo t,.int hi u,.int 1 v] }).objs.size],_,_,H,rfl,
   I1.kept (t':=tk) λb o e=>i0 _ e,turn_range _ lo (hi - lo).toNat,?_,λb hb=>?_,q⟩
 ·have e1:lo+((0:Nat):Int) * 1=lo:=by simp
  have e2:(((hi - lo).toNat:Nat):Int) - ((0:Nat):Int)=Builtin.Range.rangeSize lo hi 1:=by rw[rangeSize_one];split<;>omega
  show IsRangeIter _ _ (lo+((0:Nat):Int) * 1) ((((hi - lo).toNat:Nat):Int) - ((0:Nat):Int)) 1
  rw[e1,e2]
  exact K0 _ rfl
 ·have e:b=(s.heap.push { cls:=.type "range",data:=.fields #[.int lo t,.int hi u,.int 1 v] }).objs.size:=by simpa using hb
  subst e
  exact I1.fpOk (N0 _) (I1.hok.fresh (N0 _))
noncomputable def iRng1(ta:TA):TI:=λσ H R=>ta σ H λvs H1=>∃j:Int,vs=[.int j]/\-(2 ^ 62)<=j/\j < 2 ^ 62/\R (Itr 0 j.toNat) H1
theorem pi_range1{a:Expr}{ta:TA}{p pos:Pos}(hg:Gl X "range")(hm:X.mg "range"=none)(ha:PA X [a] ta)(hs:starEach [a] X.env=[(false,eval a X.env)]:=by rfl):PI X tg (.Call (.Name "range" p) [a] [] pos) (iRng1 ta):=by
 intro pins s σ H R I h
 refine Call_ (ld_blt I hg hm boot_range (Q2 (thn (ha pos pins s σ H _ I h) λus s1 ⟨vs,H1,I1,r1,q1⟩=>?_) hs rfl))
 obtain⟨j,e,q1,q2,q⟩:=q1
 subst e
 cases r1 with
 | cons r rr =>
  cases rr
  obtain⟨t,rfl⟩:=r
  exact call_range_1 (range_it I1 (by omega) (by omega) q1 q2 (by simpa using q))
noncomputable def tFor(wi:TI)(g:TG)(tb:TS):TS:=λD σ H=>wi σ H λJ H1=>∃W:Nat->Nat->St->Hp->Prop,(∃m,W 0 m σ H1)/\∀i m σ H,W i m σ H ->
 (J.stop i H/\D.nx σ H)\/(J.go i H/\∃N:St->Hp->Prop,(∀σ' H',N σ' H'->∃m',m' < m/\W (i+1) m' σ' H')/\∀x H',J.yld i H x H'->g x σ H' λσ2 H2=>tb { D with nx:=N,ct:=N,bk:=D.nx } σ2 H2)
noncomputable def pinsAt(fp:List Addr)(h:Heap):List (Addr×Obj):=fp.filterMap λb=>(h.get? b).map λo=>(b,o)
theorem mem_pinsAt{fp:List Addr}{h:Heap}{b:Addr}{o:Obj}(hb:b∈fp)(e:h.get? b=some o):(b,o)∈pinsAt fp h:=e8.mpr ⟨b,hb,by rw[e];rfl⟩
theorem of_pinsAt{fp:List Addr}{h:Heap}{p:Addr×Obj}(hp:p∈pinsAt fp h):p.1∈fp/\h.get? p.1=some p.2:=by
 obtain⟨b,hb,e⟩:=e8.mp hp
 cases q:h.get? b with
 | none=>rw[q]at e;cases e
 | some o =>
  rw[q]at e
  have e':(b,o)=p:=V1 e
  subst e'
  exact ⟨hb,q⟩
theorem Inv.pinned{pins:List (Addr×Obj)}{σ:St}{H:Hp}{s:Shared}{fp:List Addr}(I:Inv X pins σ H s)(hf:∀b∈fp,FpOk X pins H b)(ho:∀b∈fp,∃o,s.heap.get? b=some o/\∀v,o.data≠.cell v):Inv X (pins++pinsAt fp s.heap) σ H s :=
 I.pins_of λp hp=>(Z2.mp hp).elim (λz=>I.pin p (G1 _ z)) λz=>by
  obtain⟨hb,e⟩:=of_pinsAt z
  obtain⟨f0,f1,f2,_⟩:=hf p.1 hb
  obtain⟨o,e',d⟩:=ho p.1 hb
  rw[e]at e';cases e'
  exact ⟨e,f0,f1,f2,d⟩
theorem Inv.unpinned{pins pl:List (Addr×Obj)}{σ:St}{H:Hp}{s:Shared}(I:Inv X (pins++pl) σ H s):Inv X pins σ H s:=I.pins_of λp hp=>I.pin p (G1 _ (u6 _ hp))
theorem ps_for{iter:Expr}{body:List Stmt}{wi:TI}{g:TG}{tb:TS}{pos:Pos}(hp:PassesOwn (model X.prog X.w) X.A X.env X.xe)(hc:X.calm=true)(hi:PI X tg iter wi)(hg:PG X tg g)(hb:PSs X body tb)
  (hs:∀x,foldedSetIterable iter X.env x=pure x:=by intro _;rfl):PS X (.For tg iter body [] pos) (tFor wi g tb):=by
 intro pins s σ H D I h
 refine wpAny_For (thn (hi pins s σ H _ I h) λv s1 h1=>thn h1 λitv s2 h2=>?_) hs
 obtain⟨it,fp,tn,J,H2,e,I2,T,st2,f2,W,⟨m0,w0⟩,turn⟩:=h2
 subst e
 have stat:∀{H':Hp},(∀b∈fp,H' b=none)->∀b∈fp,FpOk X pins H' b:=λhn b hb=>⟨hn b hb,(f2 b hb).2⟩
 refine codeAny_forLoop_any (λn s'=>∃i σ' H',Inv X pins σ' H' s'/\tn i s'.heap/\(∀b∈fp,H' b=none)/\W i n σ' H') ?_ m0 ⟨0,σ,H2,I2,st2,λb hb=>(f2 b hb).1,w0⟩
 rintro n s3 ⟨i,σ3,H3,I3,st3,fr3,w3⟩
 rcases turn i n σ3 H3 w3 with⟨stop,qn⟩|⟨go,N,hN,step⟩
 ·refine wpAny_passesOwn hp (thn (T.done X rfl rfl rfl hc i pins s3 σ3 H3 X.xe I3 (stat fr3) st3 stop) λr s4 ⟨hr,I4⟩=>?_)
  subst hr
  exact wpAny_execs_nil ⟨σ3,H3,I4,qn⟩
 ·refine wpAny_passesOwn hp (thn (T.item X rfl rfl rfl hc i pins s3 σ3 H3 X.xe I3 (stat fr3) st3 go) λr s4 ⟨u,hr,h4⟩=>?_)
  subst hr
  refine wpAny_passesOwn hp (thn h4 λ_ s5 ⟨x,H5,I5,r5,y5,st5,fr5⟩=>?_)
  have I5':=I5.pinned (stat fr5) (T.obj _ _ st5)
  refine wpAny_passesOwn hp (thn (hg _ s5 σ3 H5 x u _ I5' r5 (step x H5 y5)) λ_ s6 ⟨σ6,H6,I6,q6⟩=>?_)
  refine wpAny_passesOwn hp (thn (hb _ s6 σ6 H6 _ I6 q6) λf s7 q7=>?_)
  have again:∀{σ7:St}{H7:Hp},Inv X (pins++pinsAt fp s5.heap) σ7 H7 s7->N σ7 H7->∃m,m < n/\∃i σ' H',Inv X pins σ' H' s7/\tn i s7.heap/\(∀b∈fp,H' b=none)/\W i m σ' H':=λ{σ7 H7} I7 n7=>by
   obtain⟨m',hm,w7⟩:=hN σ7 H7 n7
   refine ⟨m',hm,i+1,σ7,H7,I7.unpinned,T.keep _ _ _ st5 λb hb o e=>(I7.pin (b,o) (G1 _ (G1 _ (mem_pinsAt hb e)))).1,λb hb=>?_,w7⟩
   obtain⟨o,e,d⟩:=T.obj _ _ st5 b hb
   exact (I7.pin (b,o) (G1 _ (G1 _ (mem_pinsAt hb e)))).2.1
  cases f with
  | next=>obtain⟨σ7,H7,I7,n7⟩:=q7;exact again I7 n7
  | cont=>obtain⟨σ7,H7,I7,n7⟩:=q7;exact again I7 n7
  | brk=>obtain⟨σ7,H7,I7,q7⟩:=q7;exact ⟨σ7,H7,I7.unpinned,q7⟩
  | ret v=>obtain⟨x7,σ7,H7,I7,r7,q7⟩:=q7;exact ⟨x7,σ7,H7,I7.unpinned,r7,q7⟩
end
noncomputable abbrev R2:=V->V->Hp->VK->Prop
noncomputable def OpR(X:Cx)(f:Value->Value->Sem Value)(r:R2):Prop :=
 ∀(pins:List (Addr×Obj)) (s:Shared) (σ:St) (H:Hp) (x y:V) (v u:Value) (Q:VK),Inv X pins σ H s->RelV x v->RelV y u->r x y H Q ->
  wpAny (model X.prog X.w) X.A (f v u) (EP X pins σ Q) X.xe s
noncomputable def UnR(X:Cx)(f:Value->Sem Value)(r:V->Hp->VK->Prop):Prop :=
 ∀(pins:List (Addr×Obj)) (s:Shared) (σ:St) (H:Hp) (x:V) (v:Value) (Q:VK),Inv X pins σ H s->RelV x v->r x H Q ->
  wpAny (model X.prog X.w) X.A (f v) (EP X pins σ Q) X.xe s
noncomputable def CallR(X:Cx)(f:Value)(r:List V->Hp->VK->Prop):Prop :=
 ∀(pins:List (Addr×Obj)) (s:Shared) (σ:St) (H:Hp) (xs:List V) (us:List Value) (Q:VK),Inv X pins σ H s->Vals xs us->r xs H Q ->
  wpAny (model X.prog X.w) X.A (call f us) (EP X pins σ Q) X.xe s
noncomputable def tOp(r:R2)(ta tb:TE):TE:=λσ H Q=>ta σ H λx H1=>tb σ H1 λy H2=>r x y H2 Q
noncomputable def tUn(r:V->Hp->VK->Prop)(ta:TE):TE:=λσ H Q=>ta σ H λx H1=>r x H1 Q
noncomputable def rI(C:Int->Int->Prop)(g:Int->Int->V):R2:=λx y H Q=>∃i j,x=.int i/\y=.int j/\C i j/\Q (g i j) H
noncomputable def rI0(g:Int->Int->V):R2:=λx y H Q=>∃i j,x=.int i/\y=.int j/\Q (g i j) H
noncomputable def rU(g:Int->V):V->Hp->VK->Prop:=λx H Q=>∃i,x=.int i/\Q (g i) H
section
variable {X:Cx}{a b c:Expr}{ta tb tc:TE}{pos:Pos}
theorem binT(ha:PE X a ta)(hb:PE X b tb){pins:List (Addr×Obj)}{s:Shared}{σ:St}{H:Hp}{R:V->V->Hp->Prop}(I:Inv X pins σ H s)
  (h:ta σ H λx H1=>tb σ H1 λy H2=>R x y H2) {Q:Value->Shared->Prop}{f:Value->Value->Sem Value}
  (hf:∀v u s2 x y H2,Inv X pins σ H2 s2->RelV x v->RelV y u->R x y H2->wpAny (model X.prog X.w) X.A (f v u) Q X.xe s2) :
  wpAny (model X.prog X.w) X.A (eval a X.env) (λv s₁=>wpAny (model X.prog X.w) X.A (eval b X.env) (λu s₂=>wpAny (model X.prog X.w) X.A (f v u) Q X.xe s₂) X.xe s₁) X.xe s:=by
 refine thn (ha pins s σ H _ I h) λv s1 ⟨x,H1,I1,r1,q1⟩=>?_
 refine thn (hb pins s1 σ H1 _ I1 q1) λu s2 ⟨y,H2,I2,r2,q2⟩=>?_
 exact hf v u s2 x y H2 I2 r1 r2 q2
theorem pe_op{op:Operator}{r:R2}(ho:OpR X (binaryOp op) r)(ha:PE X a ta)(hb:PE X b tb):PE X (.BinOp a op b pos) (tOp r ta tb):=by
 intro pins s σ H Q I h
 exact wpAny_BinOp (binT ha hb I h λv u s2 x y H2 I2 rx ry q=>ho pins s2 σ H2 x y v u Q I2 rx ry q)
theorem pe_un{op:UnaryOp}{r:V->Hp->VK->Prop}(ho:UnR X (unaryOp op) r)(ha:PE X a ta):PE X (.UnaryOp op a pos) (tUn r ta):=by
 intro pins s σ H Q I h
 exact UnaryOp_ (thn (ha pins s σ H _ I h) λv s1 ⟨x,H1,I1,r1,q1⟩=>ho pins s1 σ H1 x v Q I1 r1 q1)
theorem opI{f:Value->Value->Sem Value}{C:Int->Int->Prop}{g:Int->Int->Int}
  (rule:∀(i j:Int) (t u:Tok) (s:Shared) (Q:Value->Shared->Prop) (E:Value->Shared->Prop),C i j->Q (.int (g i j) s.toks) { s with toks:=s.toks+1 }->wpAny (model X.prog X.w) X.A (f (.int i t) (.int j u)) Q E s) :
  OpR X f (rI C λi j=>.int (g i j)):=by
 intro pins s σ H x y v u Q I rx ry h
 obtain⟨i,j,rfl,rfl,hc,q⟩:=h
 obtain⟨t,rfl⟩:=rx
 obtain⟨t',rfl⟩:=ry
 exact rule i j t t' s _ _ hc ⟨.int (g i j),H,I.tok _,⟨_,rfl⟩,q⟩
theorem opI0{f:Value->Value->Sem Value}{g:Int->Int->Int}
  (rule:∀(i j:Int) (t u:Tok) (s:Shared) (Q:Value->Shared->Prop) (E:Value->Shared->Prop),Q (.int (g i j) s.toks) { s with toks:=s.toks+1 }->wpAny (model X.prog X.w) X.A (f (.int i t) (.int j u)) Q E s) :
  OpR X f (rI0 λi j=>.int (g i j)):=by
 intro pins s σ H x y v u Q I rx ry h
 obtain⟨i,j,rfl,rfl,q⟩:=h
 obtain⟨t,rfl⟩:=rx
 obtain⟨t',rfl⟩:=ry
 exact rule i j t t' s _ _ ⟨.int (g i j),H,I.tok _,⟨_,rfl⟩,q⟩
theorem opB0{f:Value->Value->Sem Value}{g:Int->Int->Bool}
  (rule:∀(i j:Int) (t u:Tok) (s:Shared) (Q:Value->Shared->Prop) (E:Value->Shared->Prop),Q (.bool (g i j)) s->wpAny (model X.prog X.w) X.A (f (.int i t) (.int j u)) Q E s) :
  OpR X f (rI0 λi j=>.bl (g i j)):=by
 intro pins s σ H x y v u Q I rx ry h
 obtain⟨i,j,rfl,rfl,q⟩:=h
 obtain⟨t,rfl⟩:=rx
 obtain⟨t',rfl⟩:=ry
 exact rule i j t t' s _ _ ⟨.bl (g i j),H,I,rfl,q⟩
noncomputable def CDiv(i j:Int):Prop:=0 < j/\j < 1073741824
noncomputable def CPow(i j:Int):Prop:=0<=j/\j<=1000000/\i.natAbs < 2 ^ 64
noncomputable def CMul(i j:Int):Prop:=(-(2 ^ 64) < i/\i < 2 ^ 64)\/(-(2 ^ 64) < j/\j < 2 ^ 64)
theorem CMul.ok{i j:Int}(h:CMul i j):IntMulOk i j:=by
 rcases h with⟨h1,h2⟩|⟨h1,h2⟩
 ·exact .of_left (intBits_le_64 h1 h2)
 ·exact .of_right (intBits_le_64 h1 h2)
theorem op_add:OpR X (binaryOp .Add) (rI0 λi j=>.int (i+j)):=opI0 λ_ _ _ _ _ _ _ q=>add_int q
theorem op_sub:OpR X (binaryOp .Sub) (rI0 λi j=>.int (i - j)):=opI0 λ_ _ _ _ _ _ _ q=>sub_int q
theorem op_mul:OpR X (binaryOp .Mult) (rI CMul λi j=>.int (i * j)):=opI λ_ _ _ _ _ _ _ hc q=>mul_int q hc.ok
theorem op_fdiv:OpR X (binaryOp .FloorDiv) (rI CDiv λi j=>.int (i / j)):=opI λi j _ _ _ _ _ hc q=>by
 have h1:(0:Int) < j:=hc.1
 have h2:j < 1073741824:=hc.2
 exact floordiv_int (by omega) (by rw[Int.fdiv_eq_ediv_of_nonneg i (by omega)];exact q) (.inl (PyProof.noPylong_small (by omega)))
theorem op_mod:OpR X (binaryOp .Mod) (rI (λ_ j=>0 < j) λi j=>.int (i % j)):=opI λi j _ _ _ _ _ hc q=>by
 have h1:(0:Int) < j:=hc
 exact mod_int' (by omega) (by rw[Int.fmod_eq_emod_of_nonneg i (by omega)];exact q)
theorem op_pow:OpR X (binaryOp .Pow) (rI CPow λi j=>.int (i ^ j.toNat)):=opI λ_ _ _ _ _ _ _ hc q=>pow_int_small hc.1 hc.2.1 hc.2.2 q
theorem unI{f:Value->Sem Value}{g:Int->Int}
  (rule:∀(i:Int) (t:Tok) (s:Shared) (Q:Value->Shared->Prop) (E:Value->Shared->Prop),Q (.int (g i) s.toks) { s with toks:=s.toks+1 }->wpAny (model X.prog X.w) X.A (f (.int i t)) Q E s) :
  UnR X f (rU λi=>.int (g i)):=by
 intro pins s σ H x v Q I rx h
 obtain⟨i,rfl,q⟩:=h
 obtain⟨t,rfl⟩:=rx
 exact rule i t s _ _ ⟨.int (g i),H,I.tok _,⟨_,rfl⟩,q⟩
theorem un_neg:UnR X (unaryOp .USub) (rU λi=>.int (-i)):=unI λ_ _ _ _ _ q=>neg_int q
end
noncomputable def scal:V->V->Bool
 | .non,.non=>true | .non,.int _=>true | .int _,.non=>true | .non,.bl _=>true | .bl _,.non=>true | .non,.str _=>true | .str _,.non=>true
 | .int _,.int _=>true | .bl _,.bl _=>true | .str _,.str _=>true | .byt _,.byt _=>true
 | .int _,.str _=>true | .str _,.int _=>true | .bl _,.str _=>true | .str _,.bl _=>true
 | _,_=>false
noncomputable def rEq:R2:=λx y H Q=>scal x y=true/\Q (.bl (decide (x=y))) H
noncomputable def rNe:R2:=λx y H Q=>scal x y=true/\Q (.bl (!decide (x=y))) H
theorem dec_int{i j:Int}:decide (V.int i=V.int j)=(i==j):=by
 rw[o5]
 simp
theorem dec_bl{i j:Bool}:decide (V.bl i=V.bl j)=(i==j):=by
 rw[o5]
 simp
theorem dec_str{i j:Str}:decide (V.str i=V.str j)=(i==j):=by
 rw[o5]
 simp
theorem dec_byt{i j:Array UInt8}:decide (V.byt i=V.byt j)=(i.toList==j.toList):=by
 rw[o5]
 cases i
 cases j
 simp
section
variable {X:Cx}{a b c:Expr}{ta tb tc:TE}{pos:Pos}
theorem fin_bl{pins:List (Addr×Obj)}{σ:St}{H:Hp}{s:Shared}{Q:VK}{k k':Bool}(I:Inv X pins σ H s)(q:Q (.bl k) H)(e:k=k'):EP X pins σ Q (.bool k') s:=by
 subst e
 exact ⟨.bl k,H,I,rfl,q⟩
theorem op_eq:OpR X (compareOp .Eq) rEq:=by
 intro pins s σ H x y v u Q I rx ry h
 obtain⟨hs,q⟩:=h
 cases x with
 | non =>
  cases rx
  cases y with
  | non=>cases ry;exact PySem.EqNone.eq_none_none (fin_bl I q (by simp))
  | bl j=>cases ry;exact PySem.EqNone.eq_none_bool (fin_bl I q (by simp))
  | int j=>obtain⟨t',rfl⟩:=ry;exact PySem.EqNone.eq_none_int (fin_bl I q (by simp))
  | str j=>obtain⟨t',rfl⟩:=ry;exact PySem.EqNone.eq_none_str (fin_bl I q (by simp))
  | _=>exact absurd (show false=true from hs) T0
 | bl i =>
  cases rx
  cases y with
  | non=>cases ry;exact PySem.EqNone.eq_bool_none (fin_bl I q (by simp))
  | bl j=>cases ry;exact eq_bool (fin_bl I q dec_bl)
  | str j=>obtain⟨t',rfl⟩:=ry;exact PySem.EqMixed.eq_bool_str (fin_bl I q (by simp))
  | _=>exact absurd (show false=true from hs) T0
 | int i =>
  obtain⟨t,rfl⟩:=rx
  cases y with
  | non=>cases ry;exact PySem.EqNone.eq_int_none (fin_bl I q (by simp))
  | int j=>obtain⟨t',rfl⟩:=ry;exact eq_int (fin_bl I q dec_int)
  | str j=>obtain⟨t',rfl⟩:=ry;exact PySem.EqMixed.eq_int_str (fin_bl I q (by simp))
  | _=>exact absurd (show false=true from hs) T0
 | str i =>
  obtain⟨t,rfl⟩:=rx
  cases y with
  | non=>cases ry;exact PySem.EqNone.eq_str_none (fin_bl I q (by simp))
  | bl j=>cases ry;exact PySem.EqMixed.eq_str_bool (fin_bl I q (by simp))
  | int j=>obtain⟨t',rfl⟩:=ry;exact PySem.EqMixed.eq_str_int (fin_bl I q (by simp))
  | str j=>obtain⟨t',rfl⟩:=ry;exact eq_str (fin_bl I q dec_str)
  | _=>exact absurd (show false=true from hs) T0
 | byt i =>
  obtain⟨t,rfl⟩:=rx
  cases y with
  | byt j=>obtain⟨t',rfl⟩:=ry;exact PySem.W.eq_bytes (fin_bl I q dec_byt)
  | _=>exact absurd (show false=true from hs) T0
 | _=>cases y<;>exact absurd (show false=true from hs) T0
theorem op_ne:OpR X (compareOp .NotEq) rNe:=by
 intro pins s σ H x y v u Q I rx ry h
 obtain⟨hs,q⟩:=h
 cases x with
 | non =>
  cases rx
  cases y with
  | non=>cases ry;exact PySem.EqNone.ne_none_none (fin_bl I q (by simp))
  | bl j=>cases ry;exact PySem.EqNone.ne_none_bool (fin_bl I q (by simp))
  | int j=>obtain⟨t',rfl⟩:=ry;exact PySem.EqNone.ne_none_int (fin_bl I q (by simp))
  | str j=>obtain⟨t',rfl⟩:=ry;exact PySem.EqNone.ne_none_str (fin_bl I q (by simp))
  | _=>exact absurd (show false=true from hs) T0
 | bl i =>
  cases rx
  cases y with
  | non=>cases ry;exact PySem.EqNone.ne_bool_none (fin_bl I q (by simp))
  | bl j=>cases ry;exact ne_bool (fin_bl I q (congrArg not dec_bl))
  | str j=>obtain⟨t',rfl⟩:=ry;exact PySem.EqMixed.ne_bool_str (fin_bl I q (by simp))
  | _=>exact absurd (show false=true from hs) T0
 | int i =>
  obtain⟨t,rfl⟩:=rx
  cases y with
  | non=>cases ry;exact PySem.EqNone.ne_int_none (fin_bl I q (by simp))
  | int j=>obtain⟨t',rfl⟩:=ry;exact ne_int (fin_bl I q (congrArg not dec_int))
  | str j=>obtain⟨t',rfl⟩:=ry;exact PySem.EqMixed.ne_int_str (fin_bl I q (by simp))
  | _=>exact absurd (show false=true from hs) T0
 | str i =>
  obtain⟨t,rfl⟩:=rx
  cases y with
  | non=>cases ry;exact PySem.EqNone.ne_str_none (fin_bl I q (by simp))
  | bl j=>cases ry;exact PySem.EqMixed.ne_str_bool (fin_bl I q (by simp))
  | int j=>obtain⟨t',rfl⟩:=ry;exact PySem.EqMixed.ne_str_int (fin_bl I q (by simp))
  | str j=>obtain⟨t',rfl⟩:=ry;exact ne_str (fin_bl I q (congrArg not dec_str))
  | _=>exact absurd (show false=true from hs) T0
 | byt i =>
  obtain⟨t,rfl⟩:=rx
  cases y with
  | byt j=>obtain⟨t',rfl⟩:=ry;exact PySem.W.ne_bytes (fin_bl I q (congrArg not dec_byt))
  | _=>exact absurd (show false=true from hs) T0
 | _=>cases y<;>exact absurd (show false=true from hs) T0
theorem op_lt:OpR X (compareOp .Lt) (rI0 λi j=>.bl (decide (i < j))):=opB0 λ_ _ _ _ _ _ _ q=>lt_int q
theorem op_le:OpR X (compareOp .LtE) (rI0 λi j=>.bl (decide (i<=j))):=opB0 λ_ _ _ _ _ _ _ q=>le_int q
theorem op_gt:OpR X (compareOp .Gt) (rI0 λi j=>.bl (decide (j < i))):=opB0 λ_ _ _ _ _ _ _ q=>gt_int q
theorem op_ge:OpR X (compareOp .GtE) (rI0 λi j=>.bl (decide (j<=i))):=opB0 λ_ _ _ _ _ _ _ q=>ge_int q
theorem OpR.or{f:Value->Value->Sem Value}{r r':R2}(h:OpR X f r)(h':OpR X f r'):OpR X f (λx y H Q=>r x y H Q\/r' x y H Q):=by
 intro pins s σ H x y v u Q I rx ry q
 rcases q with q|q
 ·exact h pins s σ H x y v u Q I rx ry q
 ·exact h' pins s σ H x y v u Q I rx ry q
theorem nomark(b:Expr){op:CmpOp}(h:op≠.In:=by decide)(h2:op≠.NotIn:=by decide):behindInMarks op b=false:=by
 have e1:(op==CmpOp.In)=false:=by cases op<;>first|rfl|exact absurd rfl h
 have e2:(op==CmpOp.NotIn)=false:=by cases op<;>first|rfl|exact absurd rfl h2
 cases b<;>simp[behindInMarks,e1,e2]
theorem pe_cmpR{op:CmpOp}{r:R2}(ho:OpR X (compareOp op) r)(ha:PE X a ta)(hb:PE X b tb)(hm:behindInMarks op b=false):PE X (.Compare a [op] [b] pos) (tOp r ta tb):=by
 intro pins s σ H Q I h
 exact wpAny_Compare1 (binT ha hb I h λv u s2 x y H2 I2 rx ry q=>ho pins s2 σ H2 x y v u Q I2 rx ry q) hm
noncomputable def tTest(t:TE):TT:=λσ H Q=>t σ H λx H'=>∃k,x=.bl k/\Q k H'
theorem pt_cmpR{op:CmpOp}{r:R2}(ho:OpR X (compareOp op) r)(ha:PE X a ta)(hb:PE X b tb)(hm:behindInMarks op b=false):PT X (.Compare a [op] [b] pos) (tTest (tOp r ta tb)):=by
 intro pins s σ H Q I h
 refine wpAny_isTrue_Compare1 (thn (ha pins s σ H _ I h) λv s1 ⟨x,H1,I1,r1,q1⟩=>thn (hb pins s1 σ H1 _ I1 q1) λu s2 ⟨y,H2,I2,r2,q2⟩ =>
   thn (ho pins s2 σ H2 x y v u _ I2 r1 r2 q2) λc s3 ⟨z,H3,I3,r3,k,e,q3⟩=>?_) hm
 subst e
 cases r3
 exact wpAny_truthy_bool ⟨H3,I3,q3⟩
noncomputable def tChain(r r':R2)(ta tb tc:TE):TE:=λσ H Q=>ta σ H λx H1=>tb σ H1 λy H2=>r x y H2 λz H3=>∃k,z=.bl k /\
 (if k=true then tc σ H3 λw' H4=>r' y w' H4 Q else Q (.bl false) H3)
theorem pe_chain{op op':CmpOp}{r r':R2}(ho:OpR X (compareOp op) r)(ho':OpR X (compareOp op') r')(ha:PE X a ta)(hb:PE X b tb)(hc:PE X c tc)
  (hm:lastMarks [op,op'] [b,c]=false:=by with_unfolding_all rfl):PE X (.Compare a [op,op'] [b,c] pos) (tChain r r' ta tb tc):=by
 intro pins s σ H Q I h
 refine Compare_chain (thn (ha pins s σ H _ I h) λv s1 ⟨x,H1,I1,r1,q1⟩=>chain_link (thn (hb pins s1 σ H1 _ I1 q1) λu s2 ⟨y,H2,I2,r2,q2⟩ =>
   thn (ho pins s2 σ H2 x y v u _ I2 r1 r2 q2) λd s3 ⟨z,H3,I3,r3,k,e,q3⟩=>?_)) hm
 subst e
 cases r3
 refine wpAny_truthy_bool ?_
 cases k with
 | false=>exact ite_ff ⟨.bl false,H3,I3,rfl,q3⟩
 | true=>exact ite_tt (chain_last (thn (hc pins s3 σ H3 _ I3 q3) λw' s4 ⟨z',H4,I4,r4,q4⟩=>ho' pins s4 σ H4 y z' u w' Q I4 r2 r4 q4))
theorem pt_chain{op op':CmpOp}{r r':R2}(ho:OpR X (compareOp op) r)(ho':OpR X (compareOp op') r')(ha:PE X a ta)(hb:PE X b tb)(hc:PE X c tc)
  (hm:lastMarks [op,op'] [b,c]=false:=by with_unfolding_all rfl):PT X (.Compare a [op,op'] [b,c] pos) (tTest (tChain r r' ta tb tc)):=by
 intro pins s σ H Q I h
 refine isTrue_chain (thn (ha pins s σ H _ I h) λv s1 ⟨x,H1,I1,r1,q1⟩=>test_link (thn (hb pins s1 σ H1 _ I1 q1) λu s2 ⟨y,H2,I2,r2,q2⟩ =>
   thn (ho pins s2 σ H2 x y v u _ I2 r1 r2 q2) λd s3 ⟨z,H3,I3,r3,k,e,q3⟩=>?_)) hm
 subst e
 cases r3
 refine wpAny_truthy_bool ?_
 cases k with
 | false =>
  obtain⟨k',e',q'⟩:=q3
  cases e'
  exact ite_ff ⟨H3,I3,q'⟩
 | true =>
  refine ite_tt (test_last (thn (hc pins s3 σ H3 _ I3 q3) λw' s4 ⟨z',H4,I4,r4,q4⟩=>thn (ho' pins s4 σ H4 y z' u w' _ I4 r2 r4 q4) λd' s5 ⟨z2,H5,I5,r5,k2,e2,q5⟩=>?_))
  subst e2
  cases r5
  exact wpAny_truthy_bool ⟨H5,I5,q5⟩
theorem line63:(sizeLine:Nat) < 2 ^ 63:=by rw[sizeLine_eq];decide
theorem vals1{x:V}{us:List Value}(r:Vals [x] us):∃u,us=[u]/\RelV x u:=by
 cases r with
 | cons r1 r2=>cases r2;exact ⟨_,rfl,r1⟩
theorem vals2{x y:V}{us:List Value}(r:Vals [x,y] us):∃u w',us=[u,w']/\RelV x u/\RelV y w':=by
 cases r with
 | cons r1 r2 =>
  cases r2 with
  | cons r3 r4=>cases r4;exact ⟨_,_,rfl,r1,r3⟩
theorem call_max2(hc:X.calm=true):CallR X (.builtin "max") (λxs H Q=>∃i j,xs=[.int i,.int j]/\Q (.int (if j > i then j else i)) H):=by
 intro pins s σ H xs us Q I r h
 obtain⟨i,j,rfl,q⟩:=h
 obtain⟨u,w',rfl,⟨t,rfl⟩,⟨t',rfl⟩⟩:=vals2 r
 refine max_two_ints (I.ok.hd hc) λh' tk k=>⟨_,H,I.kept k,?_,q⟩
 by_cases hj:j > i
 ·rw[if_pos hj,if_pos hj];exact ⟨_,rfl⟩
 ·rw[if_neg hj,if_neg hj];exact ⟨_,rfl⟩
theorem call_min2(hc:X.calm=true):CallR X (.builtin "min") (λxs H Q=>∃i j,xs=[.int i,.int j]/\Q (.int (if j < i then j else i)) H):=by
 intro pins s σ H xs us Q I r h
 obtain⟨i,j,rfl,q⟩:=h
 obtain⟨u,w',rfl,⟨t,rfl⟩,⟨t',rfl⟩⟩:=vals2 r
 refine min_two_ints (I.ok.hd hc) λh' tk k=>⟨_,H,I.kept k,?_,q⟩
 by_cases hj:j < i
 ·rw[if_pos hj,if_pos hj];exact ⟨_,rfl⟩
 ·rw[if_neg hj,if_neg hj];exact ⟨_,rfl⟩
end
structure ObjM(h:Heap)(x dx C:Addr)(mA:Str->Option Value):Prop where
 obj:h.get? x=some (A8 C dx)
 ns:h.Ns1 dx mA
 ne:dx≠x
section
variable {prog:Program}{w:World}{A:Around}{E:Value->Shared->Prop}{s:Shared}{K:j0}{x dx C f:Addr}{mA:Str->Option Value}{name:Str}{v:Value}
end
section
variable {P:Program}{w:World}{H H':Hp}{h h':Heap}{a C dx:Addr}{fs fs':List (Str×V)}
end
structure Cls(K:j0)(C:Addr):Prop where
 pg:PySem.W.plainGet K C Str.empty=true
 hd:PySem.W.hasDictIn K C=true
 po:PySem.W.plainOver K C=true
 sa:T5 K (.ref C) "__setattr__"=some (some (.builtin "object.__setattr__"))
structure Con(K:j0)(C:Addr)(f:Str)(v:V)(u:Value):Prop where
 at_:T5 K (.ref C) f=some (some u)
 rel:RelV v u
 get:t8 K u "__get__"=some none
 cp:PySem.W.copiedNames.contains f=false
structure Meth(K:j0)(C:Addr)(m:Str)(f:Addr):Prop where
 at_:T5 K (.ref C) m=some (some (.ref f))
 fn:PySem.W.isFn K (.ref f)=true
 kp:W3 K (.ref f)=true
section
variable {X:Cx}{pins:List (Addr×Obj)}{σ:St}{H:Hp}{s:Shared}{a C dx:Addr}{fs:List (Str×V)}{f:Str}{v:V}{A:Around}{E:Value->Shared->Prop}
end
section
variable {X:Cx}{o e value:Expr}{f:Str}{pos pos' tpos:Pos}{ta tv:TE}
end
section
variable {X:Cx}{pins:List (Addr×Obj)}{σ:St}{H:Hp}{s:Shared}{A:Around}{E:Value->Shared->Prop}{Q:Value->Shared->Prop}{c:Value}{b:Bool}
inductive TyOf (K:j0) (H:Hp):V->Value->Prop where
 | non:TyOf K H .non (.type "NoneType")
 | bl (x:Bool):TyOf K H (.bl x) (.type "bool")
 | int (i:Int):TyOf K H (.int i) (.type "int")
 | str (x:Str):TyOf K H (.str x) (.type "str")
 | flt (x:UInt64):TyOf K H (.flt x) (.type "float")
 | lst {a:Addr}{xs:List V} (e:H a=some (.lst xs)):TyOf K H (.ref a) (.type "list")
 | frz {a:Addr}{o:Obj}{xs:List V} (e:H a=some (.frz o (.lst xs))):TyOf K H (.ref a) (.type "list")
 | tup {a:Addr}{xs:List V} (e:H a=some (.tup xs)):TyOf K H (.ref a) (.type "tuple")
 | dK {a:Addr}{kvs:List (Key×V)} (e:H a=some (.dK kvs)):TyOf K H (.ref a) (.type "dict")
 | dT {a:Addr}{kvs:List (List Key×V)} (e:H a=some (.dT kvs)):TyOf K H (.ref a) (.type "dict")
 | ins {a C dx:Addr}{fs:List (Str×V)} (e:H a=some (.ins C dx fs)) (cl:Cls K C) (ha:T5 K (.ref C) "__class__"=some (some (.builtin "object.__class__")))
   (hn:t8 K (.builtin "object.__class__") "__get__"=some (some (.builtin "getset_descriptor.__get__"))) (htk:PySem.W.takesIn K (.builtin "object.__class__")=some true)
   (hm:PySem.W.mroIn K C (.type "object")=some true):TyOf K H (.ref a) (.ref C)
end
structure Room(k:Nat)(A:Around):Prop where
 hd:A.handled=none
 dp:A.depth+3 * k+5 < recursionLimit
 un:A.units+16 * k+200 < cLine
 gd:A.guards=some []
theorem Room.mono{j k:Nat}{A:Around}(r:Room k A)(h:j<=k):Room j A:=⟨r.hd,by have:=r.dp;omega,by have:=r.un;omega,r.gd⟩
theorem Room.deeper{k:Nat}{A:Around}(r:Room (k+1) A)(env:Env):Room k (A.deeper env) :=
 ⟨r.hd,by have:=r.dp;show A.depth+1+3 * k+5 < _;omega,by have:=r.un;show A.units+3+16 * k+200 < _;omega,r.gd⟩
theorem Room.depth{k:Nat}{A:Around}(r:Room k A):A.depth < recursionLimit:=by have:=r.dp;omega
theorem Room.units{k:Nat}{A:Around}(r:Room k A):A.units+64 < cLine:=by have:=r.un;omega
noncomputable def tNil:TA:=λ_ H Q=>Q [] H
noncomputable def tCons(ta:TE)(tr:TA):TA:=λσ H Q=>ta σ H λx H1=>tr σ H1 λxs H2=>Q (x :: xs) H2
section
variable {X:Cx}{e:Expr}{es:List Expr}{te:TE}{t:TA}{pos:Pos}
theorem pa_nil:PA X [] tNil:=λ_ _ _ _ H Q I h=>Calls.spliced_nil ⟨[],H,I,.nil,h⟩
theorem pa_cons(ha:PE X e te)(hr:PA X es t)(hs:starEach (e :: es) X.env=(false,eval e X.env) :: starEach es X.env:=by rfl):PA X (e :: es) (tCons te t):=by
 intro pos pins s σ H Q I h
 rw[hs]
 show wpAny _ _ (spliced ((false,eval e X.env) :: backTo pos (starEach es X.env))) _ _ s
 refine Calls.spliced_cons (thn (ha pins s σ H _ I h) λu s1 ⟨x,H1,I1,r1,q1⟩=>?_)
 exact thn (hr pos pins s1 σ H1 _ I1 q1) λus s2 ⟨xs,H2,I2,r2,q2⟩=>⟨x :: xs,H2,I2,.cons r1 r2,q2⟩
noncomputable def tTup(t:TA):TE:=λσ H Q=>t σ H λxs H1=>xs.length<=sizeLine/\∀p,H1 p=none->Q (.ref p) (upd H1 p (.tup xs))
noncomputable def tLst(t:TA):TE:=λσ H Q=>t σ H λxs H1=>xs.length<=sizeLine/\∀p,H1 p=none->Q (.ref p) (upd H1 p (.lst xs))
theorem pe_tup{x1}(h:PA X es t):PE X (.Tuple es x1 pos) (tTup t):=by
 intro pins s σ H Q I hq
 refine wpAny_Tuple_spliced (thn (h pos pins s σ H _ I hq) λus s1 ⟨xs,H1,I1,r,z,q⟩=>⟨by rw[<- r.length];exact z,?_⟩)
 have hf:H1 s1.heap.objs.size=none:=I1.hok.fresh (N0 _)
 refine ⟨.ref s1.heap.objs.size,upd H1 s1.heap.objs.size (.tup xs),I1.laid (t':=s1.toks) (λb u e=>i0 _ e) (N0 _) ?_,rfl,q _ hf⟩
 exact ⟨z,us,r,⟨_,K0 _ rfl,rfl,_,rfl,rfl⟩⟩
theorem pe_lst(h:PA X es t):PE X (.List es pos) (tLst t):=by
 intro pins s σ H Q I hq
 refine wpAny_List_spliced (thn (h pos pins s σ H _ I hq) λus s1 ⟨xs,H1,I1,r,z,q⟩=>⟨by rw[<- r.length];exact z,?_⟩)
 have hf:H1 s1.heap.objs.size=none:=I1.hok.fresh (N0 _)
 refine ⟨.ref s1.heap.objs.size,upd H1 s1.heap.objs.size (.lst xs),I1.laid (t':=s1.toks) (λb u e=>i0 _ e) (N0 _) ?_,rfl,q _ hf⟩
 exact ⟨z,us,0,r,K0 _ rfl⟩
end
noncomputable abbrev Sp:=List V->Hp->VK->XK->Prop
noncomputable abbrev CXT:=List Env->Hp->Shared->XK->Value->Shared->Prop
structure Env0(P:Program)(w:World)(K:j0)(mg:Str->Option Value)(base:Heap)(A:Around)(outer:List Env)(s:Shared)(H:Hp):Prop where
 frames:A.frames=some outer
 mod:Mod K mg base
 bs:∀b o,base.get? b=some o->s.heap.get? b=some o/\H b=none
 bsz:base.objs.size<=s.heap.objs.size
 funs:s.heap.FunFrames base outer
 frf:∀b∈frs outer,H b=none
 hok:HOk P w H s.heap
 bare:AllBare s.gens
noncomputable def CE(outer:List Env)(P:Program)(w:World)(H:Hp)(s:Shared)(Q:VK)(u:Value)(s':Shared):Prop :=
 ∃v H',s'.os=s.os/\AllBare s'.gens/\Un (frs outer) [] H H' s.heap s'.heap/\HOk P w H' s'.heap/\RelV v u/\Q v H'
noncomputable def CR(CX:CXT)(outer:List Env)(P:Program)(w:World)(H:Hp)(s:Shared)(Q:VK)(E:XK)(r:Result)(s':Shared):Prop :=
 match r with
 | .ok (.ret u)=>CE outer P w H s Q u s'
 | .ok _=>False
 | .error e=>CX outer H s E e s'
structure FnOk(P:Program)(w:World)(K:j0)(mg:Str->Option Value)(base:Heap)(CX:CXT)(k:Nat)(f:Addr)(fd:FuncData)(ps:List Str)(sp:Sp):Prop where
 len:∀vs H Q E,sp vs H Q E->vs.length=ps.length
 run:∀(A:Around) (outer:List Env) (s:Shared) (H:Hp) (args:Args) (us:List Value) (vs:List V) (Q:VK) (E:XK),Room k A->Env0 P w K mg base A outer s H->BindsTo s fd args (ps.zip us)->Vals vs us->sp vs H Q E ->
  codeAny (model P w) A (.call (.ref f) args) (CR CX outer P w H s Q E) s
section
variable {X:Cx}{pins:List (Addr×Obj)}{σ:St}{H:Hp}{s s':Shared}
theorem Inv.env0(I:Inv X pins σ H s):Env0 X.prog X.w X.K X.mg X.base X.A X.stack s H :=
 ⟨I.ok.frames,I.ok.mod,I.bs,O1 I.ok.bsz I.sz,I.stack,I.stkFree,I.hok,I.bare⟩
theorem Inv.after{Q:VK}{u:Value}(I:Inv X pins σ H s)(h:CE X.stack X.prog X.w H s Q u s'):EP X pins σ Q u s':=by
 obtain⟨v,H',os,bare,un,hok,r,q⟩:=h
 obtain⟨hh,g,d,t,os'⟩:=s'
 obtain rfl:os'=s.os:=os
 exact ⟨v,H',I.call (h':=hh) (g':=g) (d':=d) (t':=t) (ch:=[]) un hok bare (λb z=>absurd z (by simp)),r,q⟩
end
noncomputable def tCall(sp:Sp)(dvs:List V)(E:XK)(t:TA):TE:=λσ H Q=>t σ H λvs H1=>sp (vs++dvs) H1 Q E
noncomputable def Binds(K:j0)(fd:FuncData)(ps:List Str)(ds:List Value):Prop :=
 ∀(s:Shared) (us:List Value),K.In s.heap->(us++ds).length=ps.length->BindsTo s fd ⟨us,[]⟩ (ps.zip (us++ds))
theorem Binds.all{K:j0}{fd:FuncData}{ps:List Str}(h:∀us:List Value,us.length=ps.length->bindArgs fd ⟨us,[]⟩=pure (ps.zip us)):Binds K fd ps []:=λs us _ hl=>by
 rw[S3]at hl ⊢
 exact .of_eq (h us hl)
noncomputable def Passes(CX:CXT)(X:Cx)(E:XK):Prop:=∀(pins:List (Addr×Obj)) (σ:St) (H:Hp) (s:Shared) (e:Value) (s':Shared),Inv X pins σ H s->CX X.stack H s E e s'->X.xe e s'
section
variable {X:Cx}{CX:CXT}{k:Nat}{f C:Addr}{fd:FuncData}{ps:List Str}{sp:Sp}{dvs:List V}{ds:List Value}{E:XK}{x m:Str}{p pos apos:Pos}{e o:Expr}{es:List Expr}{ta:TE}{t:TA}
theorem run_fn{pins:List (Addr×Obj)}{σ:St}{H:Hp}{s:Shared}{Q:VK}{us:List Value}{vs:List V}(F:FnOk X.prog X.w X.K X.mg X.base CX k f fd ps sp)(hr:Room k X.A)(hb:Binds X.K fd ps ds)(hd:Vals dvs ds)(hx:Passes CX X E)
  (I:Inv X pins σ H s) (r:Vals vs us) (h:sp (vs++dvs) H Q E):wpAny (model X.prog X.w) X.A (call (.ref f) us) (EP X pins σ Q) X.xe s:=by
 have r2:Vals (vs++dvs) (us++ds):=r.append hd
 have hl:(us++ds).length=ps.length:=by rw[<- r2.length];exact F.len _ _ _ _ h
 refine wpAny_call (codeAny_mono (F.run X.A X.stack s H ⟨us,[]⟩ (us++ds) (vs++dvs) Q E hr I.env0 (hb s us I.kIn hl) r2 h) λr s' hq=>?_)
 cases r with
 | error e=>exact hx pins σ H s e s' I hq
 | ok fl =>
  cases fl with
  | ret u=>exact I.after hq
  | next=>exact False.elim hq
  | brk=>exact False.elim hq
  | cont=>exact False.elim hq
theorem pe_call(F:FnOk X.prog X.w X.K X.mg X.base CX k f fd ps sp)(hr:Room k X.A)(hg:Gl X x)(hm:X.mg x=some (.ref f))(hk:W3 X.K (.ref f)=true)(hb:Binds X.K fd ps ds)(hd:Vals dvs ds)(hx:Passes CX X E)
  (ha:PA X (e :: es) t) (hdb:(x==("__debug__":Str))=false:=by decide) (he:starEach (e :: es) X.env=(false,eval e X.env) :: starEach es X.env:=by rfl) (hpl:(backTo pos (starEach es X.env)).any (·.1)=false:=by rfl) :
  PE X (.Call (.Name x p) (e :: es) [] pos) (tCall sp dvs E t):=by
 intro pins s σ H Q I h
 refine wpAny_Call_Name_kw (ld_glob I hg hm ?_ hdb)
 refine PySem.W.callWith_K (h₀:=X.base) I.ok.mod.kin hk (thn (ha pos pins s σ H _ I h) λus s1 ⟨vs,H1,I1,r,q⟩=>⟨I1.kIn,?_⟩) he hpl
 exact run_fn F hr hb hd hx I1 r q
structure Mk(K:j0)(C f:Addr):Prop where
 makes:PySem.W.makesIn K C=true
 init:T5 K (.ref C) "__init__"=some (some (.ref f))
 fn:PySem.W.isFn K (.ref f)=true
 kp:W3 K (.ref C)=true
end
section
variable {X:Cx}{CX:CXT}{k:Nat}{f C:Addr}{fd:FuncData}{ps ks:List Str}{sp:Sp}{E:XK}{x m:Str}{p pos apos kpos:Pos}{e o:Expr}{es:List Expr}{kws:List Keyword}{te ta:TE}{t tk:TA}{nm:Option Str}
structure KBinds(K:j0)(fd:FuncData)(ps ks:List Str)(g:List Value->List Value->List Value)(gV:List V->List V->List V):Prop where
 to:∀(s:Shared) (us ws:List Value),K.In s.heap->(g us ws).length=ps.length->BindsTo s fd ⟨us,ks.zip ws⟩ (ps.zip (g us ws))
 rel:∀{vs:List V}{us:List Value}{zs:List V}{ws:List Value},Vals vs us->Vals zs ws->Vals (gV vs zs) (g us ws)
variable {g:List Value->List Value->List Value}{gV:List V->List V->List V}
end
structure FnScope(N P:List Str)(sc:Scope):Prop where
 kind:sc.kind=.function
 co:sc.isCoroutine=false
 gen:sc.isGenerator=false
 nd:N.Nodup
 pre:N.take P.length=P
 par:∀x∈P,sc.names.lookup x=some .local\/sc.names.lookup x=some .cell
 nofree:∀y∈sc.names,y.2≠.free
theorem bindL_out{kindOf:Str->Option NameKind}{x:Str}:∀{binds:List (Str×Value)}{m:Str->Option Value},(∀v,(x,v)∉binds)->bindL kindOf binds m x=m x
 | [],_,_=>rfl
 | (n,v) :: r,m,h=>by
  unfold bindL
  rw[bindL_out λw hw=>h w (G0 _ hw)]
  split
  ·have:x≠n:=by rintro rfl;exact h v M0
   simp[this]
  ·rfl
theorem bindC_out{kindOf:Str->Option NameKind}{x:Str}:∀{binds:List (Str×Value)}{m:Str->Option Value},(∀v,(x,v)∉binds)->bindC kindOf binds m x=m x
 | [],_,_=>rfl
 | (n,v) :: r,m,h=>by
  unfold bindC
  rw[bindC_out λw hw=>h w (G0 _ hw)]
  split
  ·rfl
  ·have:x≠n:=by rintro rfl;exact h v M0
   simp[this]
theorem bindL_get{kindOf:Str->Option NameKind}{x:Str}{v:Value}:∀{P:List Str}{vs:List Value}{i:Nat}{m:Str->Option Value},P.Nodup->P[i]?=some x->vs[i]?=some v->kindOf x=some .local ->
  bindL kindOf (P.zip vs) m x=some v
 | [],_,_,_,_,h,_,_=>by simp at h
 | _ :: _,[],_,_,_,_,h,_=>by simp at h
 | p :: P,w :: vs,0,m,nd,h1,h2,hk=>by
  simp at h1 h2;subst h1;subst h2
  show bindL kindOf ((p,w) :: P.zip vs) m p=_
  unfold bindL
  rw[bindL_out λv hv=>(M4.mp nd).1 (N4 hv).1,if_pos hk]
  simp
 | p :: P,w :: vs,i+1,m,nd,h1,h2,hk=>by
  show bindL kindOf ((p,w) :: P.zip vs) m x=_
  unfold bindL
  exact bindL_get (i:=i) (M4.mp nd).2 (by simpa using h1) (by simpa using h2) hk
theorem bindC_get{kindOf:Str->Option NameKind}{x:Str}{v:Value}:∀{P:List Str}{vs:List Value}{i:Nat}{m:Str->Option Value},P.Nodup->P[i]?=some x->vs[i]?=some v->kindOf x≠some .local ->
  bindC kindOf (P.zip vs) m x=some v
 | [],_,_,_,_,h,_,_=>by simp at h
 | _ :: _,[],_,_,_,_,h,_=>by simp at h
 | p :: P,w :: vs,0,m,nd,h1,h2,hk=>by
  simp at h1 h2;subst h1;subst h2
  show bindC kindOf ((p,w) :: P.zip vs) m p=_
  unfold bindC
  rw[bindC_out λv hv=>(M4.mp nd).1 (N4 hv).1,if_neg hk]
  simp
 | p :: P,w :: vs,i+1,m,nd,h1,h2,hk=>by
  show bindC kindOf ((p,w) :: P.zip vs) m x=_
  unfold bindC
  exact bindC_get (i:=i) (M4.mp nd).2 (by simpa using h1) (by simpa using h2) hk
noncomputable def start(N:List Str)(vs:List V):St:=vs.map some++P1 (N.length - vs.length) none
noncomputable def cxOf(CX:CXT)(P:Program)(w:World)(K:j0)(mg:Str->Option Value)(base:Heap)(N:List Str)(qual:Str)(scope:Scope)(f:Addr)(cd:Value)(A:Around)(outer:List Env)(s:Shared)(H:Hp)(E:XK):Cx where
 prog:=P
 w:=w
 K:=K
 mg:=mg
 base:=base
 A:=A.deeper (envOfC qual scope s.heap.objs.size f cd)
 N:=N
 s₀:=s
 H₀:=H
 env:=envOfC qual scope s.heap.objs.size f cd
 outer:=outer
 stack:=envOfC qual scope s.heap.objs.size f cd :: outer
 ex:=[]
 calm:=true
 fn:=λ_=>true
 pn:=[]
 xe:=λe s'=>wpAny (model P w) (A.deeper (envOfC qual scope s.heap.objs.size f cd)) (leaving (envOfC qual scope s.heap.objs.size f cd) e) (λ_ s''=>CX outer H s E e s'') (λe' s''=>CX outer H s E e' s'') s'
theorem cell_has{sc:Scope}{n:Nat}{x:Str}(h:sc.names.lookup x=some .cell):∃c,(cellsFrom n sc.names []).lookup x=some c:=by
 have q:=y7 sc.names n [] (.inl h)
 exact Option.isSome_iff_exists.mp q
theorem inv_start{CX:CXT}{P:Program}{w:World}{K:j0}{mg:Str->Option Value}{base:Heap}{N ps:List Str}{qual:Str}{scope:Scope}{f:Addr}{cd:Value}{A:Around}{outer:List Env}{s s1:Shared}{H:Hp}{E:XK}{us:List Value}{vs:List V}
  (S:FnScope N ps scope) (hd:A.handled=none) (e0:Env0 P w K mg base A outer s H) (hl:vs.length=ps.length) (r:Vals vs us)
  (x:InCallC s s.heap.objs.size (bindL (envOfC qual scope s.heap.objs.size f cd).kindOf (ps.zip us) λ_=>none) (cellsFrom (s.heap.objs.size+1) scope.names []) (bindC (envOfC qual scope s.heap.objs.size f cd).kindOf (ps.zip us) λ_=>none) s1) :
  Inv (cxOf CX P w K mg base N qual scope f cd A outer s H E) [] (start N vs) H s1:=by
 have hpl:ps.length<=N.length:=by have:=congrArg x8 S.pre;rw[i7]at this;omega
 obtain⟨h1,tk,rfl,hk⟩:=x.done
 have noA:∀b:Addr,b∉(cxOf CX P w K mg base N qual scope f cd A outer s H E).ex:=λb z=>absurd (show b∈([]:List Addr) from z) (by simp)
 refine ⟨⟨e0.mod,S.kind,rfl,rfl,N0 _,λy z c h1 h2=>?_,λy hy=>?_,λy c _ h=>?_,λ_=>hd,Around.frames_deeper e0.frames,.inr ⟨rfl,rfl⟩,λb z=>absurd z (noA b),e0.bs,e0.bsz,λb _ _=>noA b,λb z=>absurd z (noA b),e0.funs,e0.frf⟩,
   rfl,e0.bare,Un.kept hk,⟨_,x.toInCall.ns,λi y v h1 h2 h3=>?_⟩,λy c h=>⟨_,x.cell y c h⟩,e0.hok.fresh (N0 _),λy c h=>?_,λp hp=>absurd (show p∈([]:List (Addr×Obj)) from hp) (by simp),e0.hok.kept hk,?_⟩
 ·exact name_of_addr x.apart (PySem.mem_of_lookup h1) (PySem.mem_of_lookup h2)
 ·have hy:scope.names.lookup y=some .cell\/scope.names.lookup y=some .free:=hy
  rcases hy with hy|hy
  ·exact cell_has hy
  ·exact absurd rfl (S.nofree _ (PySem.mem_of_lookup hy))
 ·exact G5 (x.above y c (PySem.mem_of_lookup h))
 ·have hi:i < vs.length:=by
   unfold start at h2
   by_cases hi:i < vs.length
   ·exact hi
   ·rw[U2 (by simpa using hi)]at h2
    rw[u7]at h2
    split at h2<;>cases h2
  have ha:vs[i]?=some v:=by
   unfold start at h2
   rw[W2 (by simpa using hi),W0]at h2
   cases e:vs[i]? with
   | none=>rw[e]at h2;cases h2
   | some a=>rw[e]at h2;cases h2;rfl
  obtain⟨u,hu,rv⟩:=r.get ha
  have hp:ps[i]?=some y:=by
   rw[<- S.pre,List.getElem?_take_of_lt (by omega)];exact h1
  have ndP:ps.Nodup:=by rw[<- S.pre];exact S.nd.sublist (List.take_sublist _ _)
  refine ⟨u,rv,?_⟩
  rcases S.par y (Q1 hp) with k|k
  ·exact .inl ⟨k,bindL_get ndP hp hu k⟩
  ·obtain⟨c,e⟩:=cell_has (n:=s.heap.objs.size+1) k
   refine .inr ⟨.inl k,c,e,?_⟩
   have q:=x.cell y c e
   rw[bindC_get ndP hp hu (by show scope.names.lookup y≠_;rw[k];decide)]at q
   exact q
 ·exact e0.hok.fresh (G5 (x.above y c (PySem.mem_of_lookup h)))
 ·unfold start
  show _=N.length
  rw[Z0,A0,List.length_replicate]
  omega
theorem fn_of{CX:CXT}{P:Program}{w:World}{K:j0}{mg:Str->Option Value}{base:Heap}{k:Nat}{f:Addr}{name qual:Str}{params:Arguments}{body:List Stmt}{scope:Scope}{dV kV doc pm cdv ct oc:Value}{an od:Option Addr}
  {osl:Array (Option Value)}{N ps:List Str}{sp:Sp} (lk:K.lookup f=some ⟨oc,od,.func (Q4 name qual params body scope dV kV doc pm an cdv ct),osl⟩) (hcd:K6 K cdv qual=true) (S:FnScope N ps scope)
  (len:∀vs H Q E,sp vs H Q E->vs.length=ps.length)
  (hbody:∀(A:Around) (outer:List Env) (s:Shared) (H:Hp) (vs:List V) (Q:VK) (E:XK),Room k (A.deeper (envOfC qual scope s.heap.objs.size f cdv))->sp vs H Q E ->
    ∃t,PSs (cxOf CX P w K mg base N qual scope f cdv A outer s H E) body t/\t { nx:=λ_ H'=>Q .non H',rt:=Q } (start N vs) H) :
  FnOk P w K mg base CX (k+1) f (Q4 name qual params body scope dV kV doc pm an cdv ct) ps sp:=by
 refine ⟨len,λA outer s H args us vs Q E hr e0 hb r hsp=>?_⟩
 have hl:=len _ _ _ _ hsp
 have KX:K.In s.heap:=e0.mod.kin.keeps λb o e=>(e0.bs b o e).1
 have lim:s.heap.NoLimit:=e0.mod.nolimit.keeps λb o e=>(e0.bs b o e).1
 have hkind:∀y∈ps.zip us,scope.names.lookup y.1=some .local\/(scope.names.lookup y.1=some .cell/\((cellsFrom (s.heap.objs.size+1) scope.names []).lookup y.1).isSome=true):=λ⟨n,v⟩ hy=>by
  rcases S.par n (N4 hy).1 with q|q
  ·exact .inl q
  ·exact .inr ⟨q,y7 _ _ _ (.inl q)⟩
 refine codeAny_call_function hr.depth (KX _ _ lk) rfl S.co S.gen rfl (PySem.W.codeRec_of KX hcd) (hb _ _ _ _ ?_)
 refine wpAny_newFunctionEnv_cells S.kind hkind λenv he s1 x=>?_
 subst he
 refine ⟨lim.keeps x.toInCall.keep,codeAny_func ?_⟩
 obtain⟨t,ht,hq⟩:=hbody A outer s H vs Q E (hr.deeper _) hsp
 have I:Inv (cxOf CX P w K mg base N qual scope f cdv A outer s H E) [] (start N vs) H s1:=inv_start S hr.hd e0 hl r x
 refine wpAny_mono (ht [] s1 (start N vs) H _ I hq) (λfl s' hs=>?_) λe s' hs=>hs
 have fin:∀{σ':St}{H':Hp}{v:V}{u:Value},Inv (cxOf CX P w K mg base N qual scope f cdv A outer s H E) [] σ' H' s'->RelV v u->Q v H'->CE outer P w H s Q u s' :=
  λ{σ' H' v u} J rv q=>⟨v,H',J.os,J.bare,J.base,J.hok,rv,q⟩
 cases fl with
 | ret u =>
  obtain⟨v,σ',H',J,rv,q⟩:=hs
  exact fin J rv q
 | next =>
  obtain⟨σ',H',J,q⟩:=hs
  exact fin (v:=V.non) (u:=A5) J rfl q
 | brk =>
  obtain⟨_,_,_,q⟩:=hs
  exact False.elim q
 | cont =>
  obtain⟨_,_,_,q⟩:=hs
  exact False.elim q
section
variable {X:Cx}{x:Str}{p pos:Pos}{e:Expr}{es:List Expr}{t:TA}{id T:String}{r:List V->Hp->VK->Prop}
noncomputable def tCB(r:List V->Hp->VK->Prop)(t:TA):TE:=λσ H Q=>t σ H λvs H1=>r vs H1 Q
theorem pe_callB(hc:CallR X (.builtin id) r)(hg:Gl X x)(hm:X.mg x=none)(hv:bootBuiltins x=some (.builtin id))(ha:PA X (e :: es) t)(hn:x ≠ "__name__":=by decide)(hdb:(x==("__debug__":Str))=false:=by decide)
  (he:starEach (e :: es) X.env=(false,eval e X.env) :: starEach es X.env:=by rfl) (hpl:(backTo pos (starEach es X.env)).any (·.1)=false:=by rfl):PE X (.Call (.Name x p) (e :: es) [] pos) (tCB r t):=by
 intro pins s σ H Q I h
 refine wpAny_Call_Name_kw (ld_blt I hg hm hv ?_ hn hdb)
 exact PyProof.Rows.callWith_builtin1 (thn (ha pos pins s σ H _ I h) λus s1 ⟨vs,H1,I1,r1,q1⟩=>hc pins s1 σ H1 vs us Q I1 r1 q1) he hpl
theorem pe_callTy(hc:CallR X (.type T) r)(hg:Gl X x)(hm:X.mg x=none)(hv:bootBuiltins x=some (.type T))(ha:PA X (e :: es) t)(hn:x ≠ "__name__":=by decide)(hdb:(x==("__debug__":Str))=false:=by decide)
  (he:starEach (e :: es) X.env=(false,eval e X.env) :: starEach es X.env:=by rfl) (hpl:(backTo pos (starEach es X.env)).any (·.1)=false:=by rfl):PE X (.Call (.Name x p) (e :: es) [] pos) (tCB r t):=by
 intro pins s σ H Q I h
 refine wpAny_Call_Name_kw (ld_blt I hg hm hv ?_ hn hdb)
 exact Q2 (thn (ha pos pins s σ H _ I h) λus s1 ⟨vs,H1,I1,r1,q1⟩=>hc pins s1 σ H1 vs us Q I1 r1 q1) he hpl
end
end L2
namespace HT
open PySem PyProof.Rows
noncomputable def lexLt:List Int->List Int->Bool
 | [],[]=>false
 | [],_ :: _=>true
 | _ :: _,[]=>false
 | x :: xs,y :: ys=>if x=y then lexLt xs ys else decide (x < y)
theorem lexLt_cons(x y:Int)(xs ys:List Int):lexLt (x :: xs) (y :: ys)=if x=y then lexLt xs ys else decide (x < y):=rfl
theorem lexLt_nil_nil:lexLt [] []=false:=rfl
theorem lexLt_nil_cons(y:Int)(ys:List Int):lexLt [] (y :: ys)=true:=rfl
theorem lexLt_cons_nil(x:Int)(xs:List Int):lexLt (x :: xs) []=false:=rfl
theorem eqAt_int(A:Around)(s:Shared)(a:Int)(t:Tok)(c:Int)(u:Tok):∃e,SeqAt.EqAt A s (.int a t) (.int c u) e/\(e=true ↔ a=c) :=
 ⟨(a==c),SeqAt.EqAt.int_int a t c u,by simp⟩
theorem rcLt_int(A:Around)(s:Shared)(a:Int)(t:Tok)(c:Int)(u:Tok)(prog:Program)(w:World)(E:Value->Shared->Prop)(Q:Value->Shared->Prop)(h:Q (.bool (decide (a < c))) s) :
  wpAny (model prog w) A (richCompare .Lt (.int a t) (.int c u)) Q E s :=
 (PyProof.Rows.lt_int h:wpAny (model prog w) A (compareOp .Lt (.int a t) (.int c u)) Q E s)
section
open PySem.SeqAt
open PySem.AutoSeq1 (wpAny_loadPart')
open PySem.MeetsSeq PySem.MeetsSeq2 PySem.MeetsSeq3
theorem tuple_lt_ints(l b:Addr)(items items2:Array Value)(n n2:Nat)(dd dd2:Option Addr)(sl sl2:Array (Option Value))(ns ms:List Int)(hi:IntsAre items.toList ns)(hj:IntsAre items2.toList ms) :
  Meets (Builtin.«tuple.__lt__» ⟨[.ref l,.ref b],[]⟩)
   (λ_ R s=>s.heap.get? l=some { cls:=.type "tuple",dict:=dd,data:=.seq items n,slots:=sl }/\s.heap.get? b=some { cls:=.type "tuple",dict:=dd2,data:=.seq items2 n2,slots:=sl2 } /\
     R (.ok (.ret (.bool (lexLt ns ms)))) s) :=
 .of_wp λprog w A R s h=>by
  obtain⟨hp,g,d,tk,os⟩:=s;obtain⟨hl,hb,h⟩:=h
  have f2:=AutoSeq1.sub_tuple_tuple
  have z1:items.size=ns.length:=by rw[<- hi.length];simp
  have z2:items2.size=ms.length:=by rw[<- hj.length];simp
  wp_walk using wpAny_loadPart' hl,wpAny_loadPart' hb,wpAny_forIn_list _ (λrest b s'=>b.1=none/\s'=⟨hp,g,d,tk,os⟩/\∃(vs ws:List Value) (ns' ms':List Int),rest=vs.zip ws /\
    IntsAre vs ns'/\IntsAre ws ms'/\ns'.length+items2.size=ms'.length+items.size/\R (.ok (.ret (.bool (lexLt ns' ms')))) ⟨hp,g,d,tk,os⟩) _
  case turn =>
   rintro⟨y,x⟩ rest b s' ⟨hb',rfl,vs,ws,ns',ms',hz,hvi,hwi,hlen,hR⟩
   cases hvi with
   | nil=>rw[List.zip_nil_left]at hz;cases hz
   | cons a t hvi' =>
    cases hwi with
    | nil=>rw[List.zip_nil_right]at hz;cases hz
    | cons c u hwi' =>
     rw[i5]at hz
     injection hz with hyx hrest
     injection hyx with hy hx
     subst hy hx
     rw[lexLt_cons]at hR
     simp only[Z1]at hlen
     obtain⟨e,he,hiff⟩:=eqAt_int A.in1 ⟨hp,g,d,tk,os⟩ a t c u
     refine wpAny_bind (he prog w _ _ ?_)
     cases e with
     | true =>
      rw[if_pos (hiff.mp rfl)]at hR
      wp_walk
      exact ⟨rfl,rfl,_,_,_,_,hrest,hvi',hwi',by omega,hR⟩
     | false =>
      rw[if_neg (λq=>absurd (hiff.mpr q) T0)]at hR
      have hri:=rcLt_int A.in1 ⟨hp,g,d,tk,os⟩ a t c u prog w
      wp_walk using hri
      exact ⟨_,rfl,by simpa using hR⟩
  case fin =>
   rintro⟨b1,b2⟩ s' ⟨hb',rfl,vs,ws,ns',ms',hz,hvi,hwi,hlen,hR⟩
   simp only at hb'
   subst hb'
   have hv:lexLt ns' ms'=decide (items.size < items2.size):=by
    cases hvi with
    | nil =>
     cases hwi with
     | nil =>
      simp only[O5]at hlen
      rw[lexLt_nil_nil]
      exact (decide_eq_false (by omega)).symm
     | cons c u hw =>
      simp only[O5,Z1]at hlen
      rw[lexLt_nil_cons]
      exact (decide_eq_true (by omega)).symm
    | cons a t hv =>
     cases hwi with
     | nil =>
      simp only[O5,Z1]at hlen
      rw[lexLt_cons_nil]
      exact (decide_eq_false (by omega)).symm
     | cons c u hw =>
      rw[i5]at hz
      cases hz
   rw[hv]at hR
   wp_walk
   exact ⟨_,rfl,by simpa [Builtin.Tuple.tupleCompareSizes]using hR⟩
  case h =>
   exact ⟨rfl,rfl,items.toList,items2.toList,ns,ms,rfl,hi,hj,by omega,h⟩
end
section
variable {prog:Program}{w:World}{A:Around}{E:Value->Shared->Prop}{s:Shared}
theorem lt_tupInts{l b:Addr}{items items2:Array Value}{ns ms:List Int}{Q:Value->Shared->Prop}(hl:IsTup s.heap l items)(hb:IsTup s.heap b items2)(hi:IntsAre items.toList ns)(hj:IntsAre items2.toList ms)
  (hu:A.units < cLine) (h:Q (.bool (lexLt ns ms)) s):wpAny (model prog w) A (compareOp .Lt (.ref l) (.ref b)) Q E s:=by
 obtain⟨⟨cls,dd,data,sl⟩,ho,hc,n,hd⟩:=id hl
 obtain⟨⟨cls2,dd2,data2,sl2⟩,ho2,hc2,n2,hd2⟩:=id hb
 simp only at hc hd hc2 hd2
 subst hc hd hc2 hd2
 exact richCompare_meets_room (op:=.Lt) ⟨_,ho,rfl⟩ ⟨_,ho2,rfl⟩ PySem.F.slot_tuple_lt PySem.F.entry_tuple_lt (PySem.F.args_tuple_lt_2 _ _) (tuple_lt_ints l b items items2 n n2 dd dd2 sl sl2 ns ms hi hj)
  ⟨ho,ho2,show B8 (lexLt ns ms)≠Value.notImplemented/\Q (.bool (lexLt ns ms)) s from ⟨(λx=>nomatch x),h⟩⟩ hu
theorem cat_tup{t b:Addr}{vs ws:List Value}{Q:Value->Shared->Prop}(ht:IsTup s.heap t vs.toArray)(hb:IsTup s.heap b ws.toArray)(hv:vs≠[])
  (h1:ws=[]->Q (.ref t) s) (h2:ws≠[]->Q (.ref s.heap.objs.size) { s with heap:=s.heap.push { cls:=.type "tuple",data:=.seq (vs++ws).toArray } })
  (hsz:vs.length+ws.length<=sizeLine):wpAny (model prog w) A (binaryOp .Add (.ref t) (.ref b)) Q E s:=by
 obtain⟨⟨cls,dd,data,sl⟩,ho,hc,n,hd⟩:=id ht
 obtain⟨⟨cls2,dd2,data2,sl2⟩,ho2,hc2,n2,hd2⟩:=id hb
 simp only at hc hd hc2 hd2
 subst hc hd hc2 hd2
 have e:vs.toArray++ws.toArray=(vs++ws).toArray:=by simp
 by_cases hw:ws=[]
 ·exact concat_meets ⟨_,ho,rfl⟩ ⟨_,ho2,rfl⟩ noFill_tuple_add seq_tuple_add PySem.F.slot_tuple_add PySem.F.entry_tuple_add (PySem.F.args_tuple_add_2 _ _)
   (tuple_addW1 t b vs.toArray ws.toArray n n2 dd dd2 sl sl2 (by simpa using hv) (by simp[hw])) ⟨ho,ho2,h1 hw⟩
 ·refine concat_meets ⟨_,ho,rfl⟩ ⟨_,ho2,rfl⟩ noFill_tuple_add seq_tuple_add PySem.F.slot_tuple_add PySem.F.entry_tuple_add (PySem.F.args_tuple_add_2 _ _)
   (tuple_addW2 t b vs.toArray ws.toArray n n2 dd dd2 sl sl2 (by simpa using hv) (by simpa using hw) (by rw[L0,L0];exact hsz)) ⟨ho,ho2,?_⟩
  rw[e]
  exact h2 hw
noncomputable def sIx(n d:Nat):Option Int->Nat
 | none=>d
 | some v=>if v < 0 then (v+(n:Int)).toNat else min v.toNat n
theorem sIx_le(n d:Nat)(hd:d<=n)(o:Option Int):sIx n d o<=n:=by
 cases o with
 | none=>exact hd
 | some v =>
  show (if v < 0 then (v+(n:Int)).toNat else min v.toNat n)<=n
  by_cases hv:v < 0
  ·rw[if_pos hv];omega
  ·rw[if_neg hv];exact Nat.min_le_right _ _
theorem clip_eq(v:Int)(n d:Nat):(if v < 0 then max (v+(n:Int)) 0 else min v (n:Int))=((sIx n d (some v):Nat):Int):=by
 show (if v < 0 then max (v+(n:Int)) 0 else min v (n:Int))=(((if v < 0 then (v+(n:Int)).toNat else min v.toNat n):Nat):Int)
 by_cases hv:v < 0
 ·simp only[if_pos hv];omega
 ·simp only[if_neg hv];omega
theorem adjust_gen(lo hi:Option Int)(n:Nat):L5 lo hi 1 (n:Int)=(((sIx n 0 lo:Nat):Int),((sIx n n hi:Nat):Int)):=by
 have h1:¬((1:Int) < 0):=by omega
 unfold L5
 simp only[h1,if_false]
 refine Prod.ext ?_ ?_
 ·cases lo with
  | none=>rfl
  | some v=>exact clip_eq v n 0
 ·cases hi with
  | none=>rfl
  | some v=>exact clip_eq v n n
theorem places_gen(i j:Nat):K4 (i:Int) (j:Int) 1=j - i:=by
 unfold K4
 have h1:(1:Int) > 0:=by omega
 simp only[h1,if_true,Int.ediv_one]
 split<;>omega
theorem slicePart_{v:Value}{o:Option Int}{Q:Option Int->Shared->Prop}(p:IsPart v o)(h:Q o s):wpAny (model prog w) A (Builtin.Slice.slicePartIndex v) Q E s:=by
 cases p with
 | none=>exact slicePart_none h
 | int i t=>exact slicePart_int h
theorem sliceApplied_gen{sl:Addr}{vl vu:Value}{lo hi:Option Int}{n:Nat}{Q:Int×Int×Nat->Shared->Prop}(hs:s.heap.IsSliceOf sl vl vu .none)(pl:IsPart vl lo)(pu:IsPart vu hi)
  (h:Q (((sIx n 0 lo:Nat):Int),1,sIx n n hi - sIx n 0 lo) s):wpAny (model prog w) A (N6 (.ref sl) (pure (n:Int))) Q E s:=by
 obtain⟨os,hos,hcs,hds⟩:=id hs
 unfold N6 Builtin.Slice.sliceFields
 refine wpAny_bind (wpAny_bind (wpAny_field hos hds (x:=vl) rfl (wpAny_bind (wpAny_field hos hds (x:=vu) rfl (wpAny_bind (wpAny_field hos hds (x:=.none) rfl (wpAny_pure ?_)))))))
 refine wpAny_bind (slicePart_none ?_)
 show wpAny _ _ (if ((1:Int)==0)=true then _ else _) _ _ s
 rw[if_neg (by decide)]
 refine wpAny_bind (slicePart_ pl (wpAny_bind (slicePart_ pu (wpAny_bind (wpAny_pure ?_)))))
 show wpAny _ _ (match L5 lo hi 1 (n:Int) with|(lo,hi)=>pure (lo,(1:Int),K4 lo hi 1)) _ _ s
 rw[adjust_gen lo hi n]
 show wpAny _ _ (pure (((sIx n 0 lo:Nat):Int),(1:Int),K4 ((sIx n 0 lo:Nat):Int) ((sIx n n hi:Nat):Int) 1)) _ _ s
 rw[places_gen]
 exact wpAny_pure h
theorem pick_gen(xs:Array Value)(i k:Nat):((A2 k).filterMap λ(m:Nat)=>xs[((i:Int)+(m:Int) * 1).toNat]?).toArray=((xs.toList.drop i).take k).toArray:=by
 have e:(λ(m:Nat)=>xs[((i:Int)+(m:Int) * 1).toNat]?)=λm=>xs[i+m]?:=by
  funext m
  have:((i:Int)+(m:Int) * 1).toNat=i+m:=by omega
  rw[this]
 rw[e]
 have:=pick_run xs i k
 rw[List.filterMap_map]at this
 have e2:((λx=>xs[x]?) ∘ λx=>i+x)=λm=>xs[i+m]?:=rfl
 rw[e2]at this
 rw[this]
theorem getItem_tuple_cut{t sl:Addr}{items:Array Value}{vl vu:Value}{lo hi:Option Int}{Q:Value->Shared->Prop}(ht:IsTup s.heap t items)(hs:s.heap.IsSliceOf sl vl vu .none)(pl:IsPart vl lo)(pu:IsPart vu hi)
  (hw:¬(sIx items.size 0 lo=0/\sIx items.size items.size hi=items.size))
  (h:Q (.ref s.heap.objs.size) { s with heap:=s.heap.push { cls:=.type "tuple",data:=.seq ((items.toList.drop (sIx items.size 0 lo)).take (sIx items.size items.size hi - sIx items.size 0 lo)).toArray } })
  (hsz:items.size<=sizeLine):wpAny (model prog w) A (getItem (.ref t) (.ref sl)) Q E s:=by
 have htake:sizeOk (.seq ((items.toList.drop (sIx items.size 0 lo)).take (sIx items.size items.size hi - sIx items.size 0 lo)).toArray):=by
  show ((items.toList.drop (sIx items.size 0 lo)).take (sIx items.size items.size hi - sIx items.size 0 lo)).toArray.size<=sizeLine
  rw[L0,i7,W4,W1]
  omega
 have hj:sIx items.size items.size hi<=items.size:=sIx_le _ _ (N0 _) hi
 obtain⟨os,hos,hcs,hds⟩:=id hs
 have hTs:s.TypeIs (.ref sl) "slice":=⟨os,hos,hcs⟩
 unfold getItem
 try with_reducible refine wpAny_holding ?_
 first|refine wpAny_bind (wpAny_pure ?_)|skip
 refine wpAny_bind (wpAny_sequenceKey ht.typeIs (by decide) ?_)
 refine wpAny_bind (wpAny_callSpecial?_slot (name:=Str.ofString "__getitem__") ht.typeIs T3
   (wpAny_call_entry T3 ht.typeIs entry_tuple_getitem ?_ (args_tuple_getitem _ _)))
 show wpAny _ _ (O6 (.ref t) >>= _) _ _ s
 refine wpAny_bind (tupleItemsOf_ ht ?_)
 refine wpAny_bind (wpAny_typeOf hTs ?_)
 rw[if_pos (by decide)]
 refine wpAny_bind (sliceApplied_gen hs pl pu ?_)
 have hno:¬((((sIx items.size 0 lo:Nat):Int)==0&&(1:Int)==1&&(sIx items.size items.size hi - sIx items.size 0 lo)==items.size)=true):=by
  intro q
  rw[Y0,Y0]at q
  have q1:((sIx items.size 0 lo:Nat):Int)=0:=eq_of_beq q.1.1
  have q2:sIx items.size items.size hi - sIx items.size 0 lo=items.size:=eq_of_beq q.2
  exact hw ⟨by omega,by omega⟩
 show wpAny _ _ (if (((sIx items.size 0 lo:Nat):Int)==0&&(1:Int)==1&&(sIx items.size items.size hi - sIx items.size 0 lo)==items.size)=true then _ else _) _ _ s
 rw[if_neg hno,pick_gen]
 first
  | exact wpAny_bind (m:=U4 _) (wpAny_newObj_type (wpAny_pure ⟨_,rfl,wpAny_pure h⟩) htake)
  | exact wpAny_bind (m:=U4 _) (wpAny_newObj_type (wpAny_bind (wpAny_pure (wpAny_pure ⟨_,rfl,wpAny_pure h⟩))) htake)
  | exact wpAny_bind (wpAny_bind (m:=U4 _) (wpAny_newObj_type (wpAny_pure (wpAny_pure ⟨_,rfl,wpAny_pure h⟩)) htake))
  | exact wpAny_bind (wpAny_bind (m:=U4 _) (wpAny_newObj_type (wpAny_pure ⟨_,rfl,wpAny_pure h⟩) htake))
end
end HT
namespace L2
open PySem PySem.Spec PyProof.Rows
noncomputable abbrev TO:=St->Hp->(Option Int->Hp->Prop)->Prop
noncomputable def PO(X:Cx)(e:Option Expr)(t:TO):Prop :=
 ∀(pins:List (Addr×Obj)) (s:Shared) (σ:St) (H:Hp) (Q:Option Int->Hp->Prop),Inv X pins σ H s->t σ H Q ->
  wpAny (model X.prog X.w) X.A (evalPart e X.env) (λu s'=>∃o H',Inv X pins σ H' s'/\IsPart u o/\Q o H') X.xe s
noncomputable def tNoPart:TO:=λ_ H Q=>Q none H
noncomputable def tPart(t:TE):TO:=λσ H Q=>t σ H λx H1=>∃i,x=.int i/\Q (some i) H1
theorem intsAre_of{ns:List Int}:∀{us:List Value},Vals (ns.map V.int) us->IntsAre us ns:=by
 induction ns with
 | nil=>intro us r;rw[O3]at r;cases r;exact .nil
 | cons n ns ih =>
  intro us r
  rw[K1]at r
  cases r with
  | cons r1 r2 =>
   obtain⟨t,e⟩:=r1
   subst e
   exact .cons n t (ih r2)
section
variable {X:Cx}{e:Expr}{te:TE}{lo hi:Option Expr}{tl th:TO}{pos p2:Pos}
theorem po_none:PO X none tNoPart:=by
 intro pins s σ H Q I h
 rw[evalPart_none]
 exact wpAny_pure ⟨none,H,I,.none,h⟩
theorem po_some(h:PE X e te):PO X (some e) (tPart te):=by
 intro pins s σ H Q I hw
 rw[evalPart_some]
 refine thn (h pins s σ H _ I hw) λu s1 ⟨x,H1,I1,r1,q1⟩=>?_
 obtain⟨i,rfl,q⟩:=q1
 obtain⟨t,rfl⟩:=r1
 exact ⟨some i,H1,I1,.int i t,q⟩
noncomputable def SlR(X:Cx)(r:V->Option Int->Option Int->Hp->VK->Prop):Prop :=
 ∀(pins:List (Addr×Obj)) (s:Shared) (σ:St) (H:Hp) (x:V) (v vl vu:Value) (lo hi:Option Int) (sl:Addr) (Q:VK),Inv X pins σ H s->RelV x v->s.heap.IsSliceOf sl vl vu .none->IsPart vl lo->IsPart vu hi->r x lo hi H Q ->
  ∃T id,typeLookup (.type T) "__getitem__"=pure (some (.builtin id))/\s.TypeIs v T/\wpAny (model X.prog X.w) X.A (getItem v (.ref sl)) (EP X pins σ Q) X.xe s
noncomputable def tSl(r:V->Option Int->Option Int->Hp->VK->Prop)(te:TE)(tl th:TO):TE:=λσ H Q=>te σ H λx H1=>tl σ H1 λl H2=>th σ H2 λu H3=>r x l u H3 Q
theorem pe_slice{r:V->Option Int->Option Int->Hp->VK->Prop}(hr:SlR X r)(he:PE X e te)(hl:PO X lo tl)(hu:PO X hi th):PE X (.Subscript e (.Slice lo hi none p2) pos) (tSl r te tl th):=by
 intro pins s σ H Q I h
 refine Subscript_ (thn (he pins s σ H _ I h) λv s1 ⟨x,H1,I1,r1,q1⟩=>?_)
 refine wpAny_Slice (thn (hl pins s1 σ H1 _ I1 q1) λvl s2 ⟨l,H2,I2,pl,q2⟩=>thn (hu pins s2 σ H2 _ I2 q2) λvu s3 ⟨u,H3,I3,pu,q3⟩=>?_)
 rw[evalPart_none]
 refine wpAny_pure ?_
 have I4:Inv X pins σ H3 { s3 with heap:=s3.heap.push { cls:=.type "slice",data:=.fields #[vl,vu,.none] } }:=I3.kept (t':=s3.toks) λb ob q=>i0 _ q
 obtain⟨T,id,hT,ht,hg⟩:=hr pins { s3 with heap:=s3.heap.push { cls:=.type "slice",data:=.fields #[vl,vu,.none] } } σ H3 x v vl vu l u s3.heap.objs.size Q I4 r1 (Heap.IsSliceOf.new ..) pl pu q3
 show wpAny (model X.prog X.w) X.A (subscriptTail e (.Slice lo hi none p2) v (.ref s3.heap.objs.size)) (EP X pins σ Q) X.xe { s3 with heap:=s3.heap.push { cls:=.type "slice",data:=.fields #[vl,vu,.none] } }
 exact tail_any (ops:=[.ref s3.heap.objs.size,v]) ht hT hg (by with_unfolding_all rfl)
noncomputable def cutV(xs:List V)(lo hi:Option Int):List V:=(xs.drop (HT.sIx xs.length 0 lo)).take (HT.sIx xs.length xs.length hi - HT.sIx xs.length 0 lo)
theorem cutV_length(xs:List V)(lo hi:Option Int):(cutV xs lo hi).length<=xs.length:=by
 unfold cutV
 rw[i7,W4]
 omega
noncomputable def rSlT(K:j0):V->Option Int->Option Int->Hp->VK->Prop:=λx lo hi H Q=>∃a xs,x=.ref a/\SqT K H a xs /\
 ¬(HT.sIx xs.length 0 lo=0/\HT.sIx xs.length xs.length hi=xs.length)/\∀p,H p=none->Q (.ref p) (upd H p (.tup (cutV xs lo hi)))
theorem sl_tup:SlR X (rSlT X.K):=by
 intro pins s σ H x v vl vu lo hi sl Q I rx hs pl pu h
 obtain⟨a,xs,rfl,hx,hw,q⟩:=h
 cases rx
 obtain⟨its,r,ht,hz⟩:=I.tuple hx
 have hlen:its.toArray.size=xs.length:=by rw[L0];exact r.length.symm
 refine ⟨"tuple",_,T3.lookup,ht.typeIs,?_⟩
 refine HT.getItem_tuple_cut ht hs pl pu (by rw[hlen];exact hw) ?_ (by rw[hlen];exact hz)
 rw[hlen]
 refine ⟨.ref s.heap.objs.size,_,I.laid (t':=s.toks) (o:=.tup (cutV xs lo hi)) (λb ob q=>i0 _ q) (N0 _) ?_,rfl,q _ (I.hok.fresh (N0 _))⟩
 exact ⟨O1 (cutV_length xs lo hi) hz,_,(r.drop (HT.sIx xs.length 0 lo)).take (HT.sIx xs.length xs.length hi - HT.sIx xs.length 0 lo),IsTupD.new _ _⟩
noncomputable def rCatT(K:j0):R2:=λx y H Q=>∃a b xs ys,x=.ref a/\y=.ref b/\SqT K H a xs/\SqT K H b ys/\xs≠[]/\xs.length+ys.length<=sizeLine /\
 (ys=[]->Q (.ref a) H)/\(ys≠[]->∀p,H p=none->Q (.ref p) (upd H p (.tup (xs++ys))))
theorem Vals.nil_iff{xs:List V}{us:List Value}(r:Vals xs us):us=[] ↔ xs=[]:=by
 cases r with
 | nil=>simp
 | cons _ _=>simp
theorem op_catT:OpR X (binaryOp .Add) (rCatT X.K):=by
 intro pins s σ H x y v u Q I rx ry h
 obtain⟨a,b,xs,ys,rfl,rfl,ha,hb,hx,hz,q1,q2⟩:=h
 cases rx
 cases ry
 obtain⟨its,r1,p1,_⟩:=I.tuple ha
 obtain⟨its2,r2,p2,_⟩:=I.tuple hb
 refine HT.cat_tup p1 p2 (λz=>hx (r1.nil_iff.mp z)) (λz=>⟨.ref a,H,I,rfl,q1 (r2.nil_iff.mp z)⟩) (λz=>?_) (by rw[<- r1.length,<- r2.length];exact hz)
 refine ⟨.ref s.heap.objs.size,_,I.laid (t':=s.toks) (o:=.tup (xs++ys)) (λb ob q=>i0 _ q) (N0 _) ?_,rfl,q2 (λw=>z (r2.nil_iff.mpr w)) _ (I.hok.fresh (N0 _))⟩
 exact ⟨by rw[Z0];exact hz,_,r1.append r2,IsTupD.new _ _⟩
end
noncomputable def ixN(n:Nat)(i:Int):Option Nat:=if 0<=i then (if i < n then some i.toNat else none) else if -(n:Int)<=i then some (i+n).toNat else none
noncomputable def atI{α:Type}(xs:List α)(i:Int):Option α:=(ixN xs.length i).bind λj=>xs[j]?
theorem ixN_seq{n:Nat}{i:Int}{j:Nat}(h:ixN n i=some j):seqIndex? i n=some j/\j < n/\-(n:Int)<=i/\i < n:=by
 unfold ixN at h
 by_cases h0:0<=i
 ·rw[if_pos h0]at h
  by_cases h1:i < n
  ·rw[if_pos h1]at h
   have e:i.toNat=j:=V1 h
   exact ⟨by rw[seqIndex_of h0 h1,e],by omega,by omega,h1⟩
  ·rw[if_neg h1]at h;cases h
 ·rw[if_neg h0]at h
  by_cases h1:-(n:Int)<=i
  ·rw[if_pos h1]at h
   have e:(i+n).toNat=j:=V1 h
   exact ⟨by rw[seqIndex_neg (by omega) h1,e],by omega,h1,by omega⟩
  ·rw[if_neg h1]at h;cases h
theorem atI_get{α:Type}{xs:List α}{i:Int}{v:α}(h:atI xs i=some v):∃j,seqIndex? i xs.length=some j/\xs[j]?=some v/\j < xs.length/\-(xs.length:Int)<=i/\i < xs.length:=by
 unfold atI at h
 cases e:ixN xs.length i with
 | none=>rw[e]at h;cases h
 | some j =>
  rw[e]at h
  obtain⟨h1,h2,h3,h4⟩:=ixN_seq e
  exact ⟨j,h1,h,h2,h3,h4⟩
theorem atI_nat{α:Type}{xs:List α}{j:Nat}{v:α}(h:xs[j]?=some v):atI xs (j:Int)=some v:=by
 have hj:j < xs.length:=(X0.mp h).1
 have e:ixN xs.length (j:Int)=some j:=by
  unfold ixN
  rw[if_pos (by omega),if_pos (by omega)];simp
 unfold atI;rw[e];exact h
noncomputable def PlainIx(b:Expr):Prop:=∀o i,subscripted b false o i=operate [o,i] (getItem o i)
noncomputable def IxR(X:Cx)(r:R2):Prop :=
 ∀(value slice:Expr) (pins:List (Addr×Obj)) (s:Shared) (σ:St) (H:Hp) (x y:V) (v u:Value) (Q:VK),Inv X pins σ H s->RelV x v->RelV y u->r x y H Q ->
  subscripted slice false v u=operate [v,u] (getItem v u)->wpAny (model X.prog X.w) X.A (subscriptTail value slice v u) (EP X pins σ Q) X.xe s
noncomputable def MtR(X:Cx)(id:String)(r:V->List V->Hp->VK->Prop):Prop :=
 ∀(pins:List (Addr×Obj)) (s:Shared) (σ:St) (H:Hp) (x:V) (xs:List V) (v:Value) (us:List Value) (Q:VK),Inv X pins σ H s->RelV x v->Vals xs us->r x xs H Q ->
  wpAny (model X.prog X.w) X.A (call (.builtin id) (v :: us)) (EP X pins σ Q) X.xe s
section
variable {X:Cx}{a b:Expr}{ta tb:TE}{pos:Pos}
theorem IxR.or{r r':R2}(h:IxR X r)(h':IxR X r'):IxR X (λx y H Q=>r x y H Q\/r' x y H Q):=by
 intro value slice pins s σ H x y v u Q I rx ry q hs
 rcases q with q|q
 ·exact h value slice pins s σ H x y v u Q I rx ry q hs
 ·exact h' value slice pins s σ H x y v u Q I rx ry q hs
theorem pe_ix{r:R2}(hr:IxR X r)(ha:PE X a ta)(hb:PE X b tb)(hs:PlainIx b):PE X (.Subscript a b pos) (tOp r ta tb):=by
 intro pins s σ H Q I h
 exact Subscript_ (binT ha hb I h λv u s2 x y H2 I2 rx ry q=>hr a b pins s2 σ H2 x y v u Q I2 rx ry q (hs _ _))
noncomputable def rIxL(K:j0):R2:=λx y H Q=>∃p xs i v,x=.ref p/\y=.int i/\SqL K H p xs/\atI xs i=some v/\Q v H
noncomputable def rIxT(K:j0):R2:=λx y H Q=>∃p xs i v,x=.ref p/\y=.int i/\SqT K H p xs/\atI xs i=some v/\Q v H
theorem ix_list:IxR X (rIxL X.K):=by
 intro value slice pins s σ H x y v u Q I rx ry h hs
 obtain⟨p,xs,i,z,rfl,rfl,hq,he,q⟩:=h
 cases rx
 obtain⟨t,rfl⟩:=ry
 obtain⟨its,r,pl,hz⟩:=I.list hq
 obtain⟨j,h1,h2,h3,h4,h5⟩:=atI_get he
 obtain⟨w,ew,rw'⟩:=r.get h2
 have hl:=r.length
 have hn:=line63
 have fin:EP X pins σ Q w s:=⟨z,H,I,rw',q⟩
 by_cases h0:0<=i
 ·have hj:i.toNat=j:=by
   rw[seqIndex_of h0 h5]at h1
   exact V1 h1
  exact item_listR pl.isList h0 (by omega) (by rw[hj];simpa using ew) fin hs
 ·have hj:(i+(its.toArray.size:Int)).toNat=j:=by
   rw[seqIndex_neg (by omega) h4]at h1
   rw[L0,<- hl]
   exact V1 h1
  exact subscriptTail_builtinR (x:=w) pl.isList.typeIs slot_list_getitem.lookup
   (wpAny_getItem_list_neg (Q:=λr s'=>r=w/\EP X pins σ Q r s') pl.isList (by omega) (by rw[L0]<;>omega) (by omega) (by rw[hj];simpa using ew) ⟨rfl,fin⟩) hs
theorem ix_tup:IxR X (rIxT X.K):=by
 intro value slice pins s σ H x y v u Q I rx ry h hs
 obtain⟨p,xs,i,z,rfl,rfl,hq,he,q⟩:=h
 cases rx
 obtain⟨t,rfl⟩:=ry
 obtain⟨its,r,pl,hz⟩:=I.tuple hq
 obtain⟨j,h1,h2,h3,h4,h5⟩:=atI_get he
 obtain⟨w,ew,rw'⟩:=r.get h2
 have hl:=r.length
 have hn:=line63
 have fin:EP X pins σ Q w s:=⟨z,H,I,rw',q⟩
 exact subscriptTail_builtinR (x:=w) pl.typeIs slot_tuple_getitem.lookup
  (getItem_tuple (j:=j) (Q:=λr s'=>r=w/\EP X pins σ Q r s') pl (by omega) (by omega) (by rw[L0,<- hl];exact h1) (by simpa using ew) ⟨rfl,fin⟩) hs
theorem mapSeq_set(its:List Value)(n j:Nat)(u:Value):S1 (·.setIfInBounds j u) { cls:=.type "list",data:=.seq its.toArray n }={ cls:=.type "list",data:=.seq (its.set j u).toArray n }:=by
 simp[S1]
theorem Inv.lst{pins:List (Addr×Obj)}{σ:St}{H:Hp}{s:Shared}{p:Addr}{xs:List V}(I:Inv X pins σ H s)(h:H p=some (.lst xs)) :
  ∃(its:List Value) (n:Nat),Vals xs its/\s.heap.get? p=some { cls:=.type "list",data:=.seq its.toArray n }/\xs.length<=sizeLine:=by
 obtain⟨z,its,n,r,e⟩:=I.hok p _ h
 exact ⟨its,n,r,e,z⟩
theorem Inv.lstUpd{pins:List (Addr×Obj)}{σ:St}{H:Hp}{s:Shared}{p:Addr}{xs ys:List V}{its its':List Value}{n n':Nat}{f:Obj->Obj}(I:Inv X pins σ H s)(h:H p=some (.lst xs))
  (ho:s.heap.get? p=some { cls:=.type "list",data:=.seq its.toArray n }) (hf:f { cls:=.type "list",data:=.seq its.toArray n }={ cls:=.type "list",data:=.seq its'.toArray n' }) (r:Vals ys its') (hz:ys.length<=sizeLine) (t:Nat) :
  Inv X pins σ (upd H p (.lst ys)) { s with heap:=s.heap.update p f,toks:=t }:=by
 have e:(s.heap.update p f).get? p=some { cls:=.type "list",data:=.seq its'.toArray n' }:=by
  rw[J2 f ho (by rw[hf]<;>rfl),hf]
 refine I.write (x:=p) (e:=p) (by rw[h];trivial) (.inl rfl) (λb u hb q=>(Y1 _ _ (J1 hb)).trans q) ⟨_,e⟩ ?_
 exact ⟨hz,its',n',r,e⟩
noncomputable def rSetL:V->V->V->Hp->(Hp->Prop)->Prop:=λo i v H Q=>∃p xs k j,o=.ref p/\i=.int k/\H p=some (.lst xs)/\ixN xs.length k=some j/\Q (upd H p (.lst (xs.set j v)))
theorem set_list:PSet X rSetL:=by
 intro pins s σ H o i v ov iv u Q I ro ri rv h
 obtain⟨p,xs,k,j,rfl,rfl,hp,hj,q⟩:=h
 cases ro
 obtain⟨t,rfl⟩:=ri
 obtain⟨its,n,r,ho,hz⟩:=I.lst hp
 obtain⟨h1,h2,h3,h4⟩:=ixN_seq hj
 have hl:=r.length
 have hn:=line63
 have I':Inv X pins σ (upd H p (.lst (xs.set j v))) { s with heap:=s.heap.update p (S1 (·.setIfInBounds j u)) } :=
  I.lstUpd hp ho (mapSeq_set its n j u) (r.set rv j) (by rw[N3];exact hz) s.toks
 by_cases h0:0<=k
 ·have hk:k.toNat=j:=by
   rw[seqIndex_of h0 h4]at h1
   exact V1 h1
  exact PySem.W.ki_setAt ho h0 (by omega) (by rw[L0,<- hl];exact h4) (by rw[hk];exact ⟨_,I',q⟩)
 ·have hk:(k+(its.toArray.size:Int)).toNat=j:=by
   rw[seqIndex_neg (by omega) h3]at h1
   rw[L0,<- hl]
   exact V1 h1
  exact PySem.W.ki_setBack ho (by omega) (by rw[L0,<- hl];exact h3) (by omega) (by rw[hk];exact ⟨_,I',q⟩)
theorem slice_bounds(lo hi:Option Int)(n:Nat):(sliceBounds lo hi none n).1=((HT.sIx n 0 lo:Nat):Int)/\(sliceBounds lo hi none n).2.1=((HT.sIx n n hi:Nat):Int)/\(sliceBounds lo hi none n).2.2=1:=by
 refine ⟨?_,?_,rfl⟩
 ·cases lo with
  | none=>simp[sliceBounds,HT.sIx]
  | some i =>
   simp only[sliceBounds,HT.sIx,w8,show (1:Int) > 0 by decide,if_true]
   by_cases h:i < 0
   ·simp only[h,if_true]<;>omega
   ·simp only[h,if_false]<;>omega
 ·cases hi with
  | none=>simp[sliceBounds,HT.sIx]
  | some i =>
   simp only[sliceBounds,HT.sIx,w8,show (1:Int) > 0 by decide,if_true]
   by_cases h:i < 0
   ·simp only[h,if_true]<;>omega
   ·simp only[h,if_false]<;>omega
theorem slicePick_cut(its:List Value)(lo hi:Option Int):slicePick its.toArray lo hi none=((its.drop (HT.sIx its.length 0 lo)).take (HT.sIx its.length its.length hi - HT.sIx its.length 0 lo)).toArray:=by
 obtain⟨h1,h2,h3⟩:=slice_bounds lo hi its.toArray.size
 unfold slicePick
 rw[h1,h2,h3]
 simp only[sliceRange_one,pick_run,L0]<;>rfl
noncomputable def rSlL(K:j0):V->Option Int->Option Int->Hp->VK->Prop:=λx lo hi H Q=>∃a xs,x=.ref a/\SqL K H a xs/\∀p,H p=none->Q (.ref p) (upd H p (.lst (cutV xs lo hi)))
theorem sl_list:SlR X (rSlL X.K):=by
 intro pins s σ H x v vl vu lo hi sl Q I rx hs pl pu h
 obtain⟨a,xs,rfl,hx,q⟩:=h
 cases rx
 obtain⟨its,r,ht,hz⟩:=I.list hx
 have hlen:=r.length
 refine ⟨"list",_,slot_list_getitem.lookup,ht.isList.typeIs,?_⟩
 refine wpAny_getItem_list_slice ht.isList hs pl pu .none (by simp) ?_ (by rw[L0]<;>omega)
 rw[slicePick_cut,<- hlen]
 refine ⟨.ref s.heap.objs.size,_,I.laid (t':=s.toks) (o:=.lst (cutV xs lo hi)) (λb ob q=>i0 _ q) (N0 _) ?_,rfl,q _ (I.hok.fresh (N0 _))⟩
 exact ⟨O1 (cutV_length xs lo hi) hz,_,0,(r.drop (HT.sIx xs.length 0 lo)).take (HT.sIx xs.length xs.length hi - HT.sIx xs.length 0 lo),K0 _ rfl⟩
noncomputable def flatV:V->Bool
 | .non=>true
 | .bl _=>true
 | .int _=>true
 | .str _=>true
 | _=>false
noncomputable def eqV:V->V->Bool
 | .non,.non=>true
 | .bl a,.bl b=>a==b
 | .bl a,.int b=>(if a then 1 else 0)==b
 | .int a,.bl b=>a==(if b then 1 else 0)
 | .int a,.int b=>a==b
 | .str a,.str b=>a==b
 | _,_=>false
theorem eqAt_V{A:Around}{s:Shared}{y x:V}{u v:Value}(ry:RelV y u)(rx:RelV x v)(fy:flatV y=true)(fx:flatV x=true):SeqAt.EqAt A s u v (eqV y x):=by
 cases y with
 | non =>
  cases ry
  cases x with
  | non=>cases rx;exact SeqAt.EqAt.same _
  | bl b=>cases rx;exact SeqAt.EqAt.none_bool b
  | int b=>obtain⟨t,rfl⟩:=rx;exact SeqAt.EqAt.none_int b t
  | str b=>obtain⟨t,rfl⟩:=rx;exact SeqAt.EqAt.none_str b t
  | _=>exact absurd (show false=true from fx) T0
 | bl a =>
  cases ry
  cases x with
  | non=>cases rx;exact SeqAt.EqAt.bool_none a
  | bl b=>cases rx;exact SeqAt.EqAt.bool_bool a b
  | int b=>obtain⟨t,rfl⟩:=rx;exact SeqAt.EqAt.bool_int a b t
  | str b=>obtain⟨t,rfl⟩:=rx;exact SeqAt.EqAt.bool_str a b t
  | _=>exact absurd (show false=true from fx) T0
 | int a =>
  obtain⟨t',rfl⟩:=ry
  cases x with
  | non=>cases rx;exact SeqAt.EqAt.int_none a t'
  | bl b=>cases rx;exact SeqAt.EqAt.int_bool a t' b
  | int b=>obtain⟨t,rfl⟩:=rx;exact SeqAt.EqAt.int_int a t' b t
  | str b=>obtain⟨t,rfl⟩:=rx;exact SeqAt.EqAt.int_str a t' b t
  | _=>exact absurd (show false=true from fx) T0
 | str a =>
  obtain⟨t',rfl⟩:=ry
  cases x with
  | non=>cases rx;exact SeqAt.EqAt.str_none a t'
  | bl b=>cases rx;exact SeqAt.EqAt.str_bool a t' b
  | int b=>obtain⟨t,rfl⟩:=rx;exact SeqAt.EqAt.str_int a t' b t
  | str b=>obtain⟨t,rfl⟩:=rx;exact SeqAt.EqAt.str_str a t' b t
  | _=>exact absurd (show false=true from fx) T0
 | _=>exact absurd (show false=true from fy) T0
noncomputable def eqU(x:V)(u:Value):Bool:=match u with
 | .none=>eqV .non x
 | .bool b=>eqV (.bl b) x
 | .int i _=>eqV (.int i) x
 | .str z _=>eqV (.str z) x
 | _=>false
theorem eqU_of{x y:V}{u:Value}(r:RelV y u)(f:flatV y=true):eqU x u=eqV y x:=by
 cases y with
 | non=>cases r;rfl
 | bl b=>cases r;rfl
 | int i=>obtain⟨t,rfl⟩:=r;rfl
 | str z=>obtain⟨t,rfl⟩:=r;rfl
 | _=>exact absurd (show false=true from f) T0
theorem any_eqU{x:V}:∀{xs:List V}{us:List Value},Vals xs us->xs.all flatV=true->us.any (eqU x)=xs.any λy=>eqV y x
 | _,_,.nil,_=>rfl
 | y :: xs,u :: us,.cons r t,f=>by
  rw[W7,Y0]at f
  rw[X7,X7,eqU_of r f.1,any_eqU t f.2]
theorem mem_eqAt{A:Around}{s:Shared}{x:V}{v:Value}(rx:RelV x v)(fx:flatV x=true):∀{xs:List V}{us:List Value},Vals xs us->xs.all flatV=true->∀u∈us,SeqAt.EqAt A s u v (eqU x u)
 | _,_,.nil,_=>λu hu=>by cases hu
 | y :: xs,u :: us,.cons r t,f=>λu' hu=>by
  rw[W7,Y0]at f
  rcases B1.mp hu with rfl|hu
  ·rw[eqU_of r f.1];exact eqAt_V r rx f.1 fx
  ·exact mem_eqAt rx fx t f.2 u' hu
noncomputable def inV(x:V)(xs:List V):Bool:=xs.any λy=>eqV y x
noncomputable def rIn(K:j0)(neg:Bool):R2:=λx y H Q=>∃p xs,y=.ref p/\(SqL K H p xs\/SqT K H p xs)/\flatV x=true/\xs.all flatV=true/\Q (.bl (if neg then !inV x xs else inV x xs)) H
theorem op_notIn_seq:OpR X (compareOp .NotIn) (rIn X.K true):=by
 intro pins s σ H x y v u Q I rx ry h
 obtain⟨p,xs,rfl,hq,fx,fs,q⟩:=h
 cases ry
 rcases hq with hq|hq
 ·obtain⟨its,r,pl,hz⟩:=I.list hq
  refine SeqAt.notIn_listAt (eqU x) pl.isList (λw hw=>mem_eqAt rx fx r fs w (by simpa using hw)) ⟨.bl _,H,I,rfl,?_⟩
  rw[show its.toArray.any (eqU x)=its.any (eqU x) by simp,any_eqU r fs]
  exact q
 ·obtain⟨its,r,pl,hz⟩:=I.tuple hq
  refine SeqAt.notIn_tupleAt (eqU x) pl (λw hw=>mem_eqAt rx fx r fs w (by simpa using hw)) ⟨.bl _,H,I,rfl,?_⟩
  rw[show its.toArray.any (eqU x)=its.any (eqU x) by simp,any_eqU r fs]
  exact q
theorem call_len_seq:CallR X (.builtin "len") (λxs H Q=>∃p ys,xs=[.ref p]/\(SqL X.K H p ys\/SqT X.K H p ys)/\Q (.int ys.length) H):=by
 intro pins s σ H xs us Q I r h
 obtain⟨p,ys,rfl,hq,q⟩:=h
 obtain⟨u,rfl,rx⟩:=vals1 r
 cases rx
 have hn:=line63
 rcases hq with hq|hq
 ·obtain⟨its,r',pl,hz⟩:=I.list hq
  have hlen:=r'.length
  exact Calls.call_len_list pl.isList (by simp only[L0]<;>omega) ⟨.int ys.length,H,I.tok _,⟨s.toks+1,by rw[L0,hlen]⟩,q⟩
 ·obtain⟨its,r',pl,hz⟩:=I.tuple hq
  have hlen:=r'.length
  exact len_tuple pl (by simp only[L0]<;>omega) ⟨.int ys.length,H,I.tok _,⟨s.toks+1,by rw[L0,hlen]⟩,q⟩
theorem call_list_of:CallR X (.type "list") (λxs H Q=>∃p ys,xs=[.ref p]/\(SqL X.K H p ys\/SqT X.K H p ys)/\∀l,H l=none->Q (.ref l) (upd H l (.lst ys))):=by
 intro pins s σ H xs us Q I r h
 obtain⟨p,ys,rfl,hq,q⟩:=h
 obtain⟨u,rfl,rx⟩:=vals1 r
 cases rx
 have fin:∀(its:List Value),Vals ys its->ys.length<=sizeLine->∀(h':Heap) (c':Nat),(∀b o',s.heap.get? b=some o'->h'.get? b=some o') ->
   h'.get? s.heap.objs.size=some { cls:=.type "list",dict:=none,data:=.seq its.toArray c',slots:=#[] }->EP X pins σ Q (.ref s.heap.objs.size) { s with heap:=h' }:=λits r' hz h' c' kp e =>
  ⟨.ref s.heap.objs.size,_,I.laid (t':=s.toks) kp (N0 _) (show ObjOk X.prog X.w _ h' _ (.lst ys) from ⟨hz,its,c',r',e⟩),rfl,q _ (I.hok.fresh (N0 _))⟩
 rcases hq with hq|hq
 ·obtain⟨its,r',pl,hz⟩:=I.list hq
  have hlen:=r'.length
  obtain⟨o,ho,hc,n,hd⟩:=pl.isList
  exact call_list_seq p (.inl rfl) ho hc hd (λh' c' kp e=>fin its r' hz h' c' kp e) (by simp only[L0]<;>omega)
 ·obtain⟨its,r',pl,hz⟩:=I.tuple hq
  have hlen:=r'.length
  obtain⟨o,ho,hc,n,hd⟩:=pl
  exact call_list_seq p (.inr rfl) ho hc hd (λh' c' kp e=>fin its r' hz h' c' kp e) (by simp only[L0]<;>omega)
theorem call_tuple_of:CallR X (.type "tuple") (λxs H Q=>∃p ys,xs=[.ref p]/\((SqL X.K H p ys/\∀l,H l=none->Q (.ref l) (upd H l (.tup ys)))\/(SqT X.K H p ys/\Q (.ref p) H))):=by
 intro pins s σ H xs us Q I r h
 obtain⟨p,ys,rfl,h⟩:=h
 obtain⟨u,rfl,rx⟩:=vals1 r
 cases rx
 rcases h with⟨hq,q⟩|⟨hq,q⟩
 ·obtain⟨its,r',pl,hz⟩:=I.list hq
  have hlen:=r'.length
  refine call_tuple_list pl.isList (λh' kp=>?_) (by simp only[L0]<;>omega)
  have I1:Inv X pins σ H { s with heap:=h' }:=I.kept (t':=s.toks) kp
  have I2:Inv X pins σ (upd H h'.objs.size (.tup ys)) { s with heap:=h'.push { cls:=.type "tuple",data:=.seq its.toArray } } :=
   I1.laid (t':=s.toks) (λb o e=>i0 _ e) (N0 _) (show ObjOk X.prog X.w _ _ _ (.tup ys) from ⟨hz,its,r',IsTupD.new _ _⟩)
  exact ⟨.ref h'.objs.size,_,I2,rfl,q _ (I1.hok.fresh (N0 _))⟩
 ·obtain⟨its,r',pl,hz⟩:=I.tuple hq
  exact call_tuple_same pl ⟨.ref p,H,I,rfl,q⟩
noncomputable def tyV(K:j0)(T:String)(x:V)(H:Hp):Prop:=match x with
 | .str _=>T = "str"
 | .int _=>T = "int"
 | .ref p=>(T = "list"/\∃xs,SqL K H p xs)\/(T = "tuple"/\∃o,K.lookup p=some o/\o.cls=.type "tuple"/\o.dict=none) \/
   (T = "dict"/\((∃kvs,H p=some (.dK kvs))\/∃kvs,H p=some (.dT kvs)))\/(T = "set"/\∃S n,H p=some (.set S n))
 | _=>False
theorem tyV_is{pins:List (Addr×Obj)}{σ:St}{H:Hp}{s:Shared}{T:String}{x:V}{v:Value}(I:Inv X pins σ H s)(r:RelV x v)(ty:tyV X.K T x H) :
  s.TypeIs v T/\∀a,v=.ref a->∃ob,s.heap.get? a=some ob/\ob.dict=none:=by
 cases x with
 | str z =>
  obtain⟨t,rfl⟩:=r
  cases (show T = "str" from ty)
  exact ⟨typeIs_str s z t,λ_ e=>nomatch e⟩
 | int i =>
  obtain⟨t,rfl⟩:=r
  cases (show T = "int" from ty)
  exact ⟨typeIs_int s i t,λ_ e=>nomatch e⟩
 | ref p =>
  cases r
  rcases ty with⟨rfl,xs,hq⟩|⟨rfl,o,hk,hc,hd⟩|⟨rfl,hk⟩|⟨rfl,S,n,hk⟩
  ·obtain⟨its,_,pl,_⟩:=I.list hq
   refine ⟨pl.isList.typeIs,λa e=>?_⟩
   cases e
   obtain⟨o,n,e,c,hd,_⟩:=pl
   exact ⟨o,e,hd⟩
  ·refine ⟨⟨o,I.kIn p o hk,hc⟩,λa e=>?_⟩
   cases e
   exact ⟨o,I.kIn _ o hk,hd⟩
  ·have z:∃o,s.heap.get? p=some o/\o.ExactDict:=by
    rcases hk with⟨kvs,hk⟩|⟨kvs,hk⟩
    ·obtain⟨_,_,_,_,o,_,_,e,ex,_⟩:=I.hok p _ hk
     exact ⟨o,e,ex⟩
    ·obtain⟨_,_,_,_,o,_,_,e,ex,_⟩:=I.hok p _ hk
     exact ⟨o,e,ex⟩
   obtain⟨o,e,ex⟩:=z
   refine ⟨⟨o,e,ex.1⟩,λa e2=>?_⟩
   cases e2
   exact ⟨o,e,ex.2.1⟩
  ·obtain⟨o,_,_,_,e,ex,_⟩:=I.hok p _ hk
   refine ⟨⟨o,e,ex.1⟩,λa e2=>?_⟩
   cases e2
   exact ⟨o,e,ex.2.1⟩
 | _=>exact False.elim ty
noncomputable def tBM0(K:j0)(T:String)(r:V->List V->Hp->VK->Prop)(to:TE):TE:=λσ H Q=>to σ H λx H1=>tyV K T x H1/\r x [] H1 Q
noncomputable def tBM(K:j0)(T:String)(r:V->List V->Hp->VK->Prop)(to:TE)(t:TA):TE:=λσ H Q=>to σ H λx H1=>tyV K T x H1/\t σ H1 λxs H2=>r x xs H2 Q
variable {o e:Expr}{es:List Expr}{to:TE}{t:TA}{name:Str}{apos cpos:Pos}{T id:String}{r:V->List V->Hp->VK->Prop}
theorem pe_bm0(pa:PlainAttrs T)(slot:Slot T name id)(hty:typeOf (.builtin id)=pure (.type "method_descriptor"))(hm:MtR X id r)(ho:PE X o to)
  (hbase:attributeBase o name X.env (eval o X.env)=eval o X.env:=by rfl) (hline:(apos.endLine==cpos.line)=true:=by rfl):PE X (.Call (.Attribute o name apos) [] [] cpos) (tBM0 X.K T r to):=by
 intro pins s σ H Q I h
 refine wpAny_Call_method0_late hbase hline (thn (ho pins s σ H _ I h) λv s1 ⟨x,H1,I1,r1,ty,q1⟩=>?_)
 obtain⟨h1,h2⟩:=tyV_is I1 r1 ty
 exact ⟨T,id,pa,slot,hty,h1,h2,Calls.callWith_builtin rfl (PySem.evalArgs_none (hm pins s1 σ H1 x [] v [] Q I1 r1 .nil q1))⟩
theorem pe_bm(pa:PlainAttrs T)(slot:Slot T name id)(hty:typeOf (.builtin id)=pure (.type "method_descriptor"))(hm:MtR X id r)(ho:PE X o to)(ha:PA X (e :: es) t)
  (hbase:attributeBase o name X.env (eval o X.env)=eval o X.env:=by rfl)
  (hfew:((backTo cpos (starEach (e :: es) X.env)).all (λx=>!x.1)&&(backToKw cpos (keywordEach [] X.env)).all (λx=>x.1.isSome)
    && decide ((e :: es).length+([]:List Keyword).length+(if ([]:List Keyword).isEmpty then 0 else 1) < 30))=true:=by rfl)
  (hline:(apos.endLine==cpos.line)=true:=by rfl) (hs:starEach (e :: es) X.env=(false,eval e X.env) :: starEach es X.env:=by rfl) (hplain:(backTo cpos (starEach es X.env)).any (·.1)=false:=by rfl) :
  PE X (.Call (.Attribute o name apos) (e :: es) [] cpos) (tBM X.K T r to t):=by
 intro pins s σ H Q I h
 refine wpAny_Call_method_late hbase hfew hline rfl (thn (ho pins s σ H _ I h) λv s1 ⟨x,H1,I1,r1,ty,q1⟩=>?_)
 obtain⟨h1,h2⟩:=tyV_is I1 r1 ty
 refine ⟨T,id,pa,slot,hty,h1,h2,?_⟩
 have hA:=ha cpos pins s1 σ H1 _ I1 q1
 rw[hs]at hA ⊢
 refine Calls.callWith_builtin (by show (false||(backTo cpos (starEach es X.env)).any (·.1))=false;rw[hplain]<;>rfl) (Calls.evalArgs_plain ?_)
 exact thn hA λus s2 ⟨vs,H2,I2,r2,q2⟩=>hm pins s2 σ H2 x vs v us Q I2 r1 r2 q2
end
noncomputable def MtM(X:Cx)(id:String)(r:V->List V->Hp->VK->Prop):Prop :=
 ∀(pins:List (Addr×Obj)) (s:Shared) (σ:St) (H:Hp) (x:V) (xs:List V) (v:Value) (us:List Value) (Q:VK),Inv X pins σ H s->RelV x v->Vals xs us->r x xs H Q ->
  wpAny (model X.prog X.w) X.A (call (.builtin id) (v :: us)) (EP X pins σ Q) X.xe s
theorem Vals.one:∀{x:V}{us:List Value},Vals [x] us->∃u,us=[u]/\RelV x u
 | _,_,.cons r .nil=>⟨_,rfl,r⟩
theorem Vals.zero:∀{us:List Value},Vals [] us->us=[]
 | _,.nil=>rfl
theorem Vals.dropLast{xs:List V}{us:List Value}(h:Vals xs us):Vals xs.dropLast us.dropLast:=by
 induction h with
 | nil=>exact .nil
 | cons r t ih =>
  cases t with
  | nil=>exact .nil
  | cons q t'=>exact .cons r ih
theorem Vals.rep{xs:List V}{us:List Value}(h:Vals xs us):∀k:Nat,Vals (P1 k xs).flatten (P1 k us).flatten
 | 0=>.nil
 | k+1=>by
  rw[P3,P3,B3,B3]
  exact Vals.append h (Vals.rep h k)
theorem erase_last{α:Type}(l:List α):l.eraseIdx (l.length - 1)=l.dropLast:=by
 induction l with
 | nil=>rfl
 | cons a r ih =>
  cases r with
  | nil=>rfl
  | cons b r =>
   have e:(a :: b :: r).length - 1=((b :: r).length - 1)+1:=by
    have h1:(a :: b :: r).length=r.length+2:=rfl
    have h2:(b :: r).length=r.length+1:=rfl
    omega
   rw[e,List.eraseIdx_cons_succ,ih]
   all_goals rfl
theorem foldl_rep(its:List Value):∀(k:Nat) (acc:List Value),
  E8 (λx1 x2=>x1++x2) acc.toArray (P1 k its.toArray)=(acc++(P1 k its).flatten).toArray
 | 0,acc=>by simp
 | k+1,acc=>by
  have e:acc.toArray++its.toArray=(acc++its).toArray:=by simp
  have e2:(acc++its)++(P1 k its).flatten=acc++(P1 (k+1) its).flatten:=by
   rw[P3,B3,U5]
  rw[<- e2,<- foldl_rep its k (acc++its),<- e,P3,List.foldl_cons]
section
variable {X:Cx}{pins:List (Addr×Obj)}{σ:St}{H:Hp}{s:Shared}{l b:Addr}{xs ys zs:List V}
theorem Inv.lset{its its':List Value}{n:Nat}{f:Array Value->Array Value}{t':Nat}(I:Inv X pins σ H s)(hH:H l=some (.lst xs))
  (e:s.heap.get? l=some { cls:=.type "list",data:=.seq its.toArray n }) (hf:f its.toArray=its'.toArray) (hv:Vals ys its') (hz:ys.length<=sizeLine) :
  Inv X pins σ (upd H l (.lst ys)) { s with heap:=s.heap.update l (S1 f),toks:=t' }:=by
 have q:=PySem.IsL.update e f
 rw[hf]at q
 refine I.write (x:=l) (e:=l) (by rw[hH];exact trivial) (.inl rfl) (λb' u hb hu=>(Y1 s.heap (S1 f) (J1 hb)).trans hu) ⟨_,q⟩ ?_
 exact ⟨hz,its',_,hv,q⟩
theorem Inv.lnew{its:List Value}{t':Nat}(I:Inv X pins σ H s)(hv:Vals ys its)(hz:ys.length<=sizeLine) :
  Inv X pins σ (upd H s.heap.objs.size (.lst ys)) { s with heap:=s.heap.push { cls:=.type "list",data:=.seq its.toArray },toks:=t' } :=
 I.laid (λ_ _ q=>i0 _ q) (N0 _) ⟨hz,its,0,hv,K0 _ rfl⟩
theorem Inv.fresh(I:Inv X pins σ H s):H s.heap.objs.size=none:=I.hok.fresh (N0 _)
theorem Inv.lstM(I:Inv X pins σ H s)(hH:H l=some (.lst xs)):xs.length<=sizeLine/\∃(its:List Value) (n:Nat),Vals xs its/\xs.length=its.length/\s.heap.get? l=some { cls:=.type "list",data:=.seq its.toArray n }:=by
 obtain⟨z,its,n,r,e⟩:=I.hok l _ hH
 exact ⟨z,its,n,r,r.length,e⟩
theorem notLongL{n:Nat}(h:n<=sizeLine):V4 n=false:=by
 unfold V4
 exact decide_eq_false (by omega)
end
section
variable {X:Cx}
noncomputable def rAppend:V->List V->Hp->VK->Prop:=λx vs H Q=>∃l xs y,x=.ref l/\vs=[y]/\H l=some (.lst xs)/\xs.length < sizeLine/\Q .non (upd H l (.lst (xs++[y])))
theorem mt_append:MtM X "list.append" rAppend:=by
 intro pins s σ H x vs v us Q I rx rv h
 obtain⟨l,xs,y,rfl,rfl,hH,hz,q⟩:=h
 cases rx
 obtain⟨u,rfl,ru⟩:=rv.one
 obtain⟨z,its,n,r,hl,e⟩:=I.lstM hH
 refine call_meets F.slot_list_append ⟨_,e,rfl⟩ F.entry_list_append (F.args_list_append_2 _ _) (PySem.list_append l its.toArray n u (by rw[L0];omega)) ⟨e,?_⟩
 refine ⟨.non,_,I.lset (its':=its++[u]) hH e (by simp) (r.append (.cons ru .nil)) ?_,rfl,q⟩
 rw[Z0,A3]
 omega
noncomputable def rExtend:V->List V->Hp->VK->Prop:=λx vs H Q=>∃l b xs zs,x=.ref l/\vs=[.ref b]/\H l=some (.lst xs)/\H b=some (.lst zs)/\xs.length+zs.length<=sizeLine/\Q .non (upd H l (.lst (xs++zs)))
theorem mt_extend:MtM X "list.extend" rExtend:=by
 intro pins s σ H x vs v us Q I rx rv h
 obtain⟨l,b,xs,zs,rfl,rfl,hH,hB,hz,q⟩:=h
 cases rx
 obtain⟨u,rfl,ru⟩:=rv.one
 cases ru
 obtain⟨z,its,n,r,hl,e⟩:=I.lstM hH
 obtain⟨z2,its2,n2,r2,hl2,e2⟩:=I.lstM hB
 have hsz:its.toArray.size+its2.toArray.size<=sizeLine:=by rw[L0,L0];omega
 have hlong:¬(!its.toArray.isEmpty&&V4 (its.toArray.size+its2.toArray.size))=true:=by
  rw[notLongL hsz,B5]
  exact T0
 refine call_meets F.slot_list_extend ⟨_,e,rfl⟩ F.entry_list_extend (F.args_list_extend_2 _ _)
  (AutoSeq1.list_extend_list_list_0 l its.toArray n b its2.toArray n2 hlong (by rw[L0];omega) (by omega)) ⟨e,e2,?_⟩
 refine ⟨.non,_,I.lset (its':=its++its2) hH e (by simp) (r.append r2) ?_,rfl,q⟩
 rw[Z0]
 omega
noncomputable def rPop:V->List V->Hp->VK->Prop:=λx vs H Q=>∃l xs y,x=.ref l/\vs=[]/\H l=some (.lst xs)/\xs[xs.length - 1]?=some y/\Q y (upd H l (.lst xs.dropLast))
theorem mt_pop:MtM X "list.pop" rPop:=by
 intro pins s σ H x vs v us Q I rx rv h
 obtain⟨l,xs,y,rfl,rfl,hH,hy,q⟩:=h
 cases rx
 have hus:=rv.zero
 subst hus
 obtain⟨z,its,n,r,hl,e⟩:=I.lstM hH
 obtain⟨u,hu,ru⟩:=r.get hy
 have hy':its.toArray[its.toArray.size - 1]?=some u:=by
  show its.toArray[its.length - 1]?=some u
  rw[<- Array.getElem?_toList,<- hl]
  exact hu
 refine call_meets F.slot_list_pop ⟨_,e,rfl⟩ F.entry_list_pop (F.args_list_pop_1 _) (MeetsSeq.list_pop_last l its.toArray n u hy' (by rw[L0];omega)) ⟨e,?_⟩
 refine ⟨y,_,I.lset (its':=its.dropLast) hH e ?_ r.dropLast ?_,ru,q⟩
 ·show its.toArray.eraseIdxIfInBounds (its.toArray.size - 1)=its.dropLast.toArray
  rw[L0,List.eraseIdxIfInBounds_toArray,erase_last]
 ·rw[List.length_dropLast]
  omega
noncomputable def rClear:V->List V->Hp->VK->Prop:=λx vs H Q=>∃l xs,x=.ref l/\vs=[]/\H l=some (.lst xs)/\Q .non (upd H l (.lst []))
theorem mt_clear:MtM X "list.clear" rClear:=by
 intro pins s σ H x vs v us Q I rx rv h
 obtain⟨l,xs,rfl,rfl,hH,q⟩:=h
 cases rx
 have hus:=rv.zero
 subst hus
 obtain⟨z,its,n,r,hl,e⟩:=I.lstM hH
 refine call_meets F.slot_list_clear ⟨_,e,rfl⟩ F.entry_list_clear (F.args_list_clear_1 _) (AutoSeq1.list_clear_list_0 l its.toArray n (by rw[L0];omega)) ⟨e,?_⟩
 exact ⟨.non,_,I.lset (its':=[]) (ys:=[]) hH e rfl .nil (B4 _),rfl,q⟩
noncomputable def rCat:R2:=λx y H Q=>∃l b xs zs,x=.ref l/\y=.ref b/\H l=some (.lst xs)/\H b=some (.lst zs)/\xs.length+zs.length<=sizeLine/\∀p,H p=none->Q (.ref p) (upd H p (.lst (xs++zs)))
theorem op_cat:OpR X (binaryOp .Add) rCat:=by
 intro pins s σ H x y v u Q I rx ry h
 obtain⟨l,b,xs,zs,rfl,rfl,hH,hB,hz,q⟩:=h
 cases rx
 cases ry
 obtain⟨z,its,n,r,hl,e⟩:=I.lstM hH
 obtain⟨z2,its2,n2,r2,hl2,e2⟩:=I.lstM hB
 refine PySem.P.add_list e e2 ?_ (by rw[L0,L0];omega)
 have ea:its.toArray++its2.toArray=(its++its2).toArray:=by simp
 rw[ea]
 exact ⟨.ref _,_,I.lnew (t':=s.toks) (r.append r2) (by rw[Z0];omega),rfl,q _ I.fresh⟩
noncomputable def rRep:R2:=λx y H Q=>∃l k xs,x=.ref l/\y=.int k/\H l=some (.lst xs)/\-(2 ^ 63)<=k/\k < 2 ^ 63/\xs.length * k.toNat<=sizeLine /\
 ∀p,H p=none->Q (.ref p) (upd H p (.lst (P1 k.toNat xs).flatten))
theorem len_rep{α:Type}(xs:List α)(k:Nat):(P1 k xs).flatten.length=k * xs.length:=by
 induction k with
 | zero=>simp
 | succ k ih=>rw[P3,B3,Z0,ih,E6,Nat.add_comm]
theorem op_rep:OpR X (binaryOp .Mult) rRep:=by
 intro pins s σ H x y v u Q I rx ry h
 obtain⟨l,k,xs,rfl,rfl,hH,h1,h2,hz,q⟩:=h
 cases rx
 obtain⟨t,rfl⟩:=ry
 obtain⟨z,its,n,r,hl,e⟩:=I.lstM hH
 have hlen:its.toArray.size * k.toNat<=sizeLine:=by rw[L0,<- hl];exact hz
 have hcap:¬its.toArray.size * k.toNat > (2 ^ 63 - 1) / 8:=by
  have:(sizeLine:Nat)<=(2 ^ 63 - 1) / 8:=by decide
  omega
 have hfit:¬(!Builtin.List.listFitsIndex k)=true:=by
  rw[fitsIndex_both h1 h2]
  exact T0
 have hlong:¬V4 (its.toArray.size * k.toNat)=true:=by
  rw[notLongL hlen]
  exact T0
 have hnew:E8 (λx1 x2=>x1++x2) #[] (P1 (if its.toArray.isEmpty=true then 0 else k.toNat) its.toArray)=(P1 k.toNat its).flatten.toArray:=by
  have f0:∀m:Nat,E8 (λx1 x2=>x1++x2) #[] (P1 m its.toArray)=(P1 m its).flatten.toArray:=λm=>by
   have:=foldl_rep its m []
   rw[List.nil_append]at this
   exact this
  rw[f0]
  cases its with
  | nil=>simp
  | cons a r'=>rw[if_neg (by simp)]
 refine wpAny_binaryOp_repeat_ref (T:="list") (U:="int") (by decide) ⟨_,e,rfl⟩ (λs'=>typeIs_int s' k t) noFill_list_mul F.fills_int_mul F.slot_int_rmul repeat_list F.slot_int_index.lookup
  (call_meets F.slot_int_rmul (typeIs_int s k t) F.entry_int_rmul (F.args_int_rmul_2 _ _) (int___rmul___int_list k t l its.toArray n)
    ⟨e,rfl,⟨_,e,rfl⟩,call_meets F.slot_list_mul ⟨_,e,rfl⟩ F.entry_list_mul (F.args_list_mul_2 _ _) (AutoListH.list___mul___list_int_3 l its.toArray n k t hfit hcap hlong) ⟨e,?_⟩⟩)
 rw[hnew]
 exact ⟨.ref _,_,I.lnew (t':=s.toks) (r.rep k.toNat) (by rw[len_rep,Nat.mul_comm];exact hz),rfl,q _ I.fresh⟩
end
section
variable {prog:Program}{w:World}{A:Around}{E:Value->Shared->Prop}{s:Shared}
set_option maxRecDepth 100000 in
end
section
variable {X:Cx}
end
section
variable {κ:Type}[DecidableEq κ]
end
theorem kV_is{P:Program}{w:World}{k:Key}{u:Value}(r:RelV (kV k) u):(mixKind P w).is k u=true:=by
 cases k with
 | inl i=>obtain⟨t,e⟩:=(show ∃t,u=Value.int i t from r);subst e;exact mixKind_int P w i t
 | inr x=>obtain⟨t,e⟩:=(show ∃t,u=Value.str x t from r);subst e;exact mixKind_str P w x t
theorem items_are{P:Program}{w:World}:∀{ks:List Key}{us:List Value},Vals (ks.map kV) us->ItemsAre (mixKind P w) ks us
 | [],_,r=>by rw[O3]at r;cases r;exact .nil
 | k :: ks,_,r=>by
  rw[K1]at r
  cases r with
  | cons h t=>exact .cons (kV_is h) (items_are t)
noncomputable abbrev KT(H:Hp):List (List Key×V)->List (List Key×Addr×Value)->Prop:=Paired λp q=>p.1=q.1/\H q.2.1=some (.tup (p.1.map kV))/\RelV p.2 q.2.2
section
variable {P:Program}{w:World}{H:Hp}{h:Heap}{a:Addr}
theorem rd_of{u:HO}(ok:HOk P w H h)(e:Rd H a u):ObjOk P w H h a u:=e.ok ok
theorem dk_rd{kvs:List (Key×V)}(ok:HOk P w H h)(e:Rd H a (.dK kvs)):kvs.length<=sizeLine/\(a==sysModules)=false/\∃vs,KV kvs vs/\h.DictOf (mixKind P w) a vs :=
 show ObjOk P w H h a (.dK kvs) from rd_of ok e
theorem key_of{ks:List Key}(ok:HOk P w H h)(e:H a=some (.tup (ks.map kV))):(tupleKind (mixKind P w)).is h ks a:=by
 obtain⟨_,its,r,o,h1,h2,n,h3,_⟩:=(show ObjOk P w H h a (.tup (ks.map kV)) from ok a _ e)
 exact ⟨o,its.toArray,n,h1,h2,h3,by simpa using items_are r⟩
theorem dt_rd{kvs:List (List Key×V)}(ok:HOk P w H h)(e:Rd H a (.dT kvs)):kvs.length<=sizeLine/\(a==sysModules)=false /\
  ∃xs,KT H kvs xs/\h.DictOfH (tupleKind (mixKind P w)) a xs:=by
 obtain⟨z,y,xs,r,o,es,ep,h1,h2,h3,h4,h5⟩:=(show ObjOk P w H h a (.dT kvs) from rd_of ok e)
 refine ⟨z,y,xs,r,o,es,ep,h1,h2,h3,h4,λx hx=>?_,h5⟩
 have all:∀{l:List (List Key×V)}{m:List (List Key×Addr×Value)},KT H l m->∀x∈m,(tupleKind (mixKind P w)).is h x.1 x.2.1:=by
  intro l m q
  induction q with
  | nil=>intro x hx;exact nomatch hx
  | @cons p q ps qs hq t ih =>
   intro x hx
   rcases B1.mp hx with e|hx
   ·subst e
    exact key_of ok (by rw[<- hq.1];exact hq.2.1)
   ·exact ih x hx
 exact all r x hx
end
section
variable {X:Cx}{pins:List (Addr×Obj)}{σ:St}{H:Hp}{s:Shared}{a:Addr}{y v:V}{u r:Value}{o:Option V}{A:Around}{E:Value->Shared->Prop}
end
section
variable {X:Cx}{pins:List (Addr×Obj)}{σ:St}{H:Hp}{s:Shared}{a:Addr}{kvs:List (Key×V)}{k:Key}{u:Value}{A:Around}{E:Value->Shared->Prop}
end
section
variable {X:Cx}{o i e value:Expr}{pos pos' tpos:Pos}{td ty tv:TE}
end
section
variable {X:Cx}{pos:Pos}
end
structure M1(X:Cx)(o:Expr)(m:Str)(apos:Pos)(e:Expr)(cpos:Pos):Prop where
 base:attributeBase o m X.env (eval o X.env)=eval o X.env
 few:((backTo cpos (starEach [e] X.env)).all (λx=>!x.1)&&(backToKw cpos (keywordEach [] X.env)).all (λx=>x.1.isSome)
   && decide (([e]:List Expr).length+([]:List Keyword).length+(if ([]:List Keyword).isEmpty then 0 else 1) < 30))=true
 line:(apos.endLine==cpos.line)=true
 trees:backTo cpos (starEach [e] X.env)=[(false,eval e X.env)]
structure M2(X:Cx)(o:Expr)(m:Str)(apos:Pos)(e f:Expr)(cpos:Pos):Prop where
 base:attributeBase o m X.env (eval o X.env)=eval o X.env
 few:((backTo cpos (starEach [e,f] X.env)).all (λx=>!x.1)&&(backToKw cpos (keywordEach [] X.env)).all (λx=>x.1.isSome)
   && decide (([e,f]:List Expr).length+([]:List Keyword).length+(if ([]:List Keyword).isEmpty then 0 else 1) < 30))=true
 line:(apos.endLine==cpos.line)=true
 trees:backTo cpos (starEach [e,f] X.env)=[(false,eval e X.env),(false,eval f X.env)]
noncomputable def IsD(H:Hp)(a:Addr):Prop:=(∃kvs,Rd H a (.dK kvs))\/∃kvs,Rd H a (.dT kvs)
theorem isD_at{X:Cx}{pins:List (Addr×Obj)}{σ:St}{H:Hp}{s:Shared}{a:Addr}(I:Inv X pins σ H s)(d:IsD H a) :
  s.TypeIs (.ref a) "dict"/\(∀b,G2 a=.ref b->∃ob,s.heap.get? b=some ob/\ob.dict=none)/\(a==sysModules)=false:=by
 rcases d with⟨kvs,e⟩|⟨kvs,e⟩
 ·obtain⟨_,hd,vs,_,dd⟩:=dk_rd I.hok e
  refine ⟨dd.typeIs,λb q=>?_,hd⟩
  cases q
  obtain⟨ob,_,_,h1,h2,_⟩:=dd
  exact ⟨ob,h1,h2.2.1⟩
 ·obtain⟨_,hd,xs,_,dd⟩:=dt_rd I.hok e
  refine ⟨dd.typeIs,λb q=>?_,hd⟩
  cases q
  obtain⟨ob,_,_,h1,h2,_⟩:=dd
  exact ⟨ob,h1,h2.2.1⟩
section
variable {X:Cx}{pins:List (Addr×Obj)}{σ:St}{H:Hp}{s:Shared}{a:Addr}{y d:V}{u r:Value}{o:Option V}{A:Around}{E:Value->Shared->Prop}
end
section
variable {X:Cx}{o e f:Expr}{apos cpos:Pos}{td ty tx:TE}
end
section
variable {X:Cx}{pins:List (Addr×Obj)}{σ:St}{H:Hp}{s:Shared}{a:Addr}{kvs:List (Key×V)}{A:Around}{E:Value->Shared->Prop}
end
section
variable {X:Cx}{pins:List (Addr×Obj)}{σ:St}{H:Hp}{s:Shared}{a:Addr}{y:V}{u:Value}{A:Around}{E:Value->Shared->Prop}
end
end L2
namespace Att
open PySem PySem.W PySem.Calls PyProof.Rows
theorem ints_of_wellAll{P:Params}{h:Heap}:∀(ns:List Int) (vs:List Value),WellAll P h vs (ns.map WData.int)->IntsAre vs ns:=by
 intro ns
 induction ns with
 | nil =>
  intro vs w
  rw[O3]at w
  cases w
  exact .nil
 | cons n ns ih =>
  intro vs w
  rw[K1]at w
  cases w with
  | cons a b =>
   cases a
   exact .cons _ _ (ih _ b)
theorem script_of{l:OpenLaw}{n:Nat}(hn:l.most=some n){P:Params}{h:Heap}{args:List WData}{vals:List Value}
  (hpre:l.row.toRowW.claim.pre args=true) (hwl:WellAll P h vals args) :
  ∃a vs ns,vals=[G2 a]/\args=[WData.list (ns.map WData.int)]/\h.get? a=some { cls:=.type "list",data:=.seq vs.toArray }/\IntsAre vs ns/\ns.length<=n:=by
 have hsh:WShape.hasAll [] args [.list .int]=true:=(pre_splitW hpre).1
 have hc:l.pre.holds [] { args:=args }=true:=(pre_splitW hpre).2
 obtain⟨d,r,rfl,h1,h2⟩:=hasAllW_cons hsh
 obtain rfl:=hasAllW_nil h2
 obtain⟨xs,rfl,h3⟩:=hasW_list h1
 obtain⟨ns,rfl⟩:=items_int h3
 have hlen:ns.length<=n:=by
  unfold OpenLaw.pre at hc
  have h4:(WTm.not (.lt (.lit (.int (n:Int))) (.len (.arg 0)))).holds [] { args:=[.list (ns.map .int)] }=true:=by
   have h4:=(holds_andW hc).1
   rw[hn]at h4
   exact h4
  have h5:=condW_of h4 (w_not (w_lt w_lit (w_len_list (w_arg rfl))))
  rw[A0]at h5
  refine j7 λq=>?_
  have q':(n:Int) < ((ns.length:Nat):Int):=by omega
  first
   | (rw[decide_eq_true q']at h5;exact absurd h5 (by decide))
   | (simp at h5;omega)
 cases hwl with
 | cons w1 w2 =>
  cases w2
  cases w1 with
  | list ho hall=>exact ⟨_,_,ns,rfl,rfl,ho,ints_of_wellAll ns _ hall,hlen⟩
theorem post_true(l:OpenLaw)(args:List WData):l.row.toRowW.claim.post args (.bool true) args=true :=
 postW_of (r:=l.row.toRowW) (X:=(true==true))
  (show WShape.has [] (.bool true) .bool=true by first|rfl|decide|simp[WShape.has,WShape.arms,WShape.armsAll])
  (show (WTm.eq .res (.lit (.bool true))).value [] { args:=args,res:=some (.bool true),after:=args }=some (.bool (true==true)) from w_eq_bool (w_res rfl) w_lit) rfl
theorem attach_call{l:OpenLaw}{n:Nat}{q:Program}{loose:List Str}{XP:(Str->Option Value)->Heap->Prop}{YP:World->Heap->Prop}{d:DefRec}
  (hn:l.most=some n) (hdf:d.params.defaults=[])
  (call:∀(w:World) (s₀ s₁:Shared) (mg mb:Str->Option Value) (fa:Addr) (o:Obj) (pm cd doc:Value) (a:Addr) (vs:List Value) (ns:List Int),
    Ground q loose [] XP w s₀ mg mb s₁.heap->YP w s₁.heap ->
    s₁.heap.get? fa=some o->o.data=.func (docDef d.name d.params d.body d.scope pm cd doc)->s₁.heap.CodeRec cd d.name->mg d.name=some (.ref fa) ->
    s₁.heap.get? a=some { cls:=.type "list",data:=.seq vs.toArray }->IntsAre vs ns->ns.length<=n->s₁.gens=#[] ->
    codeAny (model l.prog w) callerA (.call (.ref fa) ⟨[.ref a],[]⟩) (λr s'=>r=.ok (.ret (.bool true))/\OldK s₁.heap s'.heap/\s'.os=s₁.os/\AllBare s'.gens) s₁) :
  WalkO q loose XP YP l.row.toRowW d [] (λf vs=>PySem.call f vs):=by
 intro w s₀ s₁ mg mb G Y fa o pm cd doc dV kV ho hd hcd hD hmg hg args vals as hpre hlay hrd hwl hlo
 obtain rfl:dV=.none:=Dflts.none hD hdf
 obtain rfl:kV=.none:=Dflts.noKw hD
 obtain⟨a,vs,ns,rfl,rfl,hobj,hints,hlen⟩:=script_of hn hpre hwl
 refine enter_call (codeAny_mono (call w s₀ s₁ mg mb fa o pm cd doc a vs ns G Y ho (fd_plain hd) hcd hmg hobj hints hlen hg) λr s' hq=>?_)
 obtain⟨rfl,h2,h3,h4⟩:=hq
 exact ⟨.inl ⟨.bool true,.bool true,[],rfl,λ_=>rfl,.bool true,post_true l _,λ_=>⟨List.Pairwise.nil,λ_ hm=>(nomatch hm)⟩⟩,h2,h3,h4⟩
section
variable {prog:Program}{w:World}{A:Around}{E:Value->Shared->Prop}{s:Shared}{K:Frag}
end
end Att
namespace L2
open PySem PySem.Spec PyProof.Rows
theorem vals_ints:∀{vs:List Value}{ns:List Int},IntsAre vs ns->Vals (ns.map V.int) vs
 | _,_,.nil=>.nil
 | _,_,.cons n t h=>.cons ⟨t,rfl⟩ (vals_ints h)
noncomputable def Only(H:Hp):Prop:=∀b,H b=none\/∃o xs,H b=some (.frz o (.lst xs))
theorem law_call{P:Program}{w:World}{K:j0}{mg mb:Str->Option Value}{CX:CXT}{k:Nat}{fa a:Addr}{fd:FuncData}{x:Str}{sp:Sp}{s₁:Shared}{vs:List Value}{ns:List Int}
  (KX:K.In s₁.heap) (hns:s₁.heap.Ns mainGlobals mg) (hb:s₁.heap.Ns builtinsNs mb) (hbb:∀x:Str,x ≠ "__name__"->mb x=bootBuiltins x) (hlim:s₁.heap.NoLimit) (hg:s₁.gens=#[])
  (ha:s₁.heap.get? a=some { cls:=.type "list",data:=.seq vs.toArray }) (hi:IntsAre vs ns) (hl:ns.length<=sizeLine) (hr:Room k callerA)
  (F:∀base:Heap,K.In base->base.Ns mainGlobals mg->FnOk P w K mg base CX k fa fd [x] sp) (hbind:∀(s:Shared) (u:Value),BindsTo s fd ⟨[u],[]⟩ [(x,u)])
  (hsp:∀H:Hp,Only H->SqL K H a (ns.map V.int)->sp [.ref a] H (λv _=>v=.bl true) λ_ _ _=>False)
  (hCX:∀H e s',CX [] H s₁ (λ_ _ _=>False) e s'->False) :
  codeAny (model P w) callerA (.call (.ref fa) ⟨[.ref a],[]⟩) (λr s'=>r=.ok (.ret (.bool true))/\OldK s₁.heap s'.heap/\s'.os=s₁.os/\AllBare s'.gens) s₁:=by
 have rv:=vals_ints hi
 have lenV:=hi.length
 have core:∀H:Hp,Only H->SqL K H a (ns.map V.int)->HOk P w H s₁.heap->(∀b,H b≠none->b=a)->(H a≠none->K.lookup a=none) ->
   codeAny (model P w) callerA (.call (.ref fa) ⟨[.ref a],[]⟩) (λr s'=>r=.ok (.ret (.bool true))/\OldK s₁.heap s'.heap/\s'.os=s₁.os/\AllBare s'.gens) s₁:=by
  intro H hO hS hok hA hK
  have base_of:∀{b:Addr}{o:Obj},s₁.heap.get? b=some o->H b=none->(hidT s₁.heap H).get? b=some o:=λe n=>hidT_get e n
  have noA:∀{b:Addr}{o:Obj}{es:Array DictEntry}{ep:Nat},s₁.heap.get? b=some o->o.data=.dict es ep->H b=none:=λ{b o es ep} e d=>by
   cases q:H b with
   | none=>rfl
   | some u =>
    have e':b=a:=hA b (by rw[q];simp)
    subst e'
    rw[ha]at e;cases e
    have d':Data.seq vs.toArray _=Data.dict es ep:=d
    cases d'
  have nsK:∀{b:Addr}{m:Str->Option Value},s₁.heap.Ns b m->(hidT s₁.heap H).Ns b m:=λ{b m} ⟨o,es,ep,e,d,r⟩=>⟨o,es,ep,base_of e (noA e d),d,r⟩
  have hKb:K.In (hidT s₁.heap H):=λb o e=>base_of (KX b o e) (by
    cases q:H b with
    | none=>rfl
    | some u =>
      have e':b=a:=hA b (by rw[q];simp)
      subst e'
      rw[hK (by rw[q];simp)]at e;cases e)
  have hM:Mod K mg (hidT s₁.heap H):=⟨hKb,nsK hns,⟨mb,nsK hb,hbb⟩,let ⟨mc,h1,h2⟩:=hlim;⟨mc,nsK h1,h2⟩⟩
  have e0:Env0 P w K mg (hidT s₁.heap H) callerA [] s₁ H:=⟨rfl,hM,λb o e=>of_hidT e,m8 (hidT_size _ _),trivial,λb hb=>absurd (show b∈([]:List Addr) from hb) (by simp),hok,.of_eq hg⟩
  refine codeAny_mono ((F _ hKb (nsK hns)).run callerA [] s₁ H ⟨[.ref a],[]⟩ [.ref a] [.ref a] _ _ hr e0 (hbind s₁ (.ref a)) (.cons rfl .nil) (hsp H hO hS)) λr s' h=>?_
  cases r with
  | error e=>exact (hCX H e s' h).elim
  | ok fl =>
   cases fl with
   | next=>exact False.elim h
   | brk=>exact False.elim h
   | cont=>exact False.elim h
   | ret u =>
    obtain⟨v,H',os,bare,un,hok',r',q⟩:=h
    have q':v=.bl true:=q
    subst q'
    obtain rfl:u=B8 true:=r'
    refine ⟨rfl,OldK.of_keep λb o e=>?_,os,bare⟩
    cases q:H b with
    | none=>exact un.keep b o e q (by intro z;exact absurd (show b∈([]:List Addr) from z) (by simp)) (by simp)
    | some u =>
     rcases hO b with z|⟨ob,xs,z⟩
     ·rw[q]at z;cases z
     ·have z2:=un.frzs b ob _ z
      obtain⟨e1,_⟩:=hok b _ z
      obtain⟨e2,_⟩:=hok' b _ z2
      rw[e]at e1;cases e1
      exact e2
 cases hk:K.lookup a with
 | some o =>
  have e:=KX a o hk
  rw[ha]at e
  cases e
  refine core (λ_=>none) (λ_=>.inl rfl) (.inr ⟨_,vs.toArray,_,hk,rfl,rfl,rfl,by rw[L0,lenV];exact hl,by simpa using rv⟩) (λb u z=>by have z':(none:Option HO)=some u:=z;cases z') (λb z=>absurd rfl z) λz=>absurd rfl z
 | none =>
  refine core (λb=>if b=a then some (.frz { cls:=.type "list",data:=.seq vs.toArray } (.lst (ns.map V.int))) else none) (λb=>?_) (.inl (.inr ⟨{ cls:=.type "list",data:=.seq vs.toArray },if_pos rfl⟩)) (λb u z=>?_) (λb z=>?_) λ_=>hk
  ·by_cases hb:b=a
   ·exact .inr ⟨_,_,if_pos hb⟩
   ·exact .inl (if_neg hb)
  ·by_cases hb:b=a
   ·have z':=(if_pos hb).symm.trans z
    cases z'
    subst hb
    exact ⟨ha,by rw[A0];exact hl,vs,_,rv,ha⟩
   ·have z':=(if_neg hb).symm.trans z
    cases z'
  ·by_cases hb:b=a
   ·exact hb
   ·exact absurd (if_neg hb) z
theorem walk_of{l:F7}{n k:Nat}{q:Program}{loose:List Str}{XP:(Str->Option Value)->Heap->Prop}{YP:World->Heap->Prop}{d:DefRec}{K:Params->j0}{CX:World->CXT}{sp:World->Sp}{x:Str}
  (hn:l.most=some n) (hn2:n<=sizeLine) (hdf:d.params.defaults=[]) (hr:Room k callerA)
  (hY:∀(w:World) (h:Heap),YP w h->(K w.params).In h)
  (F:∀(w:World) (mg:Str->Option Value) (fa:Addr) (h:Heap),(K w.params).In h->h.Ns mainGlobals mg->mg d.name=some (.ref fa) ->
    ∃fd:FuncData,(∀(s:Shared) (u:Value),BindsTo s fd ⟨[u],[]⟩ [(x,u)]) /\
      ∀base:Heap,(K w.params).In base->base.Ns mainGlobals mg->FnOk l.prog w (K w.params) mg base (CX w) k fa fd [x] (sp w))
  (hsp:∀(w:World) (H:Hp) (a:Addr) (ns:List Int),ns.length<=n->Only H->SqL (K w.params) H a (ns.map V.int)->sp w [.ref a] H (λv _=>v=.bl true) λ_ _ _=>False)
  (hCX:∀(w:World) (H:Hp) (s:Shared) (e:Value) (s':Shared),CX w [] H s (λ_ _ _=>False) e s'->False) :
  PySem.W.WalkO q loose XP YP l.row.toRowW d [] (λf vs=>PySem.call f vs):=by
 refine Att.attach_call hn hdf λw s₀ s₁ mg mb fa o pm cd doc a vs ns G Y ho hd hcd hmg hobj hints hlen hg=>?_
 have KX:=hY w _ Y
 obtain⟨fd,hb,hF⟩:=F w mg fa _ KX G.T.g hmg
 exact law_call KX G.T.g G.T.b G.T.builtins G.T.nolimit hg hobj hints (O1 hlen hn2) hr hF hb (λH hO hS=>hsp w H a ns hlen hO hS) λH e s'=>hCX w H s₁ e s'
noncomputable def defArgs(s:Stmt):Arguments:=match s with
 | .FunctionDef _ a _ _ _ _ _ _ _ _=>a
 | _=>{ posonlyargs:=[],args:=[],vararg:=none,kwonlyargs:=[],kw_defaults:=[],kwarg:=none,defaults:=[] }
noncomputable def defBody(s:Stmt):List Stmt:=match s with
 | .FunctionDef _ _ b _ _ _ _ _ _ _=>b
 | _=>[]
noncomputable def defScope(s:Stmt):Scope:=match s with
 | .FunctionDef _ _ _ _ _ _ sc _ _ _=>sc
 | _=>{ kind:=.function,names:=[],isGenerator:=false,isCoroutine:=false }
noncomputable abbrev CX0:CXT:=λ_ _ _ _ _ _=>False
noncomputable abbrev E0:XK:=λ_ _ _=>False
theorem pass0{X:Cx}:Passes CX0 X E0:=λ_ _ _ _ _ _ _ h=>h.elim
structure Fun(K:j0)(x qual:Str)(st:Stmt)(f:Addr)(fd:FuncData):Prop where
 ex:∃(oc:Value) (od:Option Addr) (kV doc pm:Value) (an:Option Addr) (cdv ct:Value) (osl:Array (Option Value)),
  fd=Q4 x qual (defArgs st) (defBody st) (defScope st) .none kV doc pm an cdv ct/\K.lookup f=some ⟨oc,od,.func fd,osl⟩/\K6 K cdv qual=true
 kp:W3 K (.ref f)=true
section
variable {P:Program}{w:World}{K:j0}{mg:Str->Option Value}{base:Heap}
theorem Fun.ok{x qual:Str}{st:Stmt}{f:Addr}{fd:FuncData}{N ps:List Str}{k:Nat}{sp:Sp}(F:Fun K x qual st f fd)(S:FnScope N ps (defScope st))(len:∀vs H Q E,sp vs H Q E->vs.length=ps.length)
  (hbody:∀(cdv:Value) (A:Around) (outer:List Env) (s:Shared) (H:Hp) (vs:List V) (Q:VK) (E:XK),Room k (A.deeper (envOfC qual (defScope st) s.heap.objs.size f cdv))->sp vs H Q E ->
    ∃t,PSs (cxOf CX0 P w K mg base N qual (defScope st) f cdv A outer s H E).nox (defBody st) t/\t { nx:=λ_ H'=>Q .non H',rt:=Q } (start N vs) H):FnOk P w K mg base CX0 (k+1) f fd ps sp:=by
 obtain⟨oc,od,kV,doc,pm,an,cdv,ct,osl,rfl,lk,hcd⟩:=F.ex
 refine fn_of lk hcd S len λA outer s H vs Q E hr hsp=>?_
 obtain⟨t,h,q⟩:=hbody cdv A outer s H vs Q E hr hsp
 exact ⟨t,h.nox,q⟩
theorem Fun.binds{x qual:Str}{st:Stmt}{f:Addr}{fd:FuncData}{ps:List Str}(F:Fun K x qual st f fd)
  (h:∀(kV doc pm:Value) (an:Option Addr) (cdv ct:Value) (us:List Value),us.length=ps.length->bindArgs (Q4 x qual (defArgs st) (defBody st) (defScope st) .none kV doc pm an cdv ct) ⟨us,[]⟩=pure (ps.zip us)):Binds K fd ps []:=by
 obtain⟨oc,od,kV,doc,pm,an,cdv,ct,osl,rfl,lk,hcd⟩:=F.ex
 exact .all (h kV doc pm an cdv ct)
theorem fun_mk{x qual:Str}{st:Stmt}{f:Addr}{oc:Value}{od an:Option Addr}{osl:Array (Option Value)}{kV doc pm cdv ct:Value}(l:K.lookup f=some ⟨oc,od,.func (Q4 x qual (defArgs st) (defBody st) (defScope st) .none kV doc pm an cdv ct),osl⟩)
  (c:K6 K cdv qual=true) (k:W3 K (.ref f)=true):Fun K x qual st f (Q4 x qual (defArgs st) (defBody st) (defScope st) .none kV doc pm an cdv ct):=⟨⟨oc,od,kV,doc,pm,an,cdv,ct,osl,rfl,l,c⟩,k⟩
end
section
variable {X:Cx}
end
theorem ite2{c A B:Prop}[Decidable c](h1:c->A)(h2:¬c->B):if c then A else B:=by
 by_cases h:c
 ·rw[if_pos h]
  exact h1 h
 ·rw[if_neg h]
  exact h2 h
section
variable {κ:Type}[DecidableEq κ]
end
noncomputable def clOf(cells:List (Str×Addr)):List (Str×NameKind)->List (Str×Addr)->List (Str×Addr)
 | [],acc=>acc
 | (n,k) :: r,acc=>clOf cells r (if k==.free then (n,(cells.lookup n).getD 0) :: acc else acc)
theorem closure_of{env:Env}{sc:Scope}(h:∀y∈sc.names,y.2=.free->∃c,env.cells.lookup y.1=some c):closureFor sc env=pure (clOf env.cells sc.names []):=by
 have go:∀(l:List (Str×NameKind)) (acc:List (Str×Addr)),(∀y∈l,y.2=.free->∃c,env.cells.lookup y.1=some c) ->
   (forIn l acc λ(x:Str×NameKind) r=>(if (x.2==NameKind.free)=true then (do let a<-cellOf env x.1;pure (ForInStep.yield ((x.1,a) :: r))) else pure (ForInStep.yield r):Sem (ForInStep (List (Str×Addr)))))=pure (clOf env.cells l acc):=by
  intro l
  induction l with
  | nil=>intro acc _;rfl
  | cons y r ih =>
   intro acc hl
   obtain⟨n,k⟩:=y
   rw[j4]
   by_cases hk:(k==NameKind.free)=true
   ·obtain⟨c,hc⟩:=hl (n,k) M0 (by simpa using hk)
    have hc:env.cells.lookup n=some c:=hc
    simp only[hk,if_true,cellOf,hc,pure_bind,clOf,E4]
    exact ih _ λy hy=>hl y (G0 _ hy)
   ·simp only[hk,if_false,pure_bind,clOf]
    exact ih _ λy hy=>hl y (G0 _ hy)
 have e:=go sc.names [] h
 unfold closureFor
 show (forIn sc.names [] _ >>= λcs=>pure cs)=_
 rw[show (forIn sc.names ([]:List (Str×Addr)) λ(x:Str×NameKind) r=>(match x with|(name,kind)=>if (kind==NameKind.free)=true then (do let a<-cellOf env name;pure (ForInStep.yield ((name,a) :: r))) else pure (ForInStep.yield r):Sem (ForInStep (List (Str×Addr)))))=pure (clOf env.cells sc.names []) from e]
 rfl
theorem clOf_lookup{cells:List (Str×Addr)}{x:Str}{c:Addr}:∀{l:List (Str×NameKind)}{acc:List (Str×Addr)},(∀y∈l,y.2=.free->∃c,cells.lookup y.1=some c)->(clOf cells l acc).lookup x=some c ->
  acc.lookup x=some c\/cells.lookup x=some c
 | [],acc,_,h=>.inl h
 | (n,k) :: r,acc,hl,h=>by
  have ih:=clOf_lookup (l:=r) (λy hy=>hl y (G0 _ hy)) h
  rcases ih with ih|ih
  ·by_cases hk:(k==NameKind.free)=true
   ·rw[if_pos hk,G3]at ih
    obtain⟨c',hc⟩:=hl (n,k) M0 (by simpa using hk)
    have hc:cells.lookup n=some c':=hc
    cases e:x==n with
    | true =>
     rw[e]at ih
     have:x=n:=by simpa using e
     subst this
     simp only[hc,E4,Option.some.injEq]at ih
     subst ih
     exact .inr hc
    | false=>rw[e]at ih;exact .inl ih
   ·rw[if_neg hk]at ih;exact .inl ih
  ·exact .inr ih
theorem clOf_has{cells:List (Str×Addr)}{x:Str}:∀{l:List (Str×NameKind)}{acc:List (Str×Addr)},((∃c,acc.lookup x=some c)\/l.lookup x=some .free)->∃c,(clOf cells l acc).lookup x=some c
 | [],acc,h=>by
  rcases h with h|h
  ·exact h
  ·simp at h
 | (n,k) :: r,acc,h=>by
  refine clOf_has (l:=r) ?_
  rcases h with⟨c,h⟩|h
  ·left
   by_cases hk:(k==NameKind.free)=true
   ·rw[if_pos hk,G3]
    cases x==n with
    | true=>exact ⟨_,rfl⟩
    | false=>exact ⟨c,h⟩
   ·rw[if_neg hk];exact ⟨c,h⟩
  ·rw[G3]at h
   cases e:x==n with
   | true =>
    rw[e]at h
    have hk:k=.free:=V1 h
    left
    subst hk
    rw[if_pos (by decide),G3,e]
    exact ⟨_,rfl⟩
   | false=>rw[e]at h;exact .inr h
theorem lookup_relabel{env:Env}{x:Str}:∀{names:List (Str×NameKind)},
  (names.map λ(n,k)=>if (k==NameKind.free&&env.scope.kind==.function&&env.kindOf n==some .cell) then (n,NameKind.cell) else (n,k)).lookup x =
   (names.lookup x).map λk=>if (k==NameKind.free&&env.scope.kind==.function&&env.kindOf x==some .cell) then .cell else k
 | []=>rfl
 | (n,k) :: r=>by
  have ih:=@lookup_relabel env x r
  rw[K1]
  show U6 x ((if (k==NameKind.free&&env.scope.kind==.function&&env.kindOf n==some .cell)=true then (n,NameKind.cell) else (n,k)) :: _)=_
  cases hx:x==n with
  | true =>
   have e:x=n:=by simpa using hx
   subst e
   by_cases hc:(k==NameKind.free&&env.scope.kind==.function&&env.kindOf x==some .cell)=true
   ·rw[if_pos hc];simp only[G3,hx,O4];rw[if_pos hc]
   ·rw[if_neg hc];simp only[G3,hx,O4];rw[if_neg hc]
  | false =>
   by_cases hc:(k==NameKind.free&&env.scope.kind==.function&&env.kindOf n==some .cell)=true
   ·rw[if_pos hc];simp only[G3,hx];exact ih
   ·rw[if_neg hc];simp only[G3,hx];exact ih
theorem relabel_lookup(sc:Scope)(env:Env)(x:Str):(relabel sc env).names.lookup x=(sc.names.lookup x).map λk=>if (k==NameKind.free&&env.scope.kind==.function&&env.kindOf x==some .cell) then .cell else k:=lookup_relabel
theorem cf_app:∀(names:List (Str×NameKind)) (n:Nat) (acc:List (Str×Addr)),cellsFrom n names acc=cellsFrom n names []++acc
 | [],_,_=>rfl
 | (x,k) :: r,n,acc=>by
  unfold cellsFrom
  split
  ·rw[cf_app r (n+1) ((x,n) :: acc),cf_app r (n+1) [(x,n)],U5];rfl
  ·exact cf_app r n acc
theorem cf_mem{x:Str}{c:Addr}:∀(names:List (Str×NameKind)) (n:Nat),(x,c)∈cellsFrom n names []->(x,NameKind.cell)∈names/\n<=c
 | [],_,h=>by cases h
 | (y,k) :: r,n,h=>by
  unfold cellsFrom at h
  split at h
  ·rename_i hk
   have hk:k=.cell:=by simpa using hk
   rw[cf_app,Z2]at h
   rcases h with h|h
   ·have:=cf_mem r (n+1) h
    exact ⟨G0 _ this.1,by omega⟩
   ·have h:(x,c)=(y,n):=by simpa using h
    cases h
    subst hk
    exact ⟨M0,N0 _⟩
  ·have:=cf_mem r n h
   exact ⟨G0 _ this.1,this.2⟩
theorem lookup_app{α:Type}{x:Str}:∀{l m:List (Str×α)},(l++m).lookup x=(l.lookup x).or (m.lookup x)
 | [],_=>rfl
 | (y,v) :: l,m=>by
  rw[K5,G3,G3]
  cases x==y with
  | true=>rfl
  | false=>exact lookup_app
theorem wpAny_newEnvComp{M:Model}{A:Around}{E:Value->Shared->Prop}{s:Shared}{scope:Scope}{globals:Addr}{closure:List (Str×Addr)}{qual:Str}{env:Env}{Q:Env->Shared->Prop}
  (hQ:Q (newEnv scope s.heap.objs.size globals (cellsFrom (s.heap.objs.size+1) scope.names closure) qual none .none (some env) builtinsNs) { s with heap:=pushCells (s.heap.push { cls:=.type "dict",data:=.dict #[] }) scope.names }) :
  wpAny M A (newFunctionEnv scope globals closure [] qual none .none (some env)) Q E s:=by
 simp only[newFunctionEnv,Option.isSome_some,if_true]
 refine wpAny_bind (wpAny_alloc ?_)
 refine wpAny_bind (wpAny_layCells _ (λname kind cells=>by cases hkc:kind==NameKind.cell<;>simp[hkc]) _ _ _ _ ?_)
 rw[show ({ s with heap:=s.heap.push { cls:=.type "dict",data:=.dict #[] } }:Shared).heap.objs.size=s.heap.objs.size+1 from L1 ..]
 refine wpAny_bind ?_
 rw[G4]
 exact wpAny_pure (wpAny_pure hQ)
noncomputable def frN(N:List Str)(fr:List Nat):List Str:=fr.map λi=>N.getD i Str.empty
noncomputable def frS(σ:St)(fr:List Nat):St:=fr.map λi=>(σ[i]?).getD none
noncomputable def cxComp(X:Cx)(own:List Str)(fr:List Nat)(sc:Scope)(C:Addr)(s:Shared)(H:Hp)(ex:List Addr):Cx where
 prog:=X.prog
 w:=X.w
 K:=X.K
 mg:=X.mg
 base:=X.base
 A:=X.A
 N:=own++frN X.N fr
 s₀:=s
 H₀:=H
 env:=compEnvC sc (cellsFrom (C+1) sc.names (clOf X.env.cells sc.names [])) C X.env
 outer:=X.stack
 stack:=X.stack
 ex:=ex
 fn:=λx=>sc.names.lookup x==some .cell
 calm:=X.calm
 pn:=[]
 xe:=λ_ _=>False
noncomputable def st0(own:List Str)(σ:St)(fr:List Nat):St:=own.map (λ_=>none)++frS σ fr
structure CompSc(X:Cx)(own:List Str)(fr:List Nat)(sc:Scope):Prop where
 kind:sc.kind=.function
 cells:∀y∈sc.names,y.2=.cell->sc.names.lookup y.1=some .cell
 loc:∀y∈sc.names,y.2=.local->sc.names.lookup y.1=some .local
 free:∀y∈sc.names,y.2=.free->X.env.kindOf y.1=some .cell\/X.env.kindOf y.1=some .free
 fr:∀i∈fr,∃x,X.N[i]?=some x/\sc.names.lookup x=some .free
theorem comp_start{X:Cx}{own:List Str}{fr:List Nat}{sc:Scope}{pins:List (Addr×Obj)}{σ:St}{H:Hp}{s:Shared}{fp:List Addr}{C D:Addr}{h1:Heap}{tk:Nat}{oD:Obj}
  (S:CompSc X own fr sc) (I:Inv X pins σ H s) (hf:∀b∈fp,FpOk X pins H b) (hfo:∀b∈fp,∃o,s.heap.get? b=some o) (hC:s.heap.objs.size<=C) (hD:s.heap.objs.size<=D) (hDC:D≠C) (hn:h1.Ns C λx=>([]:List (Str×Value)).reverse.lookup x)
  (hk:∀b o,s.heap.get? b=some o->h1.get? b=some o) (hcl:∀x c,(x,c)∈cellsFrom (C+1) sc.names []->h1.IsCell c none) (hap:(cellsFrom (C+1) sc.names []).Pairwise λx y=>x.2≠y.2) (hoD:h1.get? D=some oD) (hdD:∀v,oD.data≠.cell v) :
  Inv (cxComp X own fr sc C s H fp) [(D,oD)] (st0 own σ fr) H { s with heap:=h1,toks:=tk }:=by
 have hfree:∀y∈sc.names,y.2=.free->∃c,X.env.cells.lookup y.1=some c:=λy hy e=>I.ok.has y.1 (S.free y hy e)
 have cl1:∀x c,(clOf X.env.cells sc.names []).lookup x=some c->X.env.cells.lookup x=some c:=λx c e=>by
  rcases clOf_lookup hfree e with z|z
  ·simp at z
  ·exact z
 have cl2:∀x c,(cellsFrom (C+1) sc.names (clOf X.env.cells sc.names [])).lookup x=some c->(x,c)∈cellsFrom (C+1) sc.names []\/X.env.cells.lookup x=some c:=λx c e=>by
  rw[cf_app,lookup_app]at e
  cases q:(cellsFrom (C+1) sc.names []).lookup x with
  | none=>rw[q]at e;exact .inr (cl1 x c e)
  | some c'=>rw[q]at e;cases e;exact .inl (PySem.mem_of_lookup q)
 have new:∀x c,(x,c)∈cellsFrom (C+1) sc.names []->C+1<=c:=λx c h=>(cf_mem _ _ h).2
 have oldc:∀x c,X.env.cells.lookup x=some c->c < s.heap.objs.size:=λx c e=>by
  obtain⟨v,q⟩:=I.cell x c e
  exact q.lt
 have kin:∀x k,(relabel sc X.env).names.lookup x=some k->k=.cell\/k=.free->sc.names.lookup x=some .free\/sc.names.lookup x=some .cell:=λx k e hk=>by
  rw[relabel_lookup]at e
  cases q:sc.names.lookup x with
  | none=>rw[q]at e;cases e
  | some j =>
   rw[q,O4,Option.some.injEq]at e
   by_cases hj:j=.free
   ·rw[hj];exact .inl rfl
   ·have hne:(j==NameKind.free)=false:=by simpa using hj
    rw[hne,U1,U1,if_neg (by simp)]at e
    subst e
    rcases hk with z|z
    ·rw[z];exact .inr rfl
    ·exact absurd z hj
 have kout:∀x,sc.names.lookup x=some .free->((relabel sc X.env).names.lookup x=some .cell\/(relabel sc X.env).names.lookup x=some .free):=λx e=>by
  rw[relabel_lookup,e,O4]
  by_cases h:(NameKind.free==NameKind.free&&X.env.scope.kind==.function&&X.env.kindOf x==some .cell)=true
  ·rw[if_pos h];exact .inl rfl
  ·rw[if_neg h];exact .inr rfl
 have okc:∀b∈fp,b < s.heap.objs.size:=λb hb=>by obtain⟨o,e⟩:=hfo b hb;exact B0 e
 have fresh:∀{a:Addr},s.heap.objs.size<=a->H a=none:=λh=>I.hok.fresh h
 have ok:(cxComp X own fr sc C s H fp).Ok:={
   mod:=I.ok.mod
   kind:=S.kind
   glob:=I.ok.glob
   blt:=I.ok.blt
   above:=hC
   inj:=λx y c h1 h2=>by
     have hC:s.heap.objs.size<=C:=hC
     rcases cl2 x c h1 with a|a<;>rcases cl2 y c h2 with b|b
     · exact name_of_addr hap a b
     · have:=new x c a;have:=oldc y c b;exact absurd (O0 (oldc y c b) (O1 hC (S4 (new x c a)))) (X1 _)
     · exact absurd (O0 (oldc x c a) (O1 hC (S4 (new y c b)))) (X1 _)
     · exact I.ok.inj x y c a b
   has:=λx hx=>by
     have hx:sc.names.lookup x=some .free\/sc.names.lookup x=some .cell:=by
       rcases hx with hx|hx
       · exact kin x _ hx (.inl rfl)
       · exact kin x _ hx (.inr rfl)
     show ∃c,(cellsFrom (C+1) sc.names (clOf X.env.cells sc.names [])).lookup x=some c
     rw[cf_app,lookup_app]
     rcases hx with hx|hx
     · obtain⟨c,e⟩:=clOf_has (cells:=X.env.cells) (x:=x) (l:=sc.names) (acc:=[]) (.inr hx)
       rw[e]
       cases (cellsFrom (C+1) sc.names []).lookup x with
       | none=>exact ⟨c,rfl⟩
       | some c'=>exact ⟨c',rfl⟩
     · obtain⟨c,e⟩:=cell_has (n:=C+1) hx
       rw[e]
       exact ⟨c,rfl⟩
   cab:=λx c h e=>by
     have h:sc.names.lookup x=some .cell:=by simpa [cxComp]using h
     have e:(cellsFrom (C+1) sc.names (clOf X.env.cells sc.names [])).lookup x=some c:=e
     obtain⟨c',q⟩:=cell_has (n:=C+1) h
     rw[cf_app,lookup_app,q]at e
     cases e
     exact O1 hC (S4 (new x _ (PySem.mem_of_lookup q)))
   hd:=I.ok.hd
   frames:=I.ok.frames
   stk:=.inl rfl
   exf:=λb hb=>⟨S0 (O0 (okc b hb) hC),λx c e=>by
     rcases cl2 x c e with z|z
     · exact j1 (O0 (okc b hb) (O1 hC (S4 (new x c z))))
     · exact (hf b hb).2.2.2.2.1 x c z⟩
   bs:=I.bs
   bsz:=O1 I.ok.bsz I.sz
   noex:=λb o e hb=>by
     rcases (hf b hb).2.2.2.1 with z|z
     · exact I.ok.noex b o e z
     · exact absurd (O0 (B0 e) (O1 I.ok.bsz z)) (X1 _)
   exfs:=λb hb hm=>by
     rcases B1.mp (I.stkSub b hm) with z|z
     · exact (hf b hb).2.1 z
     · exact (hf b hb).2.2.1 z
   funs:=I.stack
   frf:=I.stkFree }
 refine ⟨ok,rfl,I.bare,Un.kept hk,⟨_,hn,λi x v e1 e2 e3=>?_⟩,λx c e=>?_,fresh hC,λx c e=>?_,λp hp=>?_,I.hok.kept hk,?_⟩
 ·have e1:(own++frN X.N fr)[i]?=some x:=e1
  have e2:(own.map (λ_=>(none:Option V))++frS σ fr)[i]?=some (some v):=e2
  by_cases hi:i < own.length
  ·rw[W2 (by simpa using hi),W0]at e2
   cases q:own[i]? with
   | none=>rw[q]at e2;cases e2
   | some z=>rw[q]at e2;cases e2
  ·rw[U2 (by omega)]at e1
   rw[U2 (by simpa using hi),A0]at e2
   unfold frN at e1
   unfold frS at e2
   rw[W0]at e1 e2
   cases q:fr[i - own.length]? with
   | none=>rw[q]at e1;cases e1
   | some j =>
    rw[q,O4,Option.some.injEq]at e1 e2
    obtain⟨y,hy,hyf⟩:=S.fr j (Q1 q)
    rw[Q0,hy,E4]at e1
    subst e1
    have e2':σ[j]?=some (some v):=by
     cases r:σ[j]? with
     | none=>rw[r]at e2;cases e2
     | some z=>rw[r,E4]at e2;rw[e2]
    have hkf:X.env.kindOf y=some .cell\/X.env.kindOf y=some .free:=S.free (y,.free) (PySem.mem_of_lookup hyf) rfl
    obtain⟨m,hm,hl⟩:=I.loc
    have vis:Vis X.env.scope y:=by
     rcases hkf with z|z
     ·exact .inr (.inl z)
     ·exact .inr (.inr z)
    obtain⟨u,r,l⟩:=hl j y v hy e2' vis
    refine ⟨u,r,?_⟩
    rcases l with⟨k,_⟩|⟨k,c,hc,z⟩
    ·rcases hkf with k'|k'<;>rw[k]at k'<;>cases k'
    ·refine .inr ⟨kout y hyf,?_⟩
     obtain⟨c',hc'⟩:∃c',(clOf X.env.cells sc.names []).lookup y=some c':=clOf_has (.inr hyf)
     have:c'=c:=V1 ((cl1 y c' hc').symm.trans hc)
     subst this
     obtain⟨o,ho,hd⟩:=z
     refine ⟨c',?_,o,hk _ _ ho,hd⟩
     show (cellsFrom (C+1) sc.names (clOf X.env.cells sc.names [])).lookup y=some c'
     rw[cf_app,lookup_app,hc']
     cases q:(cellsFrom (C+1) sc.names []).lookup y with
     | none=>rfl
     | some c2 =>
      have:=S.cells _ (cf_mem _ _ (PySem.mem_of_lookup q)).1 rfl
      rw[hyf]at this
      cases this
 ·rcases cl2 x c e with z|z
  ·exact ⟨_,hcl x c z⟩
  ·obtain⟨v,o,ho,hd⟩:=I.cell x c z
   exact ⟨v,o,hk _ _ ho,hd⟩
 ·rcases cl2 x c e with z|z
  ·exact fresh (O1 hC (S4 (new x c z)))
  ·exact I.freeC x c z
 ·have e:p=(D,oD):=by
   have:p∈([]:List (Addr×Obj))++[(D,oD)]:=hp
   simpa using this
  subst e
  refine ⟨hoD,fresh hD,hDC,λhm=>?_,hdD⟩
  have hm:D∈frs X.stack:=hm
  obtain⟨_,o,ho,_⟩:=I.stack.mem hm
  exact absurd (O0 (B0 ho) hD) (X1 _)
 ·show (own.map (λ_=>(none:Option V))++frS σ fr).length=(own++frN X.N fr).length
  simp[frS,frN]
theorem comp_end{X:Cx}{own:List Str}{fr:List Nat}{sc:Scope}{pins:List (Addr×Obj)}{σ σ':St}{H H':Hp}{s s':Shared}{fp:List Addr}{C D:Addr}{oD:Obj}{ys:List V}{us:List Value}{n:Nat}
  (I:Inv X pins σ H s) (hf:∀b∈fp,FpOk X pins H b) (hC:s.heap.objs.size<=C) (hD:s.heap.objs.size<=D) (hDC:D≠C)
  (J:Inv (cxComp X own fr sc C s H fp) [(D,oD)] σ' H' s') (ho:oD={ cls:=.type "list",data:=.seq us.toArray n }) (r:Vals ys us) (hz:ys.length<=sizeLine) :
  Inv X pins σ (upd H' D (.lst ys)) s'/\(∃m,s'.heap.Ns C m)/\FpOk X pins (upd H' D (.lst ys)) C:=by
 have pD:=J.pin (D,oD) (by simp[cxComp])
 have hHD:H' D=none:=pD.2.1
 have u:Un (frs X.stack) fp H H' s.heap s'.heap:=J.base
 have lt:∀b o,s.heap.get? b=some o->b≠D:=λb o e=>S0 (O0 (B0 e) hD)
 have u2:Un (frs X.stack) fp H (upd H' D (.lst ys)) s.heap s'.heap :=
  ⟨u.keep,u.slot,λb o e n hx=>by rw[upd_ne (lt b o e)];exact u.free b o e n hx,u.there,λb xs e=>by rw[upd_ne (ne_of_none (u.tups b xs e) hHD)];exact u.tups b xs e,
    λb o x e=>by rw[upd_ne (ne_of_none (u.frzs b o x e) hHD)];exact u.frzs b o x e,λb ps e=>by
      obtain⟨more,q⟩:=u.tbls b ps e
      exact ⟨more,by rw[upd_ne (ne_of_none q hHD)];exact q⟩⟩
 have hok:HOk X.prog X.w (upd H' D (.lst ys)) s'.heap:=λb o e=>by
  by_cases hb:b=D
  ·subst hb
   rw[upd_same]at e
   cases e
   exact ⟨hz,us,n,r,by rw[<- ho];exact pD.1⟩
  ·rw[upd_ne hb]at e
   exact (J.hok b o e).stay (λ_ _ _ q=>q) (λc q=>by rw[upd_ne (ne_of_none q hHD)];exact q) λc xs q=>by rw[upd_ne (ne_of_none q hHD)];exact q
 refine ⟨I.call' (ch:=fp) J.os u2 hok J.bare λb hb=>?_,?_,?_⟩
 ·obtain⟨f0,f1,f2,f3,f4,f5⟩:=hf b hb
  exact ⟨f3,f1,f4,f5⟩
 ·obtain⟨m,hm,_⟩:=J.loc
  exact ⟨m,hm⟩
 ·have hfree:H' C=none:=J.free
  refine ⟨by rw[upd_ne (J1 hDC)];exact hfree,?_⟩
  exact (I.fpOk hC (I.hok.fresh hC)).2
theorem codeAny_compLoop_any{prog:Program}{w:World}{A:Around}{R:Result->Shared->Prop}{s:Shared}{elt target iter:Expr}{ifs:List Expr}{scope:Scope}{pos:Pos}{it acc:Value}{env:Env}(I:Nat->Shared->Prop)
  (turn:∀n s,I n s->wpAny (model prog w) A (pyNext it) (λr s₁=>match r with
    | none=>R (.ok .next) s₁
    | some v=>wpAny (model prog w) A (letOwnedTupleGo target it v) (λ_ s₁'=>wpAny (model prog w) A (assign target env v) (λ_ s₂ =>
        wpAny (model prog w) A (forIn ifs true λc r=>if r=true then do let ok<-isTrue c env (eval c env);pure (ForInStep.yield ok) else pure (ForInStep.yield r)) (λok s₃ =>
          if ok=true then wpAny (model prog w) A (eval elt env) (λx s₄ =>
            wpAny (model prog w) A (call (.builtin "list.append") [acc,x]) (λ_ s₅=>∃m,m < n/\I m s₅) (λ_ _=>False) s₄) (λ_ _=>False) s₃
          else ∃m,m < n/\I m s₃) (λ_ _=>False) s₂) (λ_ _=>False) s₁') (λ_ _=>False) s₁) (λ_ _=>False) s)
  (n:Nat) (h:I n s) :
  codeAny (model prog w) A (.compLoop (.ListComp elt [⟨target,iter,ifs,0⟩] scope pos) 0 it acc env) R s:=by
 refine codeAny_loop rfl I (λn s hI=>?_) n h
 show wpAny _ A ((compTurn (.ListComp elt [⟨target,iter,ifs,0⟩] scope pos) 0 it acc env).onRaise (λx=>do noteFrame x env;theTreesLotGoes x)) _ _ s
 refine wpAny_noted ?_
 rw[compTurn_list]
 refine wpAny_bind (wpAny_standAt (wpAny_bind (wpAny_mono (turn n s hI) (λr s₁ h₁=>?_) λ_ _ h'=>h'.elim)))
 cases r with
 | none=>exact wpAny_pure h₁
 | some v =>
  refine wpAny_bind (wpAny_mono h₁ (λ_ s₁' h₁'=>?_) λ_ _ h'=>h'.elim)
  refine wpAny_bind (wpAny_mono h₁' (λ_ s₂ h₂=>wpAny_bind (wpAny_mono h₂ (λok s₃ h₃=>?_) λ_ _ h'=>h'.elim)) λ_ _ h'=>h'.elim)
  cases ok with
  | false=>exact wpAny_pure ⟨rfl,h₃⟩
  | true =>
   exact wpAny_bind (wpAny_bind (wpAny_mono h₃ (λx s₄ h₄=>wpAny_bind (wpAny_mono h₄ (λ_ s₅ h₅=>wpAny_pure (wpAny_pure ⟨rfl,h₅⟩)) λ_ _ h'=>h'.elim)) λ_ _ h'=>h'.elim))
noncomputable def PIf(X:Cx)(ifs:List Expr)(t:TT):Prop :=
 ∀(pins:List (Addr×Obj)) (s:Shared) (σ:St) (H:Hp) (Q:Bool->Hp->Prop),Inv X pins σ H s->t σ H Q ->
  wpAny (model X.prog X.w) X.A (forIn ifs true λc r=>if r=true then do let ok<-isTrue c X.env (eval c X.env);pure (ForInStep.yield ok) else pure (ForInStep.yield r)) (TP X pins σ Q) X.xe s
noncomputable def tYes:TT:=λ_ H Q=>Q true H
theorem if_nil{X:Cx}:PIf X [] tYes:=λ_ _ _ H _ I h=>wpAny_tests_nil ⟨H,I,h⟩
theorem if_one{X:Cx}{c:Expr}{t:TT}(h:PT X c t):PIf X [c] t:=λpins s σ H Q I hw=>wpAny_tests_one (h pins s σ H Q I hw)
noncomputable def tComp(wi:TI)(own:List Str)(fr:List Nat)(g:TG)(tc:TT)(te:TE):TE:=λσ H Q=>wi σ H λJ H1=>∃W:Nat->Nat->List V->St->Hp->Prop,(∃m,W 0 m [] (st0 own σ fr) H1)/\∀i m ys τ H,W i m ys τ H ->
 (J.stop i H/\∀D,H D=none->Q (.ref D) (upd H D (.lst ys))) \/
 (J.go i H/\ys.length < sizeLine/\∃N:List V->St->Hp->Prop,(∀ys' τ' H',N ys' τ' H'->∃m',m' < m/\W (i+1) m' ys' τ' H')/\∀x H',J.yld i H x H'->g x τ H' λτ2 H2 =>
   tc τ2 H2 λb H3=>if b=true then te τ2 H3 λy H4=>N (ys++[y]) τ2 H4 else N ys τ2 H3)
theorem comp_grow{X:Cx}{D:Addr}{us:List Value}{k:Nat}{pl:List (Addr×Obj)}{σ:St}{H:Hp}{s:Shared}{u:Value}{Q:Value->Shared->Prop}{E:Value->Shared->Prop}
  (I:Inv X ([(D,{ cls:=.type "list",data:=.seq us.toArray k })]++pl) σ H s) (h1:X.s₀.heap.objs.size<=D) (h2:∀x c,X.env.cells.lookup x=some c->c≠D) (h3:∀p∈X.pn++pl,p.1≠D) (hz:us.length < sizeLine)
  (h:∀k' s',Inv X ([(D,{ cls:=.type "list",data:=.seq (us++[u]).toArray k' })]++pl) σ H s'->Q .none s'):wpAny (model X.prog X.w) X.A (call (.builtin "list.append") [.ref D,u]) Q E s:=by
 obtain⟨e,hn,hL,hF,_⟩:=I.pin (D,{ cls:=.type "list",data:=.seq us.toArray k }) (G1 _ (u6 _ (A1.mpr rfl)))
 dsimp only at e hn hL hF
 have I0:Inv X pl σ H s:=I.pins_of λp hp=>I.pin p (G1 _ (G1 _ hp))
 refine call_meets F.slot_list_append ⟨_,e,rfl⟩ F.entry_list_append (F.args_list_append_2 _ _) (PySem.list_append D us.toArray k u (by rw[L0];omega)) ⟨e,?_⟩
 have q:=PySem.IsL.update e λxs=>xs.push u
 rw[show us.toArray.push u=(us++[u]).toArray by simp]at q
 have I1:Inv X pl σ H { s with heap:=s.heap.update D (S1 λxs=>xs.push u),toks:=s.toks } :=
  I0.turned (it:=D) (λb o hb ho=>(Y1 s.heap (S1 λxs=>xs.push u) (J1 hb)).trans ho) hn hL (.inr h1) h2 h3
 obtain⟨k',q⟩:∃k',(s.heap.update D (S1 λxs=>xs.push u)).get? D=some { cls:=.type "list",data:=.seq (us++[u]).toArray k' }:=⟨_,q⟩
 refine h k' _ (I1.pins_of (pins':=[(D,{ cls:=.type "list",data:=.seq (us++[u]).toArray k' })]++pl) λp hp=>?_)
 rcases Z2.mp hp with z|z
 ·have z:p=_:=A1.mp z
  subst z
  exact ⟨q,hn,hL,hF,λv z=>by cases z⟩
 ·exact I1.pin p (G1 _ z)
theorem comp_block{X:Cx}{tg iter elt:Expr}{ifs:List Expr}{sc:Scope}{pos:Pos}{own:List Str}{fr:List Nat}{g:TG}{tc:TT}{te:TE}{pins:List (Addr×Obj)}{σ:St}{H2:Hp}{s2:Shared}{it:Addr}{fp:List Addr}{tn:Nat->Heap->Prop}{J:It}{Q:VK}{E:Value->Shared->Prop}
  {RR:Value->Addr->Result->Shared->Prop}
  (hc:X.calm=true) (S:CompSc X own fr sc) (I2:Inv X pins σ H2 s2) (T:Turn X.prog X.w X.K tg J fp it tn) (st2:tn 0 s2.heap) (f2:∀b∈fp,FpOk X pins H2 b)
  (hg:∀C ex,PG (cxComp X own fr sc C s2 H2 ex) tg g) (hif:∀C ex,PIf (cxComp X own fr sc C s2 H2 ex) ifs tc) (he:∀C ex,PE (cxComp X own fr sc C s2 H2 ex) elt te)
  (W:Nat->Nat->List V->St->Hp->Prop) (m0:Nat) (w0:W 0 m0 [] (st0 own σ fr) H2)
  (turn:∀i m ys τ H,W i m ys τ H->(J.stop i H/\∀D,H D=none->Q (.ref D) (upd H D (.lst ys))) \/
    (J.go i H/\ys.length < sizeLine/\∃N:List V->St->Hp->Prop,(∀ys' τ' H',N ys' τ' H'->∃m',m' < m/\W (i+1) m' ys' τ' H')/\∀x H',J.yld i H x H'->g x τ H' λτ2 H2 =>
      tc τ2 H2 λb H3=>if b=true then te τ2 H3 λy H4=>N (ys++[y]) τ2 H4 else N ys τ2 H3))
  (hRR:∀D C H s',Inv X pins σ H s'->Q (.ref D) H->(∃m,s'.heap.Ns C m)->FpOk X pins H C->RR (.ref D) C (.ok .next) s') :
  wpAny (model X.prog X.w) X.A (newList []) (λacc s₃=>wpAny (model X.prog X.w) X.A (newFunctionEnv sc X.env.globals (clOf X.env.cells sc.names []) [] X.env.qual none .none (some X.env)) (λcenv s₄ =>
    codeAny (model X.prog X.w) X.A (.compStart (.ListComp elt [⟨tg,iter,ifs,0⟩] sc pos) 0 (.ref it) acc { cenv with scope:=relabel sc X.env }) (RR acc cenv.locals) s₄) E s₃) E s2:=by
 refine wpAny_newObj_type (wpAny_newEnvComp ?_)
 dsimp only
 generalize hH2:s2.heap.push { cls:=.type "list",dict:=none,data:=.seq ([]:List Value).toArray }=G
 generalize hh1:pushCells (G.push { cls:=.type "dict",data:=.dict #[] }) sc.names=h₁
 have kp:∀b o,(G.push { cls:=.type "dict",data:=.dict #[] }).get? b=some o->h₁.get? b=some o:=λb o e=>hh1 ▸ pushCells_keeps _ _ b o e
 have hns₁:h₁.Ns G.objs.size λx=>([]:List (Str×Value)).reverse.lookup x:=(Heap.Ns.new G (.type "dict")).keeps kp
 have cok:CellsOk h₁ (G.objs.size+1) (cellsFrom (G.objs.size+1) sc.names []):=by
  have:=cellsFrom_ok sc.names (G.push { cls:=.type "dict",data:=.dict #[] }) (G.objs.size+1) [] ⟨λ_ _ hm=>(nomatch hm),List.Pairwise.nil⟩ (by rw[L1];exact N0 _)
  rw[L1,hh1]at this
  exact this
 have hC:G.objs.size=s2.heap.objs.size+1:=by rw[<- hH2,L1]
 have hCle:s2.heap.objs.size<=G.objs.size:=by rw[hC];exact V6 _
 have hDC:s2.heap.objs.size≠G.objs.size:=by rw[hC];exact S0 (Nat.lt_succ_self _)
 have old:∀b o,s2.heap.get? b=some o->h₁.get? b=some o:=λb o e=>kp b o (i0 _ (hH2 ▸ i0 _ e))
 have hacc:h₁.get? s2.heap.objs.size=some { cls:=.type "list",data:=.seq ([]:List Value).toArray }:=kp _ _ (i0 _ (hH2 ▸ K0 _ rfl))
 have st0':tn 0 h₁:=T.keep _ _ _ st2 λb hb o e=>old b o e
 have fo:∀b∈fp,∃o,s2.heap.get? b=some o:=λb hb=>let ⟨o,e,_⟩:=T.obj _ _ st2 b hb;⟨o,e⟩
 have flt:∀b∈fp,b < s2.heap.objs.size:=λb hb=>by obtain⟨o,e⟩:=fo b hb;exact B0 e
 have clb:∀x c,(clOf X.env.cells sc.names []).lookup x=some c->X.env.cells.lookup x=some c:=λx c e=>by
  rcases clOf_lookup (λy hy e=>I2.ok.has y.1 (S.free y hy e)) e with z|z
  ·simp at z
  ·exact z
 have clb2:∀(C':Addr) x c,(cellsFrom (C'+1) sc.names (clOf X.env.cells sc.names [])).lookup x=some c->C'+1<=c\/X.env.cells.lookup x=some c:=λC' x c e=>by
  rw[cf_app,lookup_app]at e
  cases q:(cellsFrom (C'+1) sc.names []).lookup x with
  | none=>rw[q]at e;exact .inr (clb x c e)
  | some c'=>rw[q]at e;cases e;exact .inl (cf_mem _ _ (PySem.mem_of_lookup q)).2
 have stt:∀C':Addr,s2.heap.objs.size<=C'->∀{H':Hp}{pl:List (Addr×Obj)},(∀b∈fp,H' b=none)->(∀p∈pl,s2.heap.objs.size<=p.1)->∀b∈fp,FpOk (cxComp X own fr sc C' s2 H2 fp) pl H' b:=λC' hC' H' pl hn hp b hb=>by
  have I0:=f2 b hb
  refine ⟨hn b hb,S0 (O0 (flt b hb) hC'),λhm=>?_,.inl hb,λx c e=>by
      rcases clb2 C' x c e with z|z
      · exact j1 (O0 (flt b hb) (O1 hC' (S4 z)))
      · exact I0.2.2.2.2.1 x c z,λp hp'=>?_⟩
  ·rcases B1.mp (I2.stkSub b hm) with z|z
   ·exact I0.2.1 z
   ·exact I0.2.2.1 z
  ·have hp':p∈pl:=by
    have:p∈([]:List (Addr×Obj))++pl:=hp'
    simpa using this
   exact j1 (O0 (flt b hb) (hp p hp'))
 have loop:∀s₃:Shared,s₃={ s2 with heap:=h₁,toks:=s2.toks } ->
   codeAny (model X.prog X.w) X.A (.compLoop (.ListComp elt [⟨tg,iter,ifs,0⟩] sc pos) 0 (.ref it) (.ref s2.heap.objs.size) (compEnvC sc (cellsFrom (G.objs.size+1) sc.names (clOf X.env.cells sc.names [])) G.objs.size X.env))
    (RR (.ref s2.heap.objs.size) G.objs.size) s₃:=by
  rintro s₃ rfl
  have I3:=comp_start (own:=own) (fr:=fr) (tk:=s2.toks) S I2 f2 fo hCle (N0 _) hDC hns₁ old (λx c h=>(cok.empty x c h).1) cok.apart hacc (λv z=>by cases z)
  refine codeAny_compLoop_any (λn s'=>∃i H' ys us k τ,Inv (cxComp X own fr sc G.objs.size s2 H2 fp) [(s2.heap.objs.size,{ cls:=.type "list",data:=.seq us.toArray k })] τ H' s'/\tn i s'.heap/\(∀b∈fp,H' b=none)/\Vals ys us/\ys.length<=sizeLine/\W i n ys τ H') ?_ m0
   ⟨0,H2,[],[],0,_,I3,st0',λb hb=>(f2 b hb).1,.nil,B4 _,w0⟩
  rintro n s4 ⟨i,H4,ys,us,k,τ,I4,st4,fr4,rv4,hz4,w4⟩
  have hp4:∀p∈[(s2.heap.objs.size,({ cls:=.type "list",data:=.seq us.toArray k }:Obj))],s2.heap.objs.size<=p.1:=λp hp=>by
   rw[A1.mp hp]
   exact N0 _
  rcases turn i n ys τ H4 w4 with⟨stop,qn⟩|⟨go,hlt,N,hN,step⟩
  ·refine thn (T.done (cxComp X own fr sc G.objs.size s2 H2 fp) rfl rfl rfl hc i _ s4 _ H4 (λ_ _=>False) I4 (stt _ hCle fr4 hp4) st4 stop) λr s5 ⟨hr,I5⟩=>?_
   subst hr
   obtain⟨a1,a2,a3⟩:=comp_end I2 f2 hCle (N0 _) hDC I5 rfl rv4 hz4
   exact hRR _ _ _ s5 a1 (qn _ (I5.pin _ (G1 _ (A1.mpr rfl))).2.1) a2 a3
  ·refine thn (T.item (cxComp X own fr sc G.objs.size s2 H2 fp) rfl rfl rfl hc i _ s4 _ H4 (λ_ _=>False) I4 (stt _ hCle fr4 hp4) st4 go) λr s5 ⟨u,hr,h5⟩=>?_
   subst hr
   refine thn h5 λ_ s6 ⟨x,H6,I6,r6,y6,st6,fr6⟩=>?_
   have I6':=I6.pinned (stt _ hCle fr6 hp4) (T.obj _ _ st6)
   refine thn (hg G.objs.size fp _ s6 _ H6 x u _ I6' r6 (step x H6 y6)) λ_ s7 ⟨σ7,H7,I7,q7⟩=>?_
   refine thn (hif G.objs.size fp _ s7 σ7 H7 _ I7 q7) λb s8 ⟨H8,I8,q8⟩=>?_
   have again:∀{s9:Shared}{H9:Hp}{ys':List V}{us':List Value}{k':Nat},Inv (cxComp X own fr sc G.objs.size s2 H2 fp) ([(s2.heap.objs.size,{ cls:=.type "list",data:=.seq us'.toArray k' })]++pinsAt fp s6.heap) σ7 H9 s9->Vals ys' us'->ys'.length<=sizeLine->N ys' σ7 H9 ->
     ∃m,m < n/\∃i H' ys us k τ,Inv (cxComp X own fr sc G.objs.size s2 H2 fp) [(s2.heap.objs.size,{ cls:=.type "list",data:=.seq us.toArray k })] τ H' s9/\tn i s9.heap/\(∀b∈fp,H' b=none)/\Vals ys us/\ys.length<=sizeLine/\W i m ys τ H':=λ{s9 H9 ys' us' k'} I9 rv9 hz9 n9=>by
    obtain⟨m',hm,w9⟩:=hN ys' σ7 H9 n9
    refine ⟨m',hm,i+1,H9,ys',us',k',σ7,I9.unpinned,T.keep _ _ _ st6 λb hb o e=>(I9.pin (b,o) (G1 _ (G1 _ (mem_pinsAt hb e)))).1,λb hb=>?_,rv9,hz9,w9⟩
    obtain⟨o,e,d⟩:=T.obj _ _ st6 b hb
    exact (I9.pin (b,o) (G1 _ (G1 _ (mem_pinsAt hb e)))).2.1
   cases b with
   | false =>
    rw[if_neg T0]at q8 ⊢
    exact again I8 rv4 hz4 q8
   | true =>
    rw[if_pos rfl]at q8 ⊢
    refine thn (he G.objs.size fp _ s8 σ7 H8 _ I8 q8) λy s9 ⟨yv,H9,I9,r9,n9⟩=>?_
    refine comp_grow (X:=cxComp X own fr sc G.objs.size s2 H2 fp) I9 (N0 _) (λx c e z=>?_) (λp hp z=>?_) (by rw[<- rv4.length];exact hlt) λk' s10 I10=>?_
    ·rcases clb2 _ x c e with y|y
     ·rw[z]at y
      exact absurd (O0 (Nat.lt_succ_of_le hCle) y) (X1 _)
     ·obtain⟨v,q⟩:=I2.cell x c y
      exact absurd (O0 q.lt (by rw[z];exact N0 _)) (X1 _)
    ·have hp:p∈([]:List (Addr×Obj))++pinsAt fp s6.heap:=hp
     rw[List.nil_append]at hp
     have:=flt _ (of_pinsAt hp).1
     rw[z]at this
     exact absurd this (X1 _)
    ·exact again I10 (rv4.append (.cons r9 .nil)) (by rw[Z0,A3];omega) n9
 exact codeAny_compStart_list (loop _ rfl) (T.self _ 0 _ _ _ st0' (loop _ rfl))
theorem pe_comp{X:Cx}{tg iter elt:Expr}{ifs:List Expr}{sc:Scope}{pos:Pos}{own:List Str}{fr:List Nat}{wi:TI}{g:TG}{tc:TT}{te:TE}(hc:X.calm=true)(S:CompSc X own fr sc)(hi:PI X tg iter wi)
  (hg:∀C s H ex,PG (cxComp X own fr sc C s H ex) tg g) (hif:∀C s H ex,PIf (cxComp X own fr sc C s H ex) ifs tc) (he:∀C s H ex,PE (cxComp X own fr sc C s H ex) elt te)
  (hs:∀x,foldedSetIterable iter X.env x=pure x:=by intro _;rfl):PE X (.ListComp elt [⟨tg,iter,ifs,0⟩] sc pos) (tComp wi own fr g tc te):=by
 intro pins s σ H Q I h
 rw[eval_ListComp]
 refine wpAny_comprehension_free (use:=none) rfl hs (closure_of λy hy e=>I.ok.has y.1 (S.free y hy e)) S.kind S.loc (thn (hi pins s σ H _ I h) λv s1 h1=>thn h1 λitv s2 h2=>?_)
 obtain⟨it,fp,tn,J,H2,e,I2,T,st2,f2,W,⟨m0,w0⟩,turn⟩:=h2
 subst e
 refine comp_block (Q:=Q) (RR:=λacc C=>compPost (model X.prog X.w) X.A X.xe none (EP X pins σ Q) acc C) hc S I2 T st2 f2 (λC ex=>hg C s2 H2 ex) (λC ex=>hif C s2 H2 ex) (λC ex=>he C s2 H2 ex) W m0 w0 turn ?_
 intro D C H' s' I' q ⟨m,hm⟩ fC
 refine ⟨m,hm,λh' sb=>⟨.ref D,H',?_,rfl,q⟩⟩
 obtain⟨f0,f1,f2,f3,f4,f5⟩:=fC
 exact I'.turned (t':=s'.toks) (λb o hb e=>(sb.2 b hb).trans e) f0 f1 f3 f4 f5
theorem ps_setComp{X:Cx}{tg iter elt:Expr}{ifs:List Expr}{sc:Scope}{pos spos py:Pos}{i:Nat}{y:Str}{own:List Str}{fr:List Nat}{wi:TI}{g:TG}{tc:TT}{te:TE}(hN:X.N.Nodup)(hy:X.N[i]?=some y)(hl:X.env.scope.names.lookup y=some .local)(hc:X.calm=true)(S:CompSc X own fr sc)(hi:PI X tg iter wi)
  (hg:∀C s H ex,PG (cxComp X own fr sc C s H ex) tg g) (hif:∀C s H ex,PIf (cxComp X own fr sc C s H ex) ifs tc) (he:∀C s H ex,PE (cxComp X own fr sc C s H ex) elt te)
  (hsw:swapsWith (.ListComp elt [⟨tg,iter,ifs,0⟩] sc pos) (some (.Name y py)) spos.line X.env=pure true:=by rfl)
  (hs:∀x,foldedSetIterable iter X.env x=pure x:=by intro _;rfl):PS X (.Assign [.Name y py] (.ListComp elt [⟨tg,iter,ifs,0⟩] sc pos) spos) (tAsg (tComp wi own fr g tc te) (gName i)):=by
 intro pins s σ H D I h
 rw[exec_Assign_Name_used _ _ _ _ hsw]
 refine wpAny_bind (wpAny_standAt ?_)
 show wpAny _ _ (evalThenUse (.ListComp elt [⟨tg,iter,ifs,0⟩] sc pos) X.env _ >>= _) _ _ s
 refine wpAny_bind ?_
 unfold evalThenUse
 refine wpAny_bind ?_
 refine wpAny_comprehension_free rfl hs (closure_of λy hy e=>I.ok.has y.1 (S.free y hy e)) S.kind S.loc (thn (hi pins s σ H _ I h) λv s1 h1=>thn h1 λitv s2 h2=>?_)
 obtain⟨it,fp,tn,J,H2,e,I2,T,st2,f2,W,⟨m0,w0⟩,turn⟩:=h2
 subst e
 refine comp_block (Q:=λv H1=>D.nx (σ.set i (some v)) H1) hc S I2 T st2 f2 (λC ex=>hg C s2 H2 ex) (λC ex=>hif C s2 H2 ex) (λC ex=>he C s2 H2 ex) W m0 w0 turn ?_
 intro D' C H' s' I' q ⟨m,hm⟩ fC
 obtain⟨f0,f1,f2,f3,f4,f5⟩:=fC
 show wpAny (model X.prog X.w) X.A (assign (.Name y py) X.env (.ref D')) (λ_ s''=>∃m,s''.heap.Ns C m/\∀h',Y4 C s''.heap h'->_) X.xe s'
 refine wpAny_assign_Name (store_ok2 I' hN hy (.inl hl) (v:=.ref D') rfl (λs'' I'' hsb=>?_) (.inr hl))
 obtain⟨a,hsb,ha⟩:=hsb
 have hCa:C≠a:=by
  rcases ha with z|z
  ·rw[z];exact f1
  ·exact λe=>f4 y a z e.symm
 obtain⟨m',hm'⟩:∃m',s''.heap.Ns C m':=⟨m,hm.sameBut hsb hCa⟩
 refine ⟨m',hm',λh' sb=>wpAny_pure (wpAny_pure ⟨_,H',?_,q⟩)⟩
 exact I''.turned (t':=s''.toks) (λb o hb e=>(sb.2 b hb).trans e) f0 f1 f3 f4 f5
inductive Kd where|l|t
noncomputable def ItAt(k:Kd)(h:Heap)(it a:Addr)(i:Nat):Prop:=match k with | .l=>h.IsListIter it a i | .t=>h.IsTupleIter it a i
noncomputable def SqAt(k:Kd)(h:Heap)(a:Addr)(xs:Array Value):Prop:=match k with | .l=>h.IsList a xs | .t=>h.IsTuple a xs
noncomputable def itObj(k:Kd)(a:Addr):Obj:=match k with | .l=>{ cls:=.type "list_iterator",data:=.fields #[.ref a,.int 0 0] } | .t=>{ cls:=.type "tuple_iterator",data:=.fields #[.ref a,.int 0 0] }
theorem ItAt.at{k:Kd}{h h':Heap}{it a:Addr}{i:Nat}(x:ItAt k h it a i)(f:∀o,h.get? it=some o->h'.get? it=some o):ItAt k h' it a i:=by
 cases k with
 | l=>exact Heap.IsListIter.at x f
 | t=>exact Heap.IsTupleIter.at x f
theorem SqAt.at{k:Kd}{h h':Heap}{a:Addr}{xs:Array Value}(x:SqAt k h a xs)(f:∀o,h.get? a=some o->h'.get? a=some o):SqAt k h' a xs:=by
 cases k with
 | l=>exact Heap.IsList.at x f
 | t=>obtain⟨o,e,r⟩:=x;exact ⟨o,f o e,r⟩
theorem ItAt.obj{k:Kd}{h:Heap}{it a:Addr}{i:Nat}(x:ItAt k h it a i):∃o,h.get? it=some o/\∀v,o.data≠.cell v:=by
 cases k with
 | l=>obtain⟨o,e,c,d⟩:=x;exact ⟨o,e,λv z=>by rw[d]at z;cases z⟩
 | t=>obtain⟨o,e,c,d⟩:=x;exact ⟨o,e,λv z=>by rw[d]at z;cases z⟩
theorem ItAt.new(k:Kd){h:Heap}{it a:Addr}(e:h.get? it=some (itObj k a)):ItAt k h it a 0:=by
 cases k with
 | l=>exact ⟨_,e,rfl,rfl⟩
 | t=>exact ⟨_,e,rfl,rfl⟩
section
variable {prog:Program}{w:World}{A:Around}{E:Value->Shared->Prop}{s:Shared}
theorem iter_at{k:Kd}{a:Addr}{xs:Array Value}{Q:Value->Shared->Prop}(hl:SqAt k s.heap a xs)(h:Q (.ref s.heap.objs.size) { s with heap:=s.heap.push (itObj k a) }):wpAny (model prog w) A (pyIter (.ref a)) Q E s:=by
 cases k with
 | l=>exact wpAny_pyIter_list hl h
 | t=>exact wpAny_pyIter_tuple hl h
theorem nextOf_tuple_item{it t:Addr}{i:Nat}{items}{x:Value}{Q:Value->Shared->Prop}(hit:s.heap.IsTupleIter it t i)(ht:s.heap.IsTuple t items)(hx:items[i]?=some x)
  (hQ:∀h',h'.IsTupleIter it t (i+1)->Y4 it s.heap h'->Q x { s with heap:=h' }):wpAny (model prog w) A (R0 (.ref it)) Q E s:=by
 obtain⟨o,ho,hc,hd⟩:=id hit
 obtain⟨ol,hol,_,nl,hdl⟩:=ht
 unfold R0
 refine wpAny_bind (wpAny_callSpecial?_slot (name:=Str.ofString "__next__") hit.typeIs F.slot_tuple_iterator_next
   (wpAny_call_entry F.slot_tuple_iterator_next hit.typeIs F.entry_tuple_iterator_next ?_ (F.args_tuple_iterator_next_1 _)))
 show wpAny _ _ (field (.ref it) 0 >>= _) _ _ s
 refine wpAny_bind (wpAny_field ho hd (x:=.ref t) rfl ?_)
 show wpAny _ _ (if (G2 t==A5)=true then _ else _) _ _ s
 rw[if_neg (show ¬((G2 t==A5)=true) from T0)]
 show wpAny _ _ (field (.ref it) 1 >>= _) _ _ s
 refine wpAny_bind (wpAny_field ho hd (x:=.int i 0) rfl ?_)
 show wpAny _ _ (seqItems? (.ref t) >>= _) _ _ s
 refine wpAny_bind (wpAny_seqItems hol hdl ?_)
 simp only[T4,hx]
 refine wpAny_bind (wpAny_setField ho hd (by simp) (wpAny_pure ⟨x,rfl,wpAny_pure (hQ _ ?_ (M5 ..))⟩))
 exact ⟨_,J2 _ ho (Obj.isFreed_of_fields (Obj.data_mapFields hd _)),(Obj.cls_mapFields ..).trans hc,by
   rw[Obj.data_mapFields hd];simp[rawInt]⟩
theorem nextOf_tuple_end{it l:Addr}{i:Nat}{items}{Q:Value->Shared->Prop}(hh:A.handled=none)
  (hit:s.heap.IsTupleIter it l i) (hl:s.heap.IsTuple l items) (hx:items[i]?=none)
  (hE:∀h' e,Heap.ExtBut it s.heap h'->(∃o,h'.get? e=some o/\o.cls=.type "StopIteration")->E (.ref e) { s with heap:=h' }) :
  wpAny (model prog w) A (R0 (.ref it)) Q E s:=by
 obtain⟨o,ho,hc,hd⟩:=id hit
 obtain⟨ol,hol,_,nl,hdl⟩:=hl
 unfold R0
 refine wpAny_bind (wpAny_callSpecial?_slot (name:=Str.ofString "__next__") hit.typeIs F.slot_tuple_iterator_next
   (wpAny_call_entry F.slot_tuple_iterator_next hit.typeIs F.entry_tuple_iterator_next ?_ (F.args_tuple_iterator_next_1 _)))
 show wpAny _ _ (field (.ref it) 0 >>= _) _ _ s
 refine wpAny_bind (wpAny_field ho hd (x:=.ref l) rfl ?_)
 show wpAny _ _ (if (G2 l==A5)=true then _ else _) _ _ s
 rw[if_neg (show ¬((G2 l==A5)=true) from T0)]
 show wpAny _ _ (field (.ref it) 1 >>= _) _ _ s
 refine wpAny_bind (wpAny_field ho hd (x:=.int i 0) rfl ?_)
 show wpAny _ _ (seqItems? (.ref l) >>= _) _ _ s
 refine wpAny_bind (wpAny_seqItems hol hdl ?_)
 simp only[T4,hx]
 refine wpAny_bind (wpAny_rule (wpAny_bind (wpAny_setField ho hd (by simp) ?_)))
 show wpAny _ _ (newExc (.type "StopIteration") [] >>= _) _ _ _
 refine wpAny_bind ?_
 simp only[newExc,newTuple]
 refine wpAny_bind (wpAny_newObj_type ?_ (by size_fits))
 refine wpAny_bind (m:=firstArgMember _ _) (wpAny_of_eq (a:=A5) (by first|rfl|(simp only[firstArgMember];rfl)) ?_)
 refine wpAny_newObj_type ?_ (by size_fits)
 simp only[raiseNew]
 refine wpAny_bind (wpAny_handled ?_)
 first|rw[show A.in1.handled=none from hh]|rw[hh]
 refine wpAny_bind (wpAny_pure (wpAny_throw ?_))
 exact hE _ _ (((M5 ..).extBut.push _).push _) ⟨_,K0 _ rfl,rfl⟩
theorem nextOf_item{k:Kd}{it a:Addr}{i:Nat}{xs:Array Value}{x:Value}{Q:Value->Shared->Prop}(hit:ItAt k s.heap it a i)(hl:SqAt k s.heap a xs)(hx:xs[i]?=some x)
  (hQ:∀h',ItAt k h' it a (i+1)->Y4 it s.heap h'->Q x { s with heap:=h' }):wpAny (model prog w) A (R0 (.ref it)) Q E s:=by
 cases k with
 | l=>exact wpAny_nextOf_list_item hit hl hx hQ
 | t=>exact nextOf_tuple_item hit hl hx hQ
theorem nextOf_end{k:Kd}{it a:Addr}{i:Nat}{xs:Array Value}{Q:Value->Shared->Prop}(hh:A.handled=none)(hit:ItAt k s.heap it a i)(hl:SqAt k s.heap a xs)(hx:xs[i]?=none)
  (hE:∀h' e,Heap.ExtBut it s.heap h'->(∃o,h'.get? e=some o/\o.cls=.type "StopIteration")->E (.ref e) { s with heap:=h' }):wpAny (model prog w) A (R0 (.ref it)) Q E s:=by
 cases k with
 | l=>exact wpAny_nextOf_list_end hh hit hl hx hE
 | t=>exact nextOf_tuple_end hh hit hl hx hE
end
noncomputable abbrev IsTup2(h:Heap)(T:Addr)(a1 a2:Value):Prop:=h.get? T=some { cls:=.type "tuple",data:=.seq #[a1,a2] }
structure ZAp2(z TI TO i1 i2 l1 l2:Addr):Prop where
 TIz:TI≠z
 TOz:TO≠z
 i1z:i1≠z
 i2z:i2≠z
 TOTI:TO≠TI
 i1TI:i1≠TI
 i2TI:i2≠TI
 i1TO:i1≠TO
 i2TO:i2≠TO
 i2i1:i2≠i1
 l1z:l1≠z
 l1TO:l1≠TO
 l1i1:l1≠i1
 l1i2:l1≠i2
 l2z:l2≠z
 l2TO:l2≠TO
 l2i1:l2≠i1
 l2i2:l2≠i2
theorem zap2(n l1 l2:Nat)(h1:l1 < n)(h2:l2 < n):ZAp2 (n+4) (n+2) (n+3) n (n+1) l1 l2:=by constructor<;>(show ¬(@Eq Nat _ _))<;>omega
section
variable {prog:Program}{w:World}{A:Around}{E:Value->Shared->Prop}{s:Shared}
theorem upSeq2{T:Addr}{a1 a2 x:Value}{k:Nat}{Q:Unit->Shared->Prop}(hT:IsTup2 s.heap T a1 a2)
  (h:∀h',h'.get? T=some { cls:=.type "tuple",data:=.seq ((#[a1,a2]:Array Value).setIfInBounds k x) }->Y4 T s.heap h'->Q () { s with heap:=h' }) :
  wpAny (model prog w) A (updateSeq T (·.setIfInBounds k x)) Q E s:=by
 refine wpAny_updateSeq hT rfl (h _ ?_ (M5 ..))
 rw[J2 _ hT rfl]
 simp[S1]
theorem zipn_item2{z TI TO i1 i2 l1 l2:Addr}{k:Nat}{k1:Kd}{k2:Kd}{xs1 xs2:Array Value}{a1 a2:Value}{x1 x2:Value}{Q:Value->Shared->Prop}(D:ZAp2 z TI TO i1 i2 l1 l2)
  (hz:IsZip s.heap z TI TO .none) (hTI:IsTup2 s.heap TI (.ref i1) (.ref i2)) (hTO:IsTup2 s.heap TO a1 a2)
  (h1:ItAt k1 s.heap i1 l1 k) (h2:ItAt k2 s.heap i2 l2 k) (hl1:SqAt k1 s.heap l1 xs1) (hl2:SqAt k2 s.heap l2 xs2) (hx1:xs1[k]?=some x1) (hx2:xs2[k]?=some x2)
  (hQ:∀h',IsZip h' z TI TO (rawInt s.heap.objs.size)->IsTup2 h' TO x1 x2->ItAt k1 h' i1 l1 (k+1)->ItAt k2 h' i2 l2 (k+1)->IsTup2 h' s.heap.objs.size x1 x2->h'.objs.size=s.heap.objs.size+1 ->
    (∀c o,c≠z->c≠TO->c≠i1->c≠i2->s.heap.get? c=some o->h'.get? c=some o)->Q (.ref s.heap.objs.size) { s with heap:=h' }) :
  wpAny (model prog w) A (Builtin.«zip.__next__» ⟨[.ref z],[]⟩) (λfin s'=>∃v,fin=.done (.ret v)/\Q v s') E s:=by
 show wpAny _ _ (field (.ref z) 2 >>= _) _ _ _
 refine wpAny_bind (wpAny_field hz rfl (x:=.bool false) rfl ?_)
 show wpAny _ _ (field (.ref z) 3 >>= _) _ _ _
 refine wpAny_bind (wpAny_field hz rfl (x:=.ref TI) rfl ?_)
 refine wpAny_bind (wpAny_seqItems hTI rfl ?_)
 show wpAny _ _ (V0 (.ref z) >>= _) _ _ _
 refine wpAny_bind ?_
 unfold V0
 refine wpAny_bind (wpAny_field hz rfl (x:=.none) rfl (wpAny_pure ?_))
 simp only[if_true]
 refine wpAny_bind (wpAny_rule ?_)
 refine wpAny_bind (wpAny_field hz rfl (x:=.ref TO) rfl ?_)
 refine wpAny_bind (wpAny_setField_rec hz (by simp) λh₁ hz₁ hs₁=>?_)
 replace hz₁:IsZip h₁ z TI TO .ellipsis:=hz₁
 refine wpAny_bind ?_
 simp only[e6,v6,j4,G4]
 have up₁:∀c o,c≠z->s.heap.get? c=some o->h₁.get? c=some o:=λc o c1 e=>hs₁.extBut _ _ c1 e
 refine wpAny_bind (wpAny_bind (wpAny_onRaise ?_))
 show wpAny _ _ (R0 (.ref i1) >>= _) _ _ _
 refine wpAny_bind (nextOf_item (h1.at λo e=>hs₁.extBut _ o D.i1z e) (hl1.at λo e=>hs₁.extBut _ o D.l1z e) hx1 λha1 hi1 hsa1=>wpAny_pure ?_)
 have hTOa1:IsTup2 ha1 TO a1 a2:=hsa1.extBut _ _ D.i1TO.symm (hs₁.extBut _ _ D.TOz hTO)
 refine wpAny_bind (wpAny_seqItems hTOa1 rfl ?_)
 refine wpAny_bind (upSeq2 hTOa1 λhb1 hTOb1 hsb1=>?_)
 replace hTOb1:IsTup2 hb1 TO x1 a2:=hTOb1
 refine wpAny_bind (wpAny_letGo (wpAny_pure ?_))
 refine wpAny_bind (wpAny_bind (wpAny_onRaise ?_))
 show wpAny _ _ (R0 (.ref i2) >>= _) _ _ _
 refine wpAny_bind (nextOf_item (((h2.at λo e=>hs₁.extBut _ o D.i2z e).at λo e=>hsa1.extBut _ o D.i2i1 e).at λo e=>hsb1.extBut _ o D.i2TO e) (((hl2.at λo e=>hs₁.extBut _ o D.l2z e).at λo e=>hsa1.extBut _ o D.l2i1 e).at λo e=>hsb1.extBut _ o D.l2TO e) hx2 λha2 hi2 hsa2=>wpAny_pure ?_)
 have hTOa2:IsTup2 ha2 TO x1 a2:=hsa2.extBut _ _ D.i2TO.symm hTOb1
 refine wpAny_bind (wpAny_seqItems hTOa2 rfl ?_)
 refine wpAny_bind (upSeq2 hTOa2 λhb2 hTOb2 hsb2=>?_)
 replace hTOb2:IsTup2 hb2 TO x1 x2:=hTOb2
 refine wpAny_bind (wpAny_letGo (wpAny_pure (wpAny_pure ?_)))
 refine wpAny_bind (wpAny_seqItems hTOb2 rfl ?_)
 refine wpAny_bind (wpAny_newTuple ?_)
 have hsz:hb2.objs.size=s.heap.objs.size:=by rw[hsb2.1,hsa2.1,hsb1.1,hsa1.1,hs₁.1]
 have hzG:IsZip hb2 z TI TO .ellipsis:=(hsb2.extBut _ _ D.TOz.symm (hsa2.extBut _ _ D.i2z.symm (hsb1.extBut _ _ D.TOz.symm (hsa1.extBut _ _ D.i1z.symm hz₁))))
 have hkG:∀c o,c≠z->c≠TO->c≠i1->c≠i2->s.heap.get? c=some o->hb2.get? c=some o:=λc o c1 c2 d1 d2 e=>(hsb2.extBut _ _ c2 (hsa2.extBut _ _ d2 (hsb1.extBut _ _ c2 (hsa1.extBut _ _ d1 (hs₁.extBut _ _ c1 e)))))
 have hiG1:ItAt k1 hb2 i1 l1 (k+1):=(((hi1.at λo e=>hsb1.extBut _ o D.i1TO e).at λo e=>hsa2.extBut _ o D.i2i1.symm e).at λo e=>hsb2.extBut _ o D.i1TO e)
 have hiG2:ItAt k2 hb2 i2 l2 (k+1):=(hi2.at λo e=>hsb2.extBut _ o D.i2TO e)
 have hzlt:z < hb2.objs.size:=B0 hzG
 show wpAny _ _ (M3 (.ref z) (.ref hb2.objs.size) >>= _) _ _ _
 refine wpAny_bind ?_
 unfold M3
 have hz₆:IsZip (hb2.push { cls:=.type "tuple",data:=.seq #[x1,x2] }) z TI TO .ellipsis:=i0 _ hzG
 refine wpAny_bind (wpAny_setField_rec hz₆ (by simp) λh₇ hz₇ hs₇=>?_)
 replace hz₇:IsZip h₇ z TI TO (rawInt hb2.objs.size):=hz₇
 refine wpAny_setField_rec hz₇ (by simp) λh₈ hz₈ hs₈=>?_
 replace hz₈:IsZip h₈ z TI TO (rawInt hb2.objs.size):=hz₈
 have up:∀c o,c≠z->hb2.get? c=some o->h₈.get? c=some o:=λc o c1 e=>hs₈.extBut _ _ c1 (hs₇.extBut _ _ c1 (i0 _ e))
 have hT₈:IsTup2 h₈ hb2.objs.size x1 x2:=hs₈.extBut _ _ (j1 hzlt) (hs₇.extBut _ _ (j1 hzlt) (K0 _ rfl))
 have hz8:h₈.objs.size=hb2.objs.size+1:=by rw[hs₈.1,hs₇.1,L1]
 rw[hsz]at hz₈ hT₈ hz8
 refine wpAny_pure ⟨_,rfl,?_⟩
 show Q (.ref hb2.objs.size) _
 rw[hsz]
 exact hQ h₈ hz₈ (up _ _ D.TOz hTOb2) (hiG1.at λo e=>up _ o D.i1z e) (hiG2.at λo e=>up _ o D.i2z e) hT₈ hz8 λc o c1 c2 d1 d2 e=>up c o c1 (hkG c o c1 c2 d1 d2 e)
theorem zipn_end2{z TI TO i1 i2 l1 l2:Addr}{k:Nat}{k1:Kd}{k2:Kd}{xs1 xs2:Array Value}{a1 a2:Value}{Q:Fin->Shared->Prop}(hh:A.handled=none)(D:ZAp2 z TI TO i1 i2 l1 l2)
  (hz:IsZip s.heap z TI TO .none) (hTI:IsTup2 s.heap TI (.ref i1) (.ref i2)) (hTO:IsTup2 s.heap TO a1 a2)
  (h1:ItAt k1 s.heap i1 l1 k) (h2:ItAt k2 s.heap i2 l2 k) (hl1:SqAt k1 s.heap l1 xs1) (hl2:SqAt k2 s.heap l2 xs2) (hend:xs1[k]?=none\/xs2[k]?=none)
  (hE:∀h' e,(∀c o,c≠z->c≠TO->c≠i1->c≠i2->s.heap.get? c=some o->h'.get? c=some o)->(∃o,h'.get? e=some o/\o.cls=.type "StopIteration")->E (.ref e) { s with heap:=h' }) :
  wpAny (model prog w) A (Builtin.«zip.__next__» ⟨[.ref z],[]⟩) Q E s:=by
 show wpAny _ _ (field (.ref z) 2 >>= _) _ _ _
 refine wpAny_bind (wpAny_field hz rfl (x:=.bool false) rfl ?_)
 show wpAny _ _ (field (.ref z) 3 >>= _) _ _ _
 refine wpAny_bind (wpAny_field hz rfl (x:=.ref TI) rfl ?_)
 refine wpAny_bind (wpAny_seqItems hTI rfl ?_)
 show wpAny _ _ (V0 (.ref z) >>= _) _ _ _
 refine wpAny_bind ?_
 unfold V0
 refine wpAny_bind (wpAny_field hz rfl (x:=.none) rfl (wpAny_pure ?_))
 simp only[if_true]
 refine wpAny_bind (wpAny_rule ?_)
 refine wpAny_bind (wpAny_field hz rfl (x:=.ref TO) rfl ?_)
 refine wpAny_bind (wpAny_setField_rec hz (by simp) λh₁ hz₁ hs₁=>?_)
 replace hz₁:IsZip h₁ z TI TO .ellipsis:=hz₁
 refine wpAny_bind ?_
 simp only[e6,v6,j4,G4]
 refine wpAny_bind (wpAny_bind (wpAny_onRaise ?_))
 show wpAny _ _ (R0 (.ref i1) >>= _) _ _ _
 cases hx1:xs1[k]? with
 | none =>
  refine wpAny_bind (nextOf_end hh (h1.at λo e=>hs₁.extBut _ o D.i1z e) (hl1.at λo e=>hs₁.extBut _ o D.l1z e) hx1 λhq e hsq he=>?_)
  obtain⟨oe,hoe,hce⟩:=he
  have hzq:IsZip hq z TI TO .ellipsis:=hsq _ _ D.i1z.symm hz₁
  have hez:e≠z:=λx=>by subst x;rw[hzq]at hoe;cases hoe;simp at hce
  refine wpAny_setField_rec hzq (by simp) λh₉ _ hs₉=>hE h₉ e (λc o c1 c2 d1 d2 x=>hs₉.extBut _ _ c1 (hsq _ _ d1 (hs₁.extBut _ _ c1 x))) ⟨oe,hs₉.extBut _ _ hez hoe,hce⟩
 | some x1 =>
  refine wpAny_bind (nextOf_item (h1.at λo e=>hs₁.extBut _ o D.i1z e) (hl1.at λo e=>hs₁.extBut _ o D.l1z e) hx1 λha1 hi1 hsa1=>wpAny_pure ?_)
  have hTOa1:IsTup2 ha1 TO a1 a2:=hsa1.extBut _ _ D.i1TO.symm (hs₁.extBut _ _ D.TOz hTO)
  refine wpAny_bind (wpAny_seqItems hTOa1 rfl ?_)
  refine wpAny_bind (upSeq2 hTOa1 λhb1 hTOb1 hsb1=>?_)
  replace hTOb1:IsTup2 hb1 TO x1 a2:=hTOb1
  refine wpAny_bind (wpAny_letGo (wpAny_pure ?_))
  refine wpAny_bind (wpAny_bind (wpAny_onRaise ?_))
  show wpAny _ _ (R0 (.ref i2) >>= _) _ _ _
  have hx2:xs2[k]?=none:=by
   rcases hend with h|h
   ·rw[hx1]at h;cases h
   ·exact h
  refine wpAny_bind (nextOf_end hh (((h2.at λo e=>hs₁.extBut _ o D.i2z e).at λo e=>hsa1.extBut _ o D.i2i1 e).at λo e=>hsb1.extBut _ o D.i2TO e) (((hl2.at λo e=>hs₁.extBut _ o D.l2z e).at λo e=>hsa1.extBut _ o D.l2i1 e).at λo e=>hsb1.extBut _ o D.l2TO e) hx2 λhq e hsq he=>?_)
  obtain⟨oe,hoe,hce⟩:=he
  have hzq:IsZip hq z TI TO .ellipsis:=hsq _ _ D.i2z.symm (hsb1.extBut _ _ D.TOz.symm (hsa1.extBut _ _ D.i1z.symm hz₁))
  have hez:e≠z:=λx=>by subst x;rw[hzq]at hoe;cases hoe;simp at hce
  refine wpAny_setField_rec hzq (by simp) λh₉ _ hs₉=>hE h₉ e (λc o c1 c2 d1 d2 x=>hs₉.extBut _ _ c1 (hsq _ _ d2 (hsb1.extBut _ _ c2 (hsa1.extBut _ _ d1 (hs₁.extBut _ _ c1 x))))) ⟨oe,hs₉.extBut _ _ hez hoe,hce⟩
theorem next_zip_item2{z TI TO i1 i2 l1 l2:Addr}{k:Nat}{k1:Kd}{k2:Kd}{xs1 xs2:Array Value}{a1 a2:Value}{x1 x2:Value}{Q:Option Value->Shared->Prop}(D:ZAp2 z TI TO i1 i2 l1 l2)
  (hz:IsZip s.heap z TI TO .none) (hTI:IsTup2 s.heap TI (.ref i1) (.ref i2)) (hTO:IsTup2 s.heap TO a1 a2)
  (h1:ItAt k1 s.heap i1 l1 k) (h2:ItAt k2 s.heap i2 l2 k) (hl1:SqAt k1 s.heap l1 xs1) (hl2:SqAt k2 s.heap l2 xs2) (hx1:xs1[k]?=some x1) (hx2:xs2[k]?=some x2)
  (hQ:∀h',IsZip h' z TI TO (rawInt s.heap.objs.size)->IsTup2 h' TO x1 x2->ItAt k1 h' i1 l1 (k+1)->ItAt k2 h' i2 l2 (k+1)->IsTup2 h' s.heap.objs.size x1 x2->h'.objs.size=s.heap.objs.size+1 ->
    (∀c o,c≠z->c≠TO->c≠i1->c≠i2->s.heap.get? c=some o->h'.get? c=some o)->Q (some (.ref s.heap.objs.size)) { s with heap:=h' }) :
  wpAny (model prog w) A (pyNext (.ref z)) Q E s:=by
 have hT:s.TypeIs (.ref z) "zip":=⟨_,hz,rfl⟩
 unfold pyNext
 exact wpAny_bind (wpAny_attempt (wpAny_callSpecial?_slot (name:=Str.ofString "__next__") hT F.slot_zip_next
   (wpAny_call_entry F.slot_zip_next hT F.entry_zip_next
     (zipn_item2 D hz hTI hTO h1 h2 hl1 hl2 hx1 hx2 λh' a1 a2 b1 b2 a5 a6 a7=>wpAny_pure (hQ h' a1 a2 b1 b2 a5 a6 a7)) (F.args_zip_next_1 _))))
theorem next_zip_end2{z TI TO i1 i2 l1 l2:Addr}{k:Nat}{k1:Kd}{k2:Kd}{xs1 xs2:Array Value}{a1 a2:Value}{Q:Option Value->Shared->Prop}(hh:A.handled=none)(D:ZAp2 z TI TO i1 i2 l1 l2)
  (hz:IsZip s.heap z TI TO .none) (hTI:IsTup2 s.heap TI (.ref i1) (.ref i2)) (hTO:IsTup2 s.heap TO a1 a2)
  (h1:ItAt k1 s.heap i1 l1 k) (h2:ItAt k2 s.heap i2 l2 k) (hl1:SqAt k1 s.heap l1 xs1) (hl2:SqAt k2 s.heap l2 xs2) (hend:xs1[k]?=none\/xs2[k]?=none)
  (hQ:∀h',(∀c o,c≠z->c≠TO->c≠i1->c≠i2->s.heap.get? c=some o->h'.get? c=some o)->Q none { s with heap:=h' }):wpAny (model prog w) A (pyNext (.ref z)) Q E s:=by
 have hT:s.TypeIs (.ref z) "zip":=⟨_,hz,rfl⟩
 unfold pyNext
 refine wpAny_bind (wpAny_attempt (wpAny_callSpecial?_slot (name:=Str.ofString "__next__") hT F.slot_zip_next
   (wpAny_call_entry F.slot_zip_next hT F.entry_zip_next (zipn_end2 hh D hz hTI hTO h1 h2 hl1 hl2 hend λh' e hk he=>?_) (F.args_zip_next_1 _))))
 obtain⟨o,ho,hc⟩:=he
 refine wpAny_bind (wpAny_isInstance (T:="StopIteration") (b:=true) ⟨o,ho,hc⟩ isSubtype_stop ?_)
 exact wpAny_pure (hQ _ hk)
end
noncomputable abbrev zh2I(h:Heap)(k1:Kd)(k2:Kd)(l1 l2:Addr):Heap:=((h.push (itObj k1 l1)).push (itObj k2 l2))
noncomputable abbrev zh2T(h:Heap)(k1:Kd)(k2:Kd)(l1 l2:Addr):Heap:=(zh2I h k1 k2 l1 l2).push { cls:=.type "tuple",data:=.seq #[.ref h.objs.size,.ref (h.push (itObj k1 l1)).objs.size] }
noncomputable abbrev zh2O(h:Heap)(k1:Kd)(k2:Kd)(l1 l2:Addr):Heap:=(zh2T h k1 k2 l1 l2).push { cls:=.type "tuple",data:=.seq #[.none,.none] }
noncomputable abbrev zh2Z(h:Heap)(k1:Kd)(k2:Kd)(l1 l2:Addr):Heap:=(zh2O h k1 k2 l1 l2).push { cls:=.type "zip",data:=.fields #[.none,.bool false,.bool false,.ref (zh2I h k1 k2 l1 l2).objs.size,.ref (zh2T h k1 k2 l1 l2).objs.size] }
theorem zip_new2(k1:Kd)(k2:Kd)(l1 l2:Addr)(xs1 xs2:Array Value) :
  Meets (Builtin.«zip.__new__» ⟨[.type "zip",.ref l1,.ref l2],[]⟩) (λ_ R s=>SqAt k1 s.heap l1 xs1/\SqAt k2 s.heap l2 xs2 /\
    R (.ok (.ret (.ref (zh2O s.heap k1 k2 l1 l2).objs.size))) { s with heap:=zh2Z s.heap k1 k2 l1 l2 }) :=
 .of_wp λprog w A R s h=>by
  obtain⟨hp,g,d,tk,os⟩:=s;obtain⟨hl1,hl2,h⟩:=h
  have hsub:=sub_zip
  have hL1:SqAt k1 (Shared.heap ⟨hp,g,d,tk,os⟩) l1 xs1:=hl1
  have hL2:SqAt k2 (Shared.heap ⟨(hp.push (itObj k1 l1)),g,d,tk,os⟩) l2 xs2:=(SqAt.at hl2 λo e=>i0 _ e)
  wp_walk using iter_at hL1,iter_at hL2
  exact ⟨_,rfl,h⟩
noncomputable abbrev IsTup3(h:Heap)(T:Addr)(a1 a2 a3:Value):Prop:=h.get? T=some { cls:=.type "tuple",data:=.seq #[a1,a2,a3] }
structure ZAp3(z TI TO i1 i2 i3 l1 l2 l3:Addr):Prop where
 TIz:TI≠z
 TOz:TO≠z
 i1z:i1≠z
 i2z:i2≠z
 i3z:i3≠z
 TOTI:TO≠TI
 i1TI:i1≠TI
 i2TI:i2≠TI
 i3TI:i3≠TI
 i1TO:i1≠TO
 i2TO:i2≠TO
 i3TO:i3≠TO
 i2i1:i2≠i1
 i3i1:i3≠i1
 i3i2:i3≠i2
 l1z:l1≠z
 l1TO:l1≠TO
 l1i1:l1≠i1
 l1i2:l1≠i2
 l1i3:l1≠i3
 l2z:l2≠z
 l2TO:l2≠TO
 l2i1:l2≠i1
 l2i2:l2≠i2
 l2i3:l2≠i3
 l3z:l3≠z
 l3TO:l3≠TO
 l3i1:l3≠i1
 l3i2:l3≠i2
 l3i3:l3≠i3
theorem zap3(n l1 l2 l3:Nat)(h1:l1 < n)(h2:l2 < n)(h3:l3 < n):ZAp3 (n+5) (n+3) (n+4) n (n+1) (n+2) l1 l2 l3:=by constructor<;>(show ¬(@Eq Nat _ _))<;>omega
section
variable {prog:Program}{w:World}{A:Around}{E:Value->Shared->Prop}{s:Shared}
theorem upSeq3{T:Addr}{a1 a2 a3 x:Value}{k:Nat}{Q:Unit->Shared->Prop}(hT:IsTup3 s.heap T a1 a2 a3)
  (h:∀h',h'.get? T=some { cls:=.type "tuple",data:=.seq ((#[a1,a2,a3]:Array Value).setIfInBounds k x) }->Y4 T s.heap h'->Q () { s with heap:=h' }) :
  wpAny (model prog w) A (updateSeq T (·.setIfInBounds k x)) Q E s:=by
 refine wpAny_updateSeq hT rfl (h _ ?_ (M5 ..))
 rw[J2 _ hT rfl]
 simp[S1]
theorem zipn_item3{z TI TO i1 i2 i3 l1 l2 l3:Addr}{k:Nat}{k1:Kd}{k2:Kd}{k3:Kd}{xs1 xs2 xs3:Array Value}{a1 a2 a3:Value}{x1 x2 x3:Value}{Q:Value->Shared->Prop}(D:ZAp3 z TI TO i1 i2 i3 l1 l2 l3)
  (hz:IsZip s.heap z TI TO .none) (hTI:IsTup3 s.heap TI (.ref i1) (.ref i2) (.ref i3)) (hTO:IsTup3 s.heap TO a1 a2 a3)
  (h1:ItAt k1 s.heap i1 l1 k) (h2:ItAt k2 s.heap i2 l2 k) (h3:ItAt k3 s.heap i3 l3 k) (hl1:SqAt k1 s.heap l1 xs1) (hl2:SqAt k2 s.heap l2 xs2) (hl3:SqAt k3 s.heap l3 xs3) (hx1:xs1[k]?=some x1) (hx2:xs2[k]?=some x2) (hx3:xs3[k]?=some x3)
  (hQ:∀h',IsZip h' z TI TO (rawInt s.heap.objs.size)->IsTup3 h' TO x1 x2 x3->ItAt k1 h' i1 l1 (k+1)->ItAt k2 h' i2 l2 (k+1)->ItAt k3 h' i3 l3 (k+1)->IsTup3 h' s.heap.objs.size x1 x2 x3->h'.objs.size=s.heap.objs.size+1 ->
    (∀c o,c≠z->c≠TO->c≠i1->c≠i2->c≠i3->s.heap.get? c=some o->h'.get? c=some o)->Q (.ref s.heap.objs.size) { s with heap:=h' }) :
  wpAny (model prog w) A (Builtin.«zip.__next__» ⟨[.ref z],[]⟩) (λfin s'=>∃v,fin=.done (.ret v)/\Q v s') E s:=by
 show wpAny _ _ (field (.ref z) 2 >>= _) _ _ _
 refine wpAny_bind (wpAny_field hz rfl (x:=.bool false) rfl ?_)
 show wpAny _ _ (field (.ref z) 3 >>= _) _ _ _
 refine wpAny_bind (wpAny_field hz rfl (x:=.ref TI) rfl ?_)
 refine wpAny_bind (wpAny_seqItems hTI rfl ?_)
 show wpAny _ _ (V0 (.ref z) >>= _) _ _ _
 refine wpAny_bind ?_
 unfold V0
 refine wpAny_bind (wpAny_field hz rfl (x:=.none) rfl (wpAny_pure ?_))
 simp only[if_true]
 refine wpAny_bind (wpAny_rule ?_)
 refine wpAny_bind (wpAny_field hz rfl (x:=.ref TO) rfl ?_)
 refine wpAny_bind (wpAny_setField_rec hz (by simp) λh₁ hz₁ hs₁=>?_)
 replace hz₁:IsZip h₁ z TI TO .ellipsis:=hz₁
 refine wpAny_bind ?_
 simp only[e6,v6,j4,G4]
 have up₁:∀c o,c≠z->s.heap.get? c=some o->h₁.get? c=some o:=λc o c1 e=>hs₁.extBut _ _ c1 e
 refine wpAny_bind (wpAny_bind (wpAny_onRaise ?_))
 show wpAny _ _ (R0 (.ref i1) >>= _) _ _ _
 refine wpAny_bind (nextOf_item (h1.at λo e=>hs₁.extBut _ o D.i1z e) (hl1.at λo e=>hs₁.extBut _ o D.l1z e) hx1 λha1 hi1 hsa1=>wpAny_pure ?_)
 have hTOa1:IsTup3 ha1 TO a1 a2 a3:=hsa1.extBut _ _ D.i1TO.symm (hs₁.extBut _ _ D.TOz hTO)
 refine wpAny_bind (wpAny_seqItems hTOa1 rfl ?_)
 refine wpAny_bind (upSeq3 hTOa1 λhb1 hTOb1 hsb1=>?_)
 replace hTOb1:IsTup3 hb1 TO x1 a2 a3:=hTOb1
 refine wpAny_bind (wpAny_letGo (wpAny_pure ?_))
 refine wpAny_bind (wpAny_bind (wpAny_onRaise ?_))
 show wpAny _ _ (R0 (.ref i2) >>= _) _ _ _
 refine wpAny_bind (nextOf_item (((h2.at λo e=>hs₁.extBut _ o D.i2z e).at λo e=>hsa1.extBut _ o D.i2i1 e).at λo e=>hsb1.extBut _ o D.i2TO e) (((hl2.at λo e=>hs₁.extBut _ o D.l2z e).at λo e=>hsa1.extBut _ o D.l2i1 e).at λo e=>hsb1.extBut _ o D.l2TO e) hx2 λha2 hi2 hsa2=>wpAny_pure ?_)
 have hTOa2:IsTup3 ha2 TO x1 a2 a3:=hsa2.extBut _ _ D.i2TO.symm hTOb1
 refine wpAny_bind (wpAny_seqItems hTOa2 rfl ?_)
 refine wpAny_bind (upSeq3 hTOa2 λhb2 hTOb2 hsb2=>?_)
 replace hTOb2:IsTup3 hb2 TO x1 x2 a3:=hTOb2
 refine wpAny_bind (wpAny_letGo (wpAny_pure ?_))
 refine wpAny_bind (wpAny_bind (wpAny_onRaise ?_))
 show wpAny _ _ (R0 (.ref i3) >>= _) _ _ _
 refine wpAny_bind (nextOf_item (((((h3.at λo e=>hs₁.extBut _ o D.i3z e).at λo e=>hsa1.extBut _ o D.i3i1 e).at λo e=>hsb1.extBut _ o D.i3TO e).at λo e=>hsa2.extBut _ o D.i3i2 e).at λo e=>hsb2.extBut _ o D.i3TO e) (((((hl3.at λo e=>hs₁.extBut _ o D.l3z e).at λo e=>hsa1.extBut _ o D.l3i1 e).at λo e=>hsb1.extBut _ o D.l3TO e).at λo e=>hsa2.extBut _ o D.l3i2 e).at λo e=>hsb2.extBut _ o D.l3TO e) hx3 λha3 hi3 hsa3=>wpAny_pure ?_)
 have hTOa3:IsTup3 ha3 TO x1 x2 a3:=hsa3.extBut _ _ D.i3TO.symm hTOb2
 refine wpAny_bind (wpAny_seqItems hTOa3 rfl ?_)
 refine wpAny_bind (upSeq3 hTOa3 λhb3 hTOb3 hsb3=>?_)
 replace hTOb3:IsTup3 hb3 TO x1 x2 x3:=hTOb3
 refine wpAny_bind (wpAny_letGo (wpAny_pure (wpAny_pure ?_)))
 refine wpAny_bind (wpAny_seqItems hTOb3 rfl ?_)
 refine wpAny_bind (wpAny_newTuple ?_)
 have hsz:hb3.objs.size=s.heap.objs.size:=by rw[hsb3.1,hsa3.1,hsb2.1,hsa2.1,hsb1.1,hsa1.1,hs₁.1]
 have hzG:IsZip hb3 z TI TO .ellipsis:=(hsb3.extBut _ _ D.TOz.symm (hsa3.extBut _ _ D.i3z.symm (hsb2.extBut _ _ D.TOz.symm (hsa2.extBut _ _ D.i2z.symm (hsb1.extBut _ _ D.TOz.symm (hsa1.extBut _ _ D.i1z.symm hz₁))))))
 have hkG:∀c o,c≠z->c≠TO->c≠i1->c≠i2->c≠i3->s.heap.get? c=some o->hb3.get? c=some o:=λc o c1 c2 d1 d2 d3 e=>(hsb3.extBut _ _ c2 (hsa3.extBut _ _ d3 (hsb2.extBut _ _ c2 (hsa2.extBut _ _ d2 (hsb1.extBut _ _ c2 (hsa1.extBut _ _ d1 (hs₁.extBut _ _ c1 e)))))))
 have hiG1:ItAt k1 hb3 i1 l1 (k+1):=(((((hi1.at λo e=>hsb1.extBut _ o D.i1TO e).at λo e=>hsa2.extBut _ o D.i2i1.symm e).at λo e=>hsb2.extBut _ o D.i1TO e).at λo e=>hsa3.extBut _ o D.i3i1.symm e).at λo e=>hsb3.extBut _ o D.i1TO e)
 have hiG2:ItAt k2 hb3 i2 l2 (k+1):=(((hi2.at λo e=>hsb2.extBut _ o D.i2TO e).at λo e=>hsa3.extBut _ o D.i3i2.symm e).at λo e=>hsb3.extBut _ o D.i2TO e)
 have hiG3:ItAt k3 hb3 i3 l3 (k+1):=(hi3.at λo e=>hsb3.extBut _ o D.i3TO e)
 have hzlt:z < hb3.objs.size:=B0 hzG
 show wpAny _ _ (M3 (.ref z) (.ref hb3.objs.size) >>= _) _ _ _
 refine wpAny_bind ?_
 unfold M3
 have hz₆:IsZip (hb3.push { cls:=.type "tuple",data:=.seq #[x1,x2,x3] }) z TI TO .ellipsis:=i0 _ hzG
 refine wpAny_bind (wpAny_setField_rec hz₆ (by simp) λh₇ hz₇ hs₇=>?_)
 replace hz₇:IsZip h₇ z TI TO (rawInt hb3.objs.size):=hz₇
 refine wpAny_setField_rec hz₇ (by simp) λh₈ hz₈ hs₈=>?_
 replace hz₈:IsZip h₈ z TI TO (rawInt hb3.objs.size):=hz₈
 have up:∀c o,c≠z->hb3.get? c=some o->h₈.get? c=some o:=λc o c1 e=>hs₈.extBut _ _ c1 (hs₇.extBut _ _ c1 (i0 _ e))
 have hT₈:IsTup3 h₈ hb3.objs.size x1 x2 x3:=hs₈.extBut _ _ (j1 hzlt) (hs₇.extBut _ _ (j1 hzlt) (K0 _ rfl))
 have hz8:h₈.objs.size=hb3.objs.size+1:=by rw[hs₈.1,hs₇.1,L1]
 rw[hsz]at hz₈ hT₈ hz8
 refine wpAny_pure ⟨_,rfl,?_⟩
 show Q (.ref hb3.objs.size) _
 rw[hsz]
 exact hQ h₈ hz₈ (up _ _ D.TOz hTOb3) (hiG1.at λo e=>up _ o D.i1z e) (hiG2.at λo e=>up _ o D.i2z e) (hiG3.at λo e=>up _ o D.i3z e) hT₈ hz8 λc o c1 c2 d1 d2 d3 e=>up c o c1 (hkG c o c1 c2 d1 d2 d3 e)
theorem zipn_end3{z TI TO i1 i2 i3 l1 l2 l3:Addr}{k:Nat}{k1:Kd}{k2:Kd}{k3:Kd}{xs1 xs2 xs3:Array Value}{a1 a2 a3:Value}{Q:Fin->Shared->Prop}(hh:A.handled=none)(D:ZAp3 z TI TO i1 i2 i3 l1 l2 l3)
  (hz:IsZip s.heap z TI TO .none) (hTI:IsTup3 s.heap TI (.ref i1) (.ref i2) (.ref i3)) (hTO:IsTup3 s.heap TO a1 a2 a3)
  (h1:ItAt k1 s.heap i1 l1 k) (h2:ItAt k2 s.heap i2 l2 k) (h3:ItAt k3 s.heap i3 l3 k) (hl1:SqAt k1 s.heap l1 xs1) (hl2:SqAt k2 s.heap l2 xs2) (hl3:SqAt k3 s.heap l3 xs3) (hend:xs1[k]?=none\/xs2[k]?=none\/xs3[k]?=none)
  (hE:∀h' e,(∀c o,c≠z->c≠TO->c≠i1->c≠i2->c≠i3->s.heap.get? c=some o->h'.get? c=some o)->(∃o,h'.get? e=some o/\o.cls=.type "StopIteration")->E (.ref e) { s with heap:=h' }) :
  wpAny (model prog w) A (Builtin.«zip.__next__» ⟨[.ref z],[]⟩) Q E s:=by
 show wpAny _ _ (field (.ref z) 2 >>= _) _ _ _
 refine wpAny_bind (wpAny_field hz rfl (x:=.bool false) rfl ?_)
 show wpAny _ _ (field (.ref z) 3 >>= _) _ _ _
 refine wpAny_bind (wpAny_field hz rfl (x:=.ref TI) rfl ?_)
 refine wpAny_bind (wpAny_seqItems hTI rfl ?_)
 show wpAny _ _ (V0 (.ref z) >>= _) _ _ _
 refine wpAny_bind ?_
 unfold V0
 refine wpAny_bind (wpAny_field hz rfl (x:=.none) rfl (wpAny_pure ?_))
 simp only[if_true]
 refine wpAny_bind (wpAny_rule ?_)
 refine wpAny_bind (wpAny_field hz rfl (x:=.ref TO) rfl ?_)
 refine wpAny_bind (wpAny_setField_rec hz (by simp) λh₁ hz₁ hs₁=>?_)
 replace hz₁:IsZip h₁ z TI TO .ellipsis:=hz₁
 refine wpAny_bind ?_
 simp only[e6,v6,j4,G4]
 refine wpAny_bind (wpAny_bind (wpAny_onRaise ?_))
 show wpAny _ _ (R0 (.ref i1) >>= _) _ _ _
 cases hx1:xs1[k]? with
 | none =>
  refine wpAny_bind (nextOf_end hh (h1.at λo e=>hs₁.extBut _ o D.i1z e) (hl1.at λo e=>hs₁.extBut _ o D.l1z e) hx1 λhq e hsq he=>?_)
  obtain⟨oe,hoe,hce⟩:=he
  have hzq:IsZip hq z TI TO .ellipsis:=hsq _ _ D.i1z.symm hz₁
  have hez:e≠z:=λx=>by subst x;rw[hzq]at hoe;cases hoe;simp at hce
  refine wpAny_setField_rec hzq (by simp) λh₉ _ hs₉=>hE h₉ e (λc o c1 c2 d1 d2 d3 x=>hs₉.extBut _ _ c1 (hsq _ _ d1 (hs₁.extBut _ _ c1 x))) ⟨oe,hs₉.extBut _ _ hez hoe,hce⟩
 | some x1 =>
  refine wpAny_bind (nextOf_item (h1.at λo e=>hs₁.extBut _ o D.i1z e) (hl1.at λo e=>hs₁.extBut _ o D.l1z e) hx1 λha1 hi1 hsa1=>wpAny_pure ?_)
  have hTOa1:IsTup3 ha1 TO a1 a2 a3:=hsa1.extBut _ _ D.i1TO.symm (hs₁.extBut _ _ D.TOz hTO)
  refine wpAny_bind (wpAny_seqItems hTOa1 rfl ?_)
  refine wpAny_bind (upSeq3 hTOa1 λhb1 hTOb1 hsb1=>?_)
  replace hTOb1:IsTup3 hb1 TO x1 a2 a3:=hTOb1
  refine wpAny_bind (wpAny_letGo (wpAny_pure ?_))
  refine wpAny_bind (wpAny_bind (wpAny_onRaise ?_))
  show wpAny _ _ (R0 (.ref i2) >>= _) _ _ _
  cases hx2:xs2[k]? with
  | none =>
   refine wpAny_bind (nextOf_end hh (((h2.at λo e=>hs₁.extBut _ o D.i2z e).at λo e=>hsa1.extBut _ o D.i2i1 e).at λo e=>hsb1.extBut _ o D.i2TO e) (((hl2.at λo e=>hs₁.extBut _ o D.l2z e).at λo e=>hsa1.extBut _ o D.l2i1 e).at λo e=>hsb1.extBut _ o D.l2TO e) hx2 λhq e hsq he=>?_)
   obtain⟨oe,hoe,hce⟩:=he
   have hzq:IsZip hq z TI TO .ellipsis:=hsq _ _ D.i2z.symm (hsb1.extBut _ _ D.TOz.symm (hsa1.extBut _ _ D.i1z.symm hz₁))
   have hez:e≠z:=λx=>by subst x;rw[hzq]at hoe;cases hoe;simp at hce
   refine wpAny_setField_rec hzq (by simp) λh₉ _ hs₉=>hE h₉ e (λc o c1 c2 d1 d2 d3 x=>hs₉.extBut _ _ c1 (hsq _ _ d2 (hsb1.extBut _ _ c2 (hsa1.extBut _ _ d1 (hs₁.extBut _ _ c1 x))))) ⟨oe,hs₉.extBut _ _ hez hoe,hce⟩
  | some x2 =>
   refine wpAny_bind (nextOf_item (((h2.at λo e=>hs₁.extBut _ o D.i2z e).at λo e=>hsa1.extBut _ o D.i2i1 e).at λo e=>hsb1.extBut _ o D.i2TO e) (((hl2.at λo e=>hs₁.extBut _ o D.l2z e).at λo e=>hsa1.extBut _ o D.l2i1 e).at λo e=>hsb1.extBut _ o D.l2TO e) hx2 λha2 hi2 hsa2=>wpAny_pure ?_)
   have hTOa2:IsTup3 ha2 TO x1 a2 a3:=hsa2.extBut _ _ D.i2TO.symm hTOb1
   refine wpAny_bind (wpAny_seqItems hTOa2 rfl ?_)
   refine wpAny_bind (upSeq3 hTOa2 λhb2 hTOb2 hsb2=>?_)
   replace hTOb2:IsTup3 hb2 TO x1 x2 a3:=hTOb2
   refine wpAny_bind (wpAny_letGo (wpAny_pure ?_))
   refine wpAny_bind (wpAny_bind (wpAny_onRaise ?_))
   show wpAny _ _ (R0 (.ref i3) >>= _) _ _ _
   have hx3:xs3[k]?=none:=by
    rcases hend with h|h|h
    ·rw[hx1]at h;cases h
    ·rw[hx2]at h;cases h
    ·exact h
   refine wpAny_bind (nextOf_end hh (((((h3.at λo e=>hs₁.extBut _ o D.i3z e).at λo e=>hsa1.extBut _ o D.i3i1 e).at λo e=>hsb1.extBut _ o D.i3TO e).at λo e=>hsa2.extBut _ o D.i3i2 e).at λo e=>hsb2.extBut _ o D.i3TO e) (((((hl3.at λo e=>hs₁.extBut _ o D.l3z e).at λo e=>hsa1.extBut _ o D.l3i1 e).at λo e=>hsb1.extBut _ o D.l3TO e).at λo e=>hsa2.extBut _ o D.l3i2 e).at λo e=>hsb2.extBut _ o D.l3TO e) hx3 λhq e hsq he=>?_)
   obtain⟨oe,hoe,hce⟩:=he
   have hzq:IsZip hq z TI TO .ellipsis:=hsq _ _ D.i3z.symm (hsb2.extBut _ _ D.TOz.symm (hsa2.extBut _ _ D.i2z.symm (hsb1.extBut _ _ D.TOz.symm (hsa1.extBut _ _ D.i1z.symm hz₁))))
   have hez:e≠z:=λx=>by subst x;rw[hzq]at hoe;cases hoe;simp at hce
   refine wpAny_setField_rec hzq (by simp) λh₉ _ hs₉=>hE h₉ e (λc o c1 c2 d1 d2 d3 x=>hs₉.extBut _ _ c1 (hsq _ _ d3 (hsb2.extBut _ _ c2 (hsa2.extBut _ _ d2 (hsb1.extBut _ _ c2 (hsa1.extBut _ _ d1 (hs₁.extBut _ _ c1 x))))))) ⟨oe,hs₉.extBut _ _ hez hoe,hce⟩
theorem next_zip_item3{z TI TO i1 i2 i3 l1 l2 l3:Addr}{k:Nat}{k1:Kd}{k2:Kd}{k3:Kd}{xs1 xs2 xs3:Array Value}{a1 a2 a3:Value}{x1 x2 x3:Value}{Q:Option Value->Shared->Prop}(D:ZAp3 z TI TO i1 i2 i3 l1 l2 l3)
  (hz:IsZip s.heap z TI TO .none) (hTI:IsTup3 s.heap TI (.ref i1) (.ref i2) (.ref i3)) (hTO:IsTup3 s.heap TO a1 a2 a3)
  (h1:ItAt k1 s.heap i1 l1 k) (h2:ItAt k2 s.heap i2 l2 k) (h3:ItAt k3 s.heap i3 l3 k) (hl1:SqAt k1 s.heap l1 xs1) (hl2:SqAt k2 s.heap l2 xs2) (hl3:SqAt k3 s.heap l3 xs3) (hx1:xs1[k]?=some x1) (hx2:xs2[k]?=some x2) (hx3:xs3[k]?=some x3)
  (hQ:∀h',IsZip h' z TI TO (rawInt s.heap.objs.size)->IsTup3 h' TO x1 x2 x3->ItAt k1 h' i1 l1 (k+1)->ItAt k2 h' i2 l2 (k+1)->ItAt k3 h' i3 l3 (k+1)->IsTup3 h' s.heap.objs.size x1 x2 x3->h'.objs.size=s.heap.objs.size+1 ->
    (∀c o,c≠z->c≠TO->c≠i1->c≠i2->c≠i3->s.heap.get? c=some o->h'.get? c=some o)->Q (some (.ref s.heap.objs.size)) { s with heap:=h' }) :
  wpAny (model prog w) A (pyNext (.ref z)) Q E s:=by
 have hT:s.TypeIs (.ref z) "zip":=⟨_,hz,rfl⟩
 unfold pyNext
 exact wpAny_bind (wpAny_attempt (wpAny_callSpecial?_slot (name:=Str.ofString "__next__") hT F.slot_zip_next
   (wpAny_call_entry F.slot_zip_next hT F.entry_zip_next
     (zipn_item3 D hz hTI hTO h1 h2 h3 hl1 hl2 hl3 hx1 hx2 hx3 λh' a1 a2 b1 b2 b3 a5 a6 a7=>wpAny_pure (hQ h' a1 a2 b1 b2 b3 a5 a6 a7)) (F.args_zip_next_1 _))))
theorem next_zip_end3{z TI TO i1 i2 i3 l1 l2 l3:Addr}{k:Nat}{k1:Kd}{k2:Kd}{k3:Kd}{xs1 xs2 xs3:Array Value}{a1 a2 a3:Value}{Q:Option Value->Shared->Prop}(hh:A.handled=none)(D:ZAp3 z TI TO i1 i2 i3 l1 l2 l3)
  (hz:IsZip s.heap z TI TO .none) (hTI:IsTup3 s.heap TI (.ref i1) (.ref i2) (.ref i3)) (hTO:IsTup3 s.heap TO a1 a2 a3)
  (h1:ItAt k1 s.heap i1 l1 k) (h2:ItAt k2 s.heap i2 l2 k) (h3:ItAt k3 s.heap i3 l3 k) (hl1:SqAt k1 s.heap l1 xs1) (hl2:SqAt k2 s.heap l2 xs2) (hl3:SqAt k3 s.heap l3 xs3) (hend:xs1[k]?=none\/xs2[k]?=none\/xs3[k]?=none)
  (hQ:∀h',(∀c o,c≠z->c≠TO->c≠i1->c≠i2->c≠i3->s.heap.get? c=some o->h'.get? c=some o)->Q none { s with heap:=h' }):wpAny (model prog w) A (pyNext (.ref z)) Q E s:=by
 have hT:s.TypeIs (.ref z) "zip":=⟨_,hz,rfl⟩
 unfold pyNext
 refine wpAny_bind (wpAny_attempt (wpAny_callSpecial?_slot (name:=Str.ofString "__next__") hT F.slot_zip_next
   (wpAny_call_entry F.slot_zip_next hT F.entry_zip_next (zipn_end3 hh D hz hTI hTO h1 h2 h3 hl1 hl2 hl3 hend λh' e hk he=>?_) (F.args_zip_next_1 _))))
 obtain⟨o,ho,hc⟩:=he
 refine wpAny_bind (wpAny_isInstance (T:="StopIteration") (b:=true) ⟨o,ho,hc⟩ isSubtype_stop ?_)
 exact wpAny_pure (hQ _ hk)
end
noncomputable abbrev zh3I(h:Heap)(k1:Kd)(k2:Kd)(k3:Kd)(l1 l2 l3:Addr):Heap:=(((h.push (itObj k1 l1)).push (itObj k2 l2)).push (itObj k3 l3))
noncomputable abbrev zh3T(h:Heap)(k1:Kd)(k2:Kd)(k3:Kd)(l1 l2 l3:Addr):Heap:=(zh3I h k1 k2 k3 l1 l2 l3).push { cls:=.type "tuple",data:=.seq #[.ref h.objs.size,.ref (h.push (itObj k1 l1)).objs.size,.ref ((h.push (itObj k1 l1)).push (itObj k2 l2)).objs.size] }
noncomputable abbrev zh3O(h:Heap)(k1:Kd)(k2:Kd)(k3:Kd)(l1 l2 l3:Addr):Heap:=(zh3T h k1 k2 k3 l1 l2 l3).push { cls:=.type "tuple",data:=.seq #[.none,.none,.none] }
noncomputable abbrev zh3Z(h:Heap)(k1:Kd)(k2:Kd)(k3:Kd)(l1 l2 l3:Addr):Heap:=(zh3O h k1 k2 k3 l1 l2 l3).push { cls:=.type "zip",data:=.fields #[.none,.bool false,.bool false,.ref (zh3I h k1 k2 k3 l1 l2 l3).objs.size,.ref (zh3T h k1 k2 k3 l1 l2 l3).objs.size] }
theorem zip_new3(k1:Kd)(k2:Kd)(k3:Kd)(l1 l2 l3:Addr)(xs1 xs2 xs3:Array Value) :
  Meets (Builtin.«zip.__new__» ⟨[.type "zip",.ref l1,.ref l2,.ref l3],[]⟩) (λ_ R s=>SqAt k1 s.heap l1 xs1/\SqAt k2 s.heap l2 xs2/\SqAt k3 s.heap l3 xs3 /\
    R (.ok (.ret (.ref (zh3O s.heap k1 k2 k3 l1 l2 l3).objs.size))) { s with heap:=zh3Z s.heap k1 k2 k3 l1 l2 l3 }) :=
 .of_wp λprog w A R s h=>by
  obtain⟨hp,g,d,tk,os⟩:=s;obtain⟨hl1,hl2,hl3,h⟩:=h
  have hsub:=sub_zip
  have hL1:SqAt k1 (Shared.heap ⟨hp,g,d,tk,os⟩) l1 xs1:=hl1
  have hL2:SqAt k2 (Shared.heap ⟨(hp.push (itObj k1 l1)),g,d,tk,os⟩) l2 xs2:=(SqAt.at hl2 λo e=>i0 _ e)
  have hL3:SqAt k3 (Shared.heap ⟨((hp.push (itObj k1 l1)).push (itObj k2 l2)),g,d,tk,os⟩) l3 xs3:=(SqAt.at (SqAt.at hl3 λo e=>i0 _ e) λo e=>i0 _ e)
  wp_walk using iter_at hL1,iter_at hL2,iter_at hL3
  exact ⟨_,rfl,h⟩
inductive Ki where|non|bl|int|str|lst|tup|dct
 deriving DecidableEq
noncomputable def Ki.nm:Ki->String
 | .non=>"NoneType" | .bl=>"bool" | .int=>"int" | .str=>"str" | .lst=>"list" | .tup=>"tuple" | .dct=>"dict"
noncomputable def KiOf(K:j0)(H:Hp):V->Ki->Prop
 | .non,k=>k=.non
 | .bl _,k=>k=.bl
 | .int _,k=>k=.int
 | .str _,k=>k=.str
 | .ref a,k=>(k=.lst/\∃xs,SqL K H a xs)\/(k=.tup/\∃xs,SqT K H a xs)\/(k=.dct/\((∃kvs,H a=some (.dK kvs))\/∃kvs,H a=some (.dT kvs)))
 | _,_=>False
noncomputable def Ki.sub:Ki->Ki->Bool
 | .bl,.int=>true
 | a,b=>decide (a=b)
theorem KiOf.typeIs{X:Cx}{pins:List (Addr×Obj)}{σ:St}{H:Hp}{s:Shared}{x:V}{u:Value}{k:Ki}(I:Inv X pins σ H s)(h:KiOf X.K H x k)(r:RelV x u):s.TypeIs u k.nm:=by
 cases x with
 | non=>cases h;cases r;rfl
 | bl b=>cases h;cases r;rfl
 | int i=>cases h;obtain⟨t,rfl⟩:=r;rfl
 | str i=>cases h;obtain⟨t,rfl⟩:=r;rfl
 | ref a =>
  cases r
  rcases h with⟨rfl,xs,hq⟩|⟨rfl,xs,hq⟩|⟨rfl,⟨kvs,hq⟩|⟨kvs,hq⟩⟩
  ·obtain⟨its,_,⟨o,n,e,c,_⟩,_⟩:=I.list hq
   exact ⟨o,e,c⟩
  ·obtain⟨its,_,⟨o,e,c,_⟩,_⟩:=I.tuple hq
   exact ⟨o,e,c⟩
  ·obtain⟨_,_,_,_,o,es,ep,e,c,_⟩:=I.hok a _ hq
   exact ⟨o,e,c.1⟩
  ·obtain⟨_,_,_,_,o,es,ep,e,c,_⟩:=I.hok a _ hq
   exact ⟨o,e,c.1⟩
 | byt _=>cases h
 | flt _=>cases h
 | ty _=>cases h
theorem ki_meta(T:Ki):typeOf (.type T.nm)=pure (.type "type"):=by
 cases T
 ·exact F.isi_meta_NoneType
 ·exact F.isi_meta_bool
 ·exact F.isi_meta_int
 ·exact F.isi_meta_str
 ·exact F.isi_meta_list
 ·exact F.isi_meta_tuple
 ·exact F.isi_meta_dict
theorem ki_sub(k T:Ki):isSubtype (.type k.nm) (.type T.nm)=pure (k.sub T):=by
 cases k<;>cases T<;>(show isSubtype (.type _) (.type _)=pure _;rw[isSubtype_type];kernel_rfl)
theorem ki_ne(k T:Ki)(h:k.sub T=false):(Z5 k.nm==Z5 T.nm)=false:=by
 cases k<;>cases T<;>first|(exfalso;revert h;decide)|decide +kernel
noncomputable def rIsi(K:j0):List V->Hp->VK->Prop:=λxs H Q=>∃(x:V) (k:Ki) (T:Ki),xs=[x,.ty T.nm]/\KiOf K H x k/\Q (.bl (k.sub T)) H
theorem call_isi{X:Cx}:CallR X (.builtin "isinstance") (rIsi X.K):=by
 intro pins s σ H xs us Q I r h
 obtain⟨x,k,T,rfl,hk,q⟩:=h
 obtain⟨u,w',rfl,ru,rw'⟩:=vals2 r
 obtain rfl:w'=.type T.nm:=rw'
 have ht:=hk.typeIs I ru
 cases hs:k.sub T with
 | true =>
  rw[hs]at q
  exact call_isinstance (isinstance_true (Tx:=k.nm) (ki_meta T) (by rw[ki_sub,hs])) ⟨ht,.bl true,H,I,rfl,q⟩
 | false =>
  rw[hs]at q
  have hsub:isSubtype (.type k.nm) (.type T.nm)=pure false:=by rw[ki_sub,hs]
  have hne:=ki_ne k T hs
  have fin:EP X pins σ Q (.bool false) { s with toks:=s.toks+1 }:=⟨.bl false,H,I.tok _,rfl,q⟩
  cases x with
  | non=>cases hk;cases ru;exact call_isinstance (isinstance_false_none hne (ki_meta T) hsub) fin
  | bl b=>cases hk;cases ru;exact call_isinstance (isinstance_false_bool hne (ki_meta T) hsub) fin
  | int i=>cases hk;obtain⟨t,rfl⟩:=ru;exact call_isinstance (isinstance_false_int hne (ki_meta T) hsub) fin
  | str i=>cases hk;obtain⟨t,rfl⟩:=ru;exact call_isinstance (isinstance_false_str hne (ki_meta T) hsub) fin
  | ref a =>
   cases ru
   rcases hk with⟨rfl,_⟩|⟨rfl,_⟩|⟨rfl,_⟩
   ·exact call_isinstance (isinstance_false_list hne (ki_meta T) hsub) ⟨ht,fin⟩
   ·exact call_isinstance (isinstance_false_tuple hne (ki_meta T) hsub) ⟨ht,fin⟩
   ·exact call_isinstance (isinstance_false_dict hne (ki_meta T) hsub) ⟨ht,fin⟩
  | byt _=>cases hk
  | flt _=>cases hk
  | ty _=>cases hk
noncomputable def rAll(K:j0):List V->Hp->VK->Prop:=λxs H Q=>∃(a:Addr) (bs:List Bool),xs=[.ref a]/\SqL K H a (bs.map V.bl)/\Q (.bl (bs.all id)) H
theorem vals_boolAt{bs:List Bool}{us:List Value}(r:Vals (bs.map V.bl) us)(i:Nat)(v:Value)(h:us[i]?=some v):∃b,bs[i]?=some b/\v=.bool b:=by
 cases e:bs[i]? with
 | none =>
  have h1:(bs.map V.bl)[i]?=none:=by rw[W0,e];rfl
  rw[r.none_of h1]at h
  cases h
 | some b =>
  obtain⟨u,hu,ru⟩:=r.get (i:=i) (x:=.bl b) (by rw[W0,e];rfl)
  rw[hu]at h
  cases h
  exact ⟨b,rfl,ru⟩
theorem all_range_bs(bs:List Bool):((A2 bs.length).all λi=>(bs[i]?).getD true)=bs.all id:=by
 rw[o5,X4,X4]
 constructor
 ·intro h b hb
  obtain⟨i,hi,e⟩:=P7.mp hb
  have:=h i (Y2.mpr hi)
  rw[J0 hi,E4,e]at this
  exact this
 ·intro h i hi
  have hi:=Y2.mp hi
  rw[J0 hi,E4]
  exact h _ (S2 hi)
theorem call_all{X:Cx}(hc:X.calm=true):CallR X (.builtin "all") (rAll X.K):=by
 intro pins s σ H xs us Q I r h
 obtain⟨a,bs,rfl,hq,q⟩:=h
 obtain⟨u,rfl,ru⟩:=vals1 r
 cases ru
 obtain⟨its,rv,p,hz⟩:=I.list hq
 have hl:=p.isList
 have hlt:a < s.heap.objs.size:=by obtain⟨_,e,_⟩:=hl;exact B0 e
 refine call_all_walk (wpAny_pyIter_list hl ?_)
 refine ⟨s.heap.objs.size,[s.heap.objs.size,a],[s.heap.objs.size],its.toArray.size,_,_,λi=>(bs[i]?).getD true,rfl,Walks.list (A:=X.A.in1) (I.ok.hd hc) _ a (S0 hlt) its.toArray,
   ⟨⟨_,K0 _ rfl,rfl,rfl⟩,hl.push _⟩,λi v s' Q' E' hP hQ=>?_,λh' tk hk=>?_⟩
 ·obtain⟨b,e,rfl⟩:=vals_boolAt rv i v (by simpa using hP)
  simp only[e,E4]at hQ
  exact wpAny_truthy_bool hQ
 ·have e:((A2 its.toArray.size).all λi=>(bs[i]?).getD true)=bs.all id:=by
   have hl2:=rv.length
   rw[A0]at hl2
   rw[L0,<- hl2];exact all_range_bs bs
  rw[e]
  refine ⟨.bl (bs.all id),H,I.kept (h':=h') (t':=tk) λb o eo=>hk b o (λhm=>?_) (i0 _ eo),rfl,q⟩
  rw[A1.mp hm]at eo
  exact X1 _ (B0 eo)
noncomputable def Sq(k:Kd)(K:j0)(H:Hp)(a:Addr)(xs:List V):Prop:=match k with | .l=>SqL K H a xs | .t=>SqT K H a xs
theorem Inv.sq{X:Cx}{pins:List (Addr×Obj)}{σ:St}{H:Hp}{s:Shared}{k:Kd}{a:Addr}{xs:List V}(I:Inv X pins σ H s)(h:Sq k X.K H a xs):∃its:List Value,Vals xs its/\SqAt k s.heap a its.toArray/\xs.length<=sizeLine:=by
 cases k with
 | l=>obtain⟨its,r,p,z⟩:=I.list h;exact ⟨its,r,p.isList,z⟩
 | t=>obtain⟨its,r,p,z⟩:=I.tuple h;exact ⟨its,r,p,z⟩
theorem Inv.sq_inj{X:Cx}{pins:List (Addr×Obj)}{σ:St}{H:Hp}{s:Shared}{k:Kd}{a:Addr}{xs ys:List V}(I:Inv X pins σ H s)(h:Sq k X.K H a xs)(h':Sq k X.K H a ys):xs=ys:=by
 cases k with
 | l=>exact I.list_inj h h'
 | t=>exact I.tuple_inj h h'
noncomputable def Itz2(K:j0)(k1:Kd)(k2:Kd)(l1 l2:Addr):It :=
 ⟨λi H=>∃ys1 x1 ys2 x2,Sq k1 K H l1 ys1/\Sq k2 K H l2 ys2/\ys1[i]?=some x1/\ys2[i]?=some x2,
  λi H x H'=>∃T x1 x2,H T=none/\x=.ref T/\H'=upd H T (.tup [x1,x2])/\(∀ys,Sq k1 K H l1 ys->ys[i]?=some x1)/\(∀ys,Sq k2 K H l2 ys->ys[i]?=some x2),
  λi H=>∃ys1 ys2,Sq k1 K H l1 ys1/\Sq k2 K H l2 ys2/\(ys1.length<=i\/ys2.length<=i)⟩
theorem turn_zip2{P:Program}{w:World}{K:j0}{es:List Expr}{kk:Nat}{pos:Pos}(k1:Kd)(k2:Kd)(z TI TO i1 i2 l1 l2:Addr)(D:ZAp2 z TI TO i1 i2 l1 l2):Turn P w K (.Tuple es kk pos) (Itz2 K k1 k2 l1 l2) [z,TI,TO,i1,i2] z
  (λi h=>IsZip h z TI TO .none/\IsTup2 h TI (.ref i1) (.ref i2)/\(∃a1 a2,IsTup2 h TO a1 a2)/\ItAt k1 h i1 l1 i/\ItAt k2 h i2 l2 i) where
 mem:=by simp
 obj:=λi h st b hb=>by
  obtain⟨hz,hTI,⟨a1,a2,hTO⟩,t1,t2⟩:=st
  have hb:b=z\/b=TI\/b=TO\/b=i1\/b=i2:=by simpa using hb
  rcases hb with rfl|rfl|rfl|rfl|rfl
  ·exact ⟨_,hz,λv e=>by cases e⟩
  ·exact ⟨_,hTI,λv e=>by cases e⟩
  ·exact ⟨_,hTO,λv e=>by cases e⟩
  ·exact t1.obj
  ·exact t2.obj
 keep:=λi h h' st k=>by
  obtain⟨hz,hTI,⟨a1,a2,hTO⟩,t1,t2⟩:=st
  exact ⟨k _ (by simp) _ hz,k _ (by simp) _ hTI,⟨a1,a2,k _ (by simp) _ hTO⟩,t1.at λo e=>k _ (by simp) _ e,t2.at λo e=>k _ (by simp) _ e⟩
 item:=by
  intro X hP hw hK hc i pins s σ H E I hf st hg
  subst hP hw hK
  obtain⟨hz,hTI,⟨a1,a2,hTO⟩,t1,t2⟩:=st
  obtain⟨ys1,x1,ys2,x2,q1,q2,e1,e2⟩:=hg
  obtain⟨its1,rv1,p1,z1⟩:=I.sq q1
  obtain⟨u1,hu1,ru1⟩:=rv1.get e1
  obtain⟨its2,rv2,p2,z2⟩:=I.sq q2
  obtain⟨u2,hu2,ru2⟩:=rv2.get e2
  refine next_zip_item2 D hz hTI hTO t1 t2 p1 p2 (show its1.toArray[i]?=some u1 by simpa using hu1) (show its2.toArray[i]?=some u2 by simpa using hu2) λh' b1 b2 c1 c2 b5 b6 b7=>?_
  have hTn:s.heap.objs.size≠z:=j1 (B0 hz)
  refine ⟨_,rfl,wpAny_letOwnedTupleGo_zip (s:={ s with heap:=h' }) b1 λh2 hz2 hs2=>?_⟩
  have kp:∀b o,b∉[z,TI,TO,i1,i2]->s.heap.get? b=some o->h2.get? b=some o:=λb o hb e=>by
   have hb:b≠z/\b≠TI/\b≠TO/\b≠i1/\b≠i2:=by simpa using hb
   obtain⟨g1,g2,g3,f1,f2⟩:=hb
   exact hs2.extBut _ _ g1 (b7 b o g1 g3 f1 f2 e)
  have hTI2:IsTup2 h2 TI (.ref i1) (.ref i2):=hs2.extBut _ _ D.TIz (b7 TI _ D.TIz (J1 D.TOTI) (J1 D.i1TI) (J1 D.i2TI) hTI)
  have hT2:IsTup2 h2 s.heap.objs.size u1 u2:=hs2.extBut _ _ hTn b5
  have hfr:H s.heap.objs.size=none:=I.hok.fresh (N0 _)
  have I2:Inv X pins σ (upd H s.heap.objs.size (.tup [x1,x2])) { s with heap:=h2 }:=by
   have nfp:∀b u,H b=some u->b∉[z,TI,TO,i1,i2]:=λb u e hb=>by have:=(hf b hb).1;rw[e]at this;cases this
   refine I.step (g':=s.gens) (d':=s.drawn) (ch:=[z,TI,TO,i1,i2]) (λb hb=>?_) (λb o _ _ hc' e _=>kp b o hc' e) (λb o _ _ hc' e _=>⟨o.slots,kp b o hc' e⟩) (λb o _ e n=>?_)
    (λb o hc' e=>⟨o,kp b o hc' e⟩) (λb xs e=>?_) (λb o xs e=>?_) (λb ps e=>⟨#[],?_⟩) (λm hm=>?_) (λb o e=>?_) I.bare
   ·obtain⟨f0,f1,f2,f3,f4,f5⟩:=hf b hb
    exact ⟨f3,f1,f4,f5⟩
   ·rw[upd_ne (S0 (B0 e))];exact n
   ·rw[upd_ne (ne_of_none e hfr)];exact e
   ·rw[upd_ne (ne_of_none e hfr)];exact e
   ·rw[upd_ne (ne_of_none e hfr),e];simp
   ·obtain⟨o,es',ep,ho,r⟩:=hm
    exact ⟨o,es',ep,kp _ o (λhb=>(hf _ hb).2.1 rfl) ho,r⟩
   ·by_cases hb:b=s.heap.objs.size
    ·subst hb
     rw[upd_same]at e
     cases e
     exact ⟨by show 2<=sizeLine;decide,[u1,u2],.cons ru1 (.cons ru2 .nil),_,hT2,rfl,_,rfl,rfl⟩
    ·rw[upd_ne hb]at e
     refine (I.hok b o e).stay (λc v hc' q=>kp c v ?_ q) (λc q=>by rw[upd_ne (ne_of_none q hfr)];exact q) λc xs q=>by rw[upd_ne (ne_of_none q hfr)];exact q
     rcases hc' with rfl|hc'
     ·exact nfp _ _ e
     ·exact nfp _ _ hc'
  refine ⟨.ref s.heap.objs.size,_,I2,rfl,⟨_,x1,x2,hfr,rfl,rfl,(λys hy=>by rw[I.sq_inj hy q1];exact e1),(λys hy=>by rw[I.sq_inj hy q2];exact e2)⟩,⟨hz2,hTI2,⟨u1,u2,hs2.extBut _ _ D.TOz b2⟩,c1.at λo e=>hs2.extBut _ _ D.i1z e,c2.at λo e=>hs2.extBut _ _ D.i2z e⟩,λb hb=>?_⟩
  rw[upd_ne ?_]
  ·exact (hf b hb).1
  ·intro e
   subst e
   have hb:s.heap.objs.size=z\/s.heap.objs.size=TI\/s.heap.objs.size=TO\/s.heap.objs.size=i1\/s.heap.objs.size=i2:=by simpa using hb
   rcases hb with e|e|e|e|e
   ·exact hTn e
   ·exact j1 (B0 hTI) e
   ·exact j1 (B0 hTO) e
   ·obtain⟨o,eo,_⟩:=t1.obj
    exact j1 (B0 eo) e
   ·obtain⟨o,eo,_⟩:=t2.obj
    exact j1 (B0 eo) e
 done:=by
  intro X hP hw hK hc i pins s σ H E I hf st hg
  subst hP hw hK
  obtain⟨hz,hTI,⟨a1,a2,hTO⟩,t1,t2⟩:=st
  obtain⟨ys1,ys2,q1,q2,hend⟩:=hg
  obtain⟨its1,rv1,p1,z1⟩:=I.sq q1
  have len1:=rv1.length
  obtain⟨its2,rv2,p2,z2⟩:=I.sq q2
  have len2:=rv2.length
  refine next_zip_end2 (I.ok.hd hc) D hz hTI hTO t1 t2 p1 p2 ?_ λh' kp=>⟨rfl,?_⟩
  ·rcases hend with h|h
   ·exact .inl (by simp;omega)
   ·exact .inr (by simp;omega)
  ·have nfp:∀b u,H b=some u->b∉[z,TI,TO,i1,i2]:=λb u e hb=>by have:=(hf b hb).1;rw[e]at this;cases this
   have kp':∀b o,b∉[z,TI,TO,i1,i2]->s.heap.get? b=some o->h'.get? b=some o:=λb o hb e=>by
    have hb:b≠z/\b≠TI/\b≠TO/\b≠i1/\b≠i2:=by simpa using hb
    obtain⟨g1,g2,g3,f1,f2⟩:=hb
    exact kp b o g1 g3 f1 f2 e
   refine I.step (g':=s.gens) (d':=s.drawn) (ch:=[z,TI,TO,i1,i2]) (λb hb=>?_) (λb o _ _ hc' e _=>kp' b o hc' e) (λb o _ _ hc' e _=>⟨o.slots,kp' b o hc' e⟩) (λb o _ e n=>n)
    (λb o hc' e=>⟨o,kp' b o hc' e⟩) (λb xs e=>e) (λb o xs e=>e) (λb ps e=>⟨#[],by rw[e];simp⟩) (λm hm=>?_) (λb o e=>?_) I.bare
   ·obtain⟨f0,f1,f2,f3,f4,f5⟩:=hf b hb
    exact ⟨f3,f1,f4,f5⟩
   ·obtain⟨o,es',ep,ho,r⟩:=hm
    exact ⟨o,es',ep,kp' _ o (λhb=>(hf _ hb).2.1 rfl) ho,r⟩
   ·refine (I.hok b o e).stay (λc v hc' q=>kp' c v ?_ q) (λ_ q=>q) λ_ _ q=>q
    rcases hc' with rfl|hc'
    ·exact nfp _ _ e
    ·exact nfp _ _ hc'
 self:=λ_ _ _ _ _ st h=>wpAny_pyIter_zip st.1 h
noncomputable def Itz3(K:j0)(k1:Kd)(k2:Kd)(k3:Kd)(l1 l2 l3:Addr):It :=
 ⟨λi H=>∃ys1 x1 ys2 x2 ys3 x3,Sq k1 K H l1 ys1/\Sq k2 K H l2 ys2/\Sq k3 K H l3 ys3/\ys1[i]?=some x1/\ys2[i]?=some x2/\ys3[i]?=some x3,
  λi H x H'=>∃T x1 x2 x3,H T=none/\x=.ref T/\H'=upd H T (.tup [x1,x2,x3])/\(∀ys,Sq k1 K H l1 ys->ys[i]?=some x1)/\(∀ys,Sq k2 K H l2 ys->ys[i]?=some x2)/\(∀ys,Sq k3 K H l3 ys->ys[i]?=some x3),
  λi H=>∃ys1 ys2 ys3,Sq k1 K H l1 ys1/\Sq k2 K H l2 ys2/\Sq k3 K H l3 ys3/\(ys1.length<=i\/ys2.length<=i\/ys3.length<=i)⟩
theorem turn_zip3{P:Program}{w:World}{K:j0}{es:List Expr}{kk:Nat}{pos:Pos}(k1:Kd)(k2:Kd)(k3:Kd)(z TI TO i1 i2 i3 l1 l2 l3:Addr)(D:ZAp3 z TI TO i1 i2 i3 l1 l2 l3):Turn P w K (.Tuple es kk pos) (Itz3 K k1 k2 k3 l1 l2 l3) [z,TI,TO,i1,i2,i3] z
  (λi h=>IsZip h z TI TO .none/\IsTup3 h TI (.ref i1) (.ref i2) (.ref i3)/\(∃a1 a2 a3,IsTup3 h TO a1 a2 a3)/\ItAt k1 h i1 l1 i/\ItAt k2 h i2 l2 i/\ItAt k3 h i3 l3 i) where
 mem:=by simp
 obj:=λi h st b hb=>by
  obtain⟨hz,hTI,⟨a1,a2,a3,hTO⟩,t1,t2,t3⟩:=st
  have hb:b=z\/b=TI\/b=TO\/b=i1\/b=i2\/b=i3:=by simpa using hb
  rcases hb with rfl|rfl|rfl|rfl|rfl|rfl
  ·exact ⟨_,hz,λv e=>by cases e⟩
  ·exact ⟨_,hTI,λv e=>by cases e⟩
  ·exact ⟨_,hTO,λv e=>by cases e⟩
  ·exact t1.obj
  ·exact t2.obj
  ·exact t3.obj
 keep:=λi h h' st k=>by
  obtain⟨hz,hTI,⟨a1,a2,a3,hTO⟩,t1,t2,t3⟩:=st
  exact ⟨k _ (by simp) _ hz,k _ (by simp) _ hTI,⟨a1,a2,a3,k _ (by simp) _ hTO⟩,t1.at λo e=>k _ (by simp) _ e,t2.at λo e=>k _ (by simp) _ e,t3.at λo e=>k _ (by simp) _ e⟩
 item:=by
  intro X hP hw hK hc i pins s σ H E I hf st hg
  subst hP hw hK
  obtain⟨hz,hTI,⟨a1,a2,a3,hTO⟩,t1,t2,t3⟩:=st
  obtain⟨ys1,x1,ys2,x2,ys3,x3,q1,q2,q3,e1,e2,e3⟩:=hg
  obtain⟨its1,rv1,p1,z1⟩:=I.sq q1
  obtain⟨u1,hu1,ru1⟩:=rv1.get e1
  obtain⟨its2,rv2,p2,z2⟩:=I.sq q2
  obtain⟨u2,hu2,ru2⟩:=rv2.get e2
  obtain⟨its3,rv3,p3,z3⟩:=I.sq q3
  obtain⟨u3,hu3,ru3⟩:=rv3.get e3
  refine next_zip_item3 D hz hTI hTO t1 t2 t3 p1 p2 p3 (show its1.toArray[i]?=some u1 by simpa using hu1) (show its2.toArray[i]?=some u2 by simpa using hu2) (show its3.toArray[i]?=some u3 by simpa using hu3) λh' b1 b2 c1 c2 c3 b5 b6 b7=>?_
  have hTn:s.heap.objs.size≠z:=j1 (B0 hz)
  refine ⟨_,rfl,wpAny_letOwnedTupleGo_zip (s:={ s with heap:=h' }) b1 λh2 hz2 hs2=>?_⟩
  have kp:∀b o,b∉[z,TI,TO,i1,i2,i3]->s.heap.get? b=some o->h2.get? b=some o:=λb o hb e=>by
   have hb:b≠z/\b≠TI/\b≠TO/\b≠i1/\b≠i2/\b≠i3:=by simpa using hb
   obtain⟨g1,g2,g3,f1,f2,f3⟩:=hb
   exact hs2.extBut _ _ g1 (b7 b o g1 g3 f1 f2 f3 e)
  have hTI2:IsTup3 h2 TI (.ref i1) (.ref i2) (.ref i3):=hs2.extBut _ _ D.TIz (b7 TI _ D.TIz (J1 D.TOTI) (J1 D.i1TI) (J1 D.i2TI) (J1 D.i3TI) hTI)
  have hT2:IsTup3 h2 s.heap.objs.size u1 u2 u3:=hs2.extBut _ _ hTn b5
  have hfr:H s.heap.objs.size=none:=I.hok.fresh (N0 _)
  have I2:Inv X pins σ (upd H s.heap.objs.size (.tup [x1,x2,x3])) { s with heap:=h2 }:=by
   have nfp:∀b u,H b=some u->b∉[z,TI,TO,i1,i2,i3]:=λb u e hb=>by have:=(hf b hb).1;rw[e]at this;cases this
   refine I.step (g':=s.gens) (d':=s.drawn) (ch:=[z,TI,TO,i1,i2,i3]) (λb hb=>?_) (λb o _ _ hc' e _=>kp b o hc' e) (λb o _ _ hc' e _=>⟨o.slots,kp b o hc' e⟩) (λb o _ e n=>?_)
    (λb o hc' e=>⟨o,kp b o hc' e⟩) (λb xs e=>?_) (λb o xs e=>?_) (λb ps e=>⟨#[],?_⟩) (λm hm=>?_) (λb o e=>?_) I.bare
   ·obtain⟨f0,f1,f2,f3,f4,f5⟩:=hf b hb
    exact ⟨f3,f1,f4,f5⟩
   ·rw[upd_ne (S0 (B0 e))];exact n
   ·rw[upd_ne (ne_of_none e hfr)];exact e
   ·rw[upd_ne (ne_of_none e hfr)];exact e
   ·rw[upd_ne (ne_of_none e hfr),e];simp
   ·obtain⟨o,es',ep,ho,r⟩:=hm
    exact ⟨o,es',ep,kp _ o (λhb=>(hf _ hb).2.1 rfl) ho,r⟩
   ·by_cases hb:b=s.heap.objs.size
    ·subst hb
     rw[upd_same]at e
     cases e
     exact ⟨by show 3<=sizeLine;decide,[u1,u2,u3],.cons ru1 (.cons ru2 (.cons ru3 .nil)),_,hT2,rfl,_,rfl,rfl⟩
    ·rw[upd_ne hb]at e
     refine (I.hok b o e).stay (λc v hc' q=>kp c v ?_ q) (λc q=>by rw[upd_ne (ne_of_none q hfr)];exact q) λc xs q=>by rw[upd_ne (ne_of_none q hfr)];exact q
     rcases hc' with rfl|hc'
     ·exact nfp _ _ e
     ·exact nfp _ _ hc'
  refine ⟨.ref s.heap.objs.size,_,I2,rfl,⟨_,x1,x2,x3,hfr,rfl,rfl,(λys hy=>by rw[I.sq_inj hy q1];exact e1),(λys hy=>by rw[I.sq_inj hy q2];exact e2),(λys hy=>by rw[I.sq_inj hy q3];exact e3)⟩,⟨hz2,hTI2,⟨u1,u2,u3,hs2.extBut _ _ D.TOz b2⟩,c1.at λo e=>hs2.extBut _ _ D.i1z e,c2.at λo e=>hs2.extBut _ _ D.i2z e,c3.at λo e=>hs2.extBut _ _ D.i3z e⟩,λb hb=>?_⟩
  rw[upd_ne ?_]
  ·exact (hf b hb).1
  ·intro e
   subst e
   have hb:s.heap.objs.size=z\/s.heap.objs.size=TI\/s.heap.objs.size=TO\/s.heap.objs.size=i1\/s.heap.objs.size=i2\/s.heap.objs.size=i3:=by simpa using hb
   rcases hb with e|e|e|e|e|e
   ·exact hTn e
   ·exact j1 (B0 hTI) e
   ·exact j1 (B0 hTO) e
   ·obtain⟨o,eo,_⟩:=t1.obj
    exact j1 (B0 eo) e
   ·obtain⟨o,eo,_⟩:=t2.obj
    exact j1 (B0 eo) e
   ·obtain⟨o,eo,_⟩:=t3.obj
    exact j1 (B0 eo) e
 done:=by
  intro X hP hw hK hc i pins s σ H E I hf st hg
  subst hP hw hK
  obtain⟨hz,hTI,⟨a1,a2,a3,hTO⟩,t1,t2,t3⟩:=st
  obtain⟨ys1,ys2,ys3,q1,q2,q3,hend⟩:=hg
  obtain⟨its1,rv1,p1,z1⟩:=I.sq q1
  have len1:=rv1.length
  obtain⟨its2,rv2,p2,z2⟩:=I.sq q2
  have len2:=rv2.length
  obtain⟨its3,rv3,p3,z3⟩:=I.sq q3
  have len3:=rv3.length
  refine next_zip_end3 (I.ok.hd hc) D hz hTI hTO t1 t2 t3 p1 p2 p3 ?_ λh' kp=>⟨rfl,?_⟩
  ·rcases hend with h|h|h
   ·exact .inl (by simp;omega)
   ·exact .inr (.inl (by simp;omega))
   ·exact .inr (.inr (by simp;omega))
  ·have nfp:∀b u,H b=some u->b∉[z,TI,TO,i1,i2,i3]:=λb u e hb=>by have:=(hf b hb).1;rw[e]at this;cases this
   have kp':∀b o,b∉[z,TI,TO,i1,i2,i3]->s.heap.get? b=some o->h'.get? b=some o:=λb o hb e=>by
    have hb:b≠z/\b≠TI/\b≠TO/\b≠i1/\b≠i2/\b≠i3:=by simpa using hb
    obtain⟨g1,g2,g3,f1,f2,f3⟩:=hb
    exact kp b o g1 g3 f1 f2 f3 e
   refine I.step (g':=s.gens) (d':=s.drawn) (ch:=[z,TI,TO,i1,i2,i3]) (λb hb=>?_) (λb o _ _ hc' e _=>kp' b o hc' e) (λb o _ _ hc' e _=>⟨o.slots,kp' b o hc' e⟩) (λb o _ e n=>n)
    (λb o hc' e=>⟨o,kp' b o hc' e⟩) (λb xs e=>e) (λb o xs e=>e) (λb ps e=>⟨#[],by rw[e];simp⟩) (λm hm=>?_) (λb o e=>?_) I.bare
   ·obtain⟨f0,f1,f2,f3,f4,f5⟩:=hf b hb
    exact ⟨f3,f1,f4,f5⟩
   ·obtain⟨o,es',ep,ho,r⟩:=hm
    exact ⟨o,es',ep,kp' _ o (λhb=>(hf _ hb).2.1 rfl) ho,r⟩
   ·refine (I.hok b o e).stay (λc v hc' q=>kp' c v ?_ q) (λ_ q=>q) λ_ _ q=>q
    rcases hc' with rfl|hc'
    ·exact nfp _ _ e
    ·exact nfp _ _ hc'
 self:=λ_ _ _ _ _ st h=>wpAny_pyIter_zip st.1 h
noncomputable def iZip2(K:j0)(ta:TA):TI:=λσ H R=>ta σ H λvs H1=>∃(k1:Kd) (l1:Addr) (ys1:List V) (k2:Kd) (l2:Addr) (ys2:List V),vs=[.ref l1,.ref l2]/\Sq k1 K H1 l1 ys1/\Sq k2 K H1 l2 ys2/\R (Itz2 K k1 k2 l1 l2) H1
theorem pi_zip2{X:Cx}{es:List Expr}{kk:Nat}{tpos:Pos}{a b:Expr}{ta:TA}{p pos:Pos}(hg:Gl X "zip")(hm:X.mg "zip"=none)(ha:PA X [a,b] ta)(hs:starEach [a,b] X.env=(false,eval a X.env) :: starEach [b] X.env:=by rfl)(hpl:(backTo pos (starEach [b] X.env)).any (·.1)=false:=by rfl) :
  PI X (.Tuple es kk tpos) (.Call (.Name "zip" p) [a,b] [] pos) (iZip2 X.K ta):=by
 intro pins s σ H R I h
 refine Call_ (ld_blt I hg hm boot_zip (Q2 (thn (ha pos pins s σ H _ I h) λus s1 ⟨vs,H1,I1,r1,q1⟩=>?_) hs hpl))
 obtain⟨k1,l1,ys1,k2,l2,ys2,e,q1,q2,q⟩:=q1
 subst e
 obtain rfl:us=[.ref l1,.ref l2]:=by
  cases r1 with|cons r rr=>cases r;cases rr with|cons r rr=>cases r;cases rr;rfl
 obtain⟨its1,rv1,p1,z1⟩:=I1.sq q1
 obtain⟨its2,rv2,p2,z2⟩:=I1.sq q2
 have lt:∀{k:Kd}{l:Addr}{xs:Array Value},SqAt k s1.heap l xs->l < s1.heap.objs.size:=λ{k l xs} p=>by
  cases k with
  | l=>obtain⟨o,e,_⟩:=p;exact B0 e
  | t=>obtain⟨o,e,_⟩:=p;exact B0 e
 refine callType_new F.called_zip (by decide) (F.typeCall_zip_2 _ _) (F.newCall_zip_2 _ _) (λobj=>F.args_object_init_3 obj _ _) F.entry_zip_new (zip_new2 k1 k2 l1 l2 its1.toArray its2.toArray) ⟨p1,p2,?_⟩
 have zI:(zh2I s1.heap k1 k2 l1 l2).objs.size=s1.heap.objs.size+2:=by simp[L1]
 have zT:(zh2T s1.heap k1 k2 l1 l2).objs.size=s1.heap.objs.size+3:=by simp[L1]
 have zO:(zh2O s1.heap k1 k2 l1 l2).objs.size=s1.heap.objs.size+4:=by simp[L1]
 have gZ:(zh2Z s1.heap k1 k2 l1 l2).get? (zh2O s1.heap k1 k2 l1 l2).objs.size=some _:=K0 _ rfl
 have gO:(zh2Z s1.heap k1 k2 l1 l2).get? (zh2T s1.heap k1 k2 l1 l2).objs.size=some _:=i0 _ (K0 _ rfl)
 have gT:(zh2Z s1.heap k1 k2 l1 l2).get? (zh2I s1.heap k1 k2 l1 l2).objs.size=some _:=i0 _ (i0 _ (K0 _ rfl))
 have g1:(zh2Z s1.heap k1 k2 l1 l2).get? s1.heap.objs.size=some (itObj k1 l1):=i0 _ (i0 _ (i0 _ (i0 _ (K0 _ (by cases k1<;>rfl)))))
 have g2:(zh2Z s1.heap k1 k2 l1 l2).get? (s1.heap.push (itObj k1 l1)).objs.size=some (itObj k2 l2):=i0 _ (i0 _ (i0 _ (K0 _ (by cases k2<;>rfl))))
 have zz2:(s1.heap.push (itObj k1 l1)).objs.size=s1.heap.objs.size+1:=by simp[L1]
 rw[zO,zT,zI]at gZ
 rw[zI,zz2]at gT
 rw[zT]at gO
 rw[zz2]at g2
 show _/\_
 rw[zO]
 have kp:∀b o,s1.heap.get? b=some o->(zh2Z s1.heap k1 k2 l1 l2).get? b=some o:=λb o e=>i0 _ (i0 _ (i0 _ (i0 _ (i0 _ (e)))))
 refine ⟨⟨_,gZ,rfl⟩,wpAny_pyIter_zip (s:={ s1 with heap:=zh2Z s1.heap k1 k2 l1 l2 }) gZ ?_⟩
 refine ⟨_,[s1.heap.objs.size+4,s1.heap.objs.size+2,s1.heap.objs.size+3,s1.heap.objs.size,s1.heap.objs.size+1],_,_,H1,rfl,I1.kept (t':=s1.toks) kp,turn_zip2 k1 k2 _ _ _ _ _ l1 l2 (zap2 _ l1 l2 (lt p1) (lt p2)),⟨gZ,gT,⟨_,_,gO⟩,ItAt.new k1 g1,ItAt.new k2 g2⟩,λb hb=>?_,q⟩
 have hb:s1.heap.objs.size<=b:=by
  have hb:b=s1.heap.objs.size+4\/b=s1.heap.objs.size+2\/b=s1.heap.objs.size+3\/b=s1.heap.objs.size\/b=s1.heap.objs.size+1:=by simpa using hb
  rcases hb with rfl|rfl|rfl|rfl|rfl
  all_goals first|exact j3 _ _|exact N0 _
 exact I1.fpOk hb (I1.hok.fresh hb)
noncomputable def iZip3(K:j0)(ta:TA):TI:=λσ H R=>ta σ H λvs H1=>∃(k1:Kd) (l1:Addr) (ys1:List V) (k2:Kd) (l2:Addr) (ys2:List V) (k3:Kd) (l3:Addr) (ys3:List V),vs=[.ref l1,.ref l2,.ref l3]/\Sq k1 K H1 l1 ys1/\Sq k2 K H1 l2 ys2/\Sq k3 K H1 l3 ys3/\R (Itz3 K k1 k2 k3 l1 l2 l3) H1
theorem typeCall_zip_3(a b c:Value):checkTypeCall "zip" ⟨[a,b,c],[]⟩=pure ():=by kernel_rfl
theorem newCall_zip_3(a b c:Value):checkBuiltinCall "zip.__new__" ⟨[.type "zip",a,b,c],[]⟩=pure ():=by kernel_rfl
theorem args_object_init_4(a b c d:Value):argsOk "object.__init__" ⟨[a,b,c,d],[]⟩:=by
 unfold argsOk;rw[signature?_of (id:="object.__init__") (n:=['_','_','t','i','n','i','_','_']) (o:=['t','c','e','j','b','o']) (by kernel_rfl) F.owner_object];kernel_rfl
theorem pi_zip3{X:Cx}{es:List Expr}{kk:Nat}{tpos:Pos}{a b c:Expr}{ta:TA}{p pos:Pos}(hg:Gl X "zip")(hm:X.mg "zip"=none)(ha:PA X [a,b,c] ta)(hs:starEach [a,b,c] X.env=(false,eval a X.env) :: starEach [b,c] X.env:=by rfl)(hpl:(backTo pos (starEach [b,c] X.env)).any (·.1)=false:=by rfl) :
  PI X (.Tuple es kk tpos) (.Call (.Name "zip" p) [a,b,c] [] pos) (iZip3 X.K ta):=by
 intro pins s σ H R I h
 refine Call_ (ld_blt I hg hm boot_zip (Q2 (thn (ha pos pins s σ H _ I h) λus s1 ⟨vs,H1,I1,r1,q1⟩=>?_) hs hpl))
 obtain⟨k1,l1,ys1,k2,l2,ys2,k3,l3,ys3,e,q1,q2,q3,q⟩:=q1
 subst e
 obtain rfl:us=[.ref l1,.ref l2,.ref l3]:=by
  cases r1 with|cons r rr=>cases r;cases rr with|cons r rr=>cases r;cases rr with|cons r rr=>cases r;cases rr;rfl
 obtain⟨its1,rv1,p1,z1⟩:=I1.sq q1
 obtain⟨its2,rv2,p2,z2⟩:=I1.sq q2
 obtain⟨its3,rv3,p3,z3⟩:=I1.sq q3
 have lt:∀{k:Kd}{l:Addr}{xs:Array Value},SqAt k s1.heap l xs->l < s1.heap.objs.size:=λ{k l xs} p=>by
  cases k with
  | l=>obtain⟨o,e,_⟩:=p;exact B0 e
  | t=>obtain⟨o,e,_⟩:=p;exact B0 e
 refine callType_new F.called_zip (by decide) (typeCall_zip_3 _ _ _) (newCall_zip_3 _ _ _) (λobj=>args_object_init_4 obj _ _ _) F.entry_zip_new (zip_new3 k1 k2 k3 l1 l2 l3 its1.toArray its2.toArray its3.toArray) ⟨p1,p2,p3,?_⟩
 have zI:(zh3I s1.heap k1 k2 k3 l1 l2 l3).objs.size=s1.heap.objs.size+3:=by simp[L1]
 have zT:(zh3T s1.heap k1 k2 k3 l1 l2 l3).objs.size=s1.heap.objs.size+4:=by simp[L1]
 have zO:(zh3O s1.heap k1 k2 k3 l1 l2 l3).objs.size=s1.heap.objs.size+5:=by simp[L1]
 have gZ:(zh3Z s1.heap k1 k2 k3 l1 l2 l3).get? (zh3O s1.heap k1 k2 k3 l1 l2 l3).objs.size=some _:=K0 _ rfl
 have gO:(zh3Z s1.heap k1 k2 k3 l1 l2 l3).get? (zh3T s1.heap k1 k2 k3 l1 l2 l3).objs.size=some _:=i0 _ (K0 _ rfl)
 have gT:(zh3Z s1.heap k1 k2 k3 l1 l2 l3).get? (zh3I s1.heap k1 k2 k3 l1 l2 l3).objs.size=some _:=i0 _ (i0 _ (K0 _ rfl))
 have g1:(zh3Z s1.heap k1 k2 k3 l1 l2 l3).get? s1.heap.objs.size=some (itObj k1 l1):=i0 _ (i0 _ (i0 _ (i0 _ (i0 _ (K0 _ (by cases k1<;>rfl))))))
 have g2:(zh3Z s1.heap k1 k2 k3 l1 l2 l3).get? (s1.heap.push (itObj k1 l1)).objs.size=some (itObj k2 l2):=i0 _ (i0 _ (i0 _ (i0 _ (K0 _ (by cases k2<;>rfl)))))
 have zz2:(s1.heap.push (itObj k1 l1)).objs.size=s1.heap.objs.size+1:=by simp[L1]
 have g3:(zh3Z s1.heap k1 k2 k3 l1 l2 l3).get? ((s1.heap.push (itObj k1 l1)).push (itObj k2 l2)).objs.size=some (itObj k3 l3):=i0 _ (i0 _ (i0 _ (K0 _ (by cases k3<;>rfl))))
 have zz3:((s1.heap.push (itObj k1 l1)).push (itObj k2 l2)).objs.size=s1.heap.objs.size+2:=by simp[L1]
 rw[zO,zT,zI]at gZ
 rw[zI,zz2,zz3]at gT
 rw[zT]at gO
 rw[zz2]at g2
 rw[zz3]at g3
 show _/\_
 rw[zO]
 have kp:∀b o,s1.heap.get? b=some o->(zh3Z s1.heap k1 k2 k3 l1 l2 l3).get? b=some o:=λb o e=>i0 _ (i0 _ (i0 _ (i0 _ (i0 _ (i0 _ (e))))))
 refine ⟨⟨_,gZ,rfl⟩,wpAny_pyIter_zip (s:={ s1 with heap:=zh3Z s1.heap k1 k2 k3 l1 l2 l3 }) gZ ?_⟩
 refine ⟨_,[s1.heap.objs.size+5,s1.heap.objs.size+3,s1.heap.objs.size+4,s1.heap.objs.size,s1.heap.objs.size+1,s1.heap.objs.size+2],_,_,H1,rfl,I1.kept (t':=s1.toks) kp,turn_zip3 k1 k2 k3 _ _ _ _ _ _ l1 l2 l3 (zap3 _ l1 l2 l3 (lt p1) (lt p2) (lt p3)),⟨gZ,gT,⟨_,_,_,gO⟩,ItAt.new k1 g1,ItAt.new k2 g2,ItAt.new k3 g3⟩,λb hb=>?_,q⟩
 have hb:s1.heap.objs.size<=b:=by
  have hb:b=s1.heap.objs.size+5\/b=s1.heap.objs.size+3\/b=s1.heap.objs.size+4\/b=s1.heap.objs.size\/b=s1.heap.objs.size+1\/b=s1.heap.objs.size+2:=by simpa using hb
  rcases hb with rfl|rfl|rfl|rfl|rfl|rfl
  all_goals first|exact j3 _ _|exact N0 _
 exact I1.fpOk hb (I1.hok.fresh hb)
mutual
inductive Is (K:j0) (H:Hp):V->PyData->Prop
 | non:Is K H .non .none
 | bl (b):Is K H (.bl b) (.bool b)
 | int (i):Is K H (.int i) (.int i)
 | str (x):Is K H (.str x) (.str x)
 | lst {a xs ds}:SqL K H a xs->IsAll K H xs ds->Is K H (.ref a) (.list ds)
 | tup {a xs ds}:SqT K H a xs->IsAll K H xs ds->Is K H (.ref a) (.tuple ds)
inductive IsAll (K:j0) (H:Hp):List V->List PyData->Prop
 | nil:IsAll K H [] []
 | cons {x xs d ds}:Is K H x d->IsAll K H xs ds->IsAll K H (x :: xs) (d :: ds)
end
section
variable {X:Cx}{pins:List (Addr×Obj)}{σ:St}{H:Hp}{s:Shared}
mutual
theorem Is.reads(I:Inv X pins σ H s):∀{x:V}{d:PyData}{u:Value},Is X.K H x d->RelV x u->∃as,Reads s.heap u d as
 | _,_,_,.non,r=>by cases r;exact ⟨_,.none⟩
 | _,_,_,.bl b,r=>by cases r;exact ⟨_,.bool b⟩
 | _,_,_,.int i,r=>by obtain⟨t,rfl⟩:=r;exact ⟨_,.int i t⟩
 | _,_,_,.str x,r=>by obtain⟨t,rfl⟩:=r;exact ⟨_,.str x t⟩
 | _,_,_,.lst hq ha,r=>by
  cases r
  obtain⟨its,rv,⟨o,n,e,c,d,q⟩,z⟩:=I.list hq
  obtain⟨as,hr⟩:=IsAll.reads I ha rv
  exact ⟨_,.list e c q (by simpa using hr)⟩
 | _,_,_,.tup hq ha,r=>by
  cases r
  obtain⟨its,rv,⟨o,e,c,n,q⟩,z⟩:=I.tuple hq
  obtain⟨as,hr⟩:=IsAll.reads I ha rv
  exact ⟨_,.tuple e c q (by simpa using hr)⟩
theorem IsAll.reads(I:Inv X pins σ H s):∀{xs:List V}{ds:List PyData}{us:List Value},IsAll X.K H xs ds->Vals xs us->∃as,ReadsAll s.heap us ds as
 | _,_,_,.nil,.nil=>⟨_,.nil⟩
 | _,_,_,.cons h t,.cons r rr=>by
  obtain⟨as,a⟩:=Is.reads I h r
  obtain⟨bs,b⟩:=IsAll.reads I t rr
  exact ⟨_,.cons a b⟩
end
end
open PySem.SeqAt in
noncomputable def rEqD(K:j0)(neg:Bool):R2:=λx y H Q=>∃d e:PyData,Is K H x d/\Is K H y e/\shaped d=true/\shaped e=true/\noMix d e=true/\Q (.bl (if neg then !same d e else same d e)) H
theorem op_eqD{X:Cx}(hu:X.A.units+64 < cLine):OpR X (compareOp .Eq) (rEqD X.K false):=by
 intro pins s σ H x y v u Q I r1 r2 h
 obtain⟨d,e,i1,i2,s1,s2,nm,q⟩:=h
 obtain⟨as,a⟩:=i1.reads I r1
 obtain⟨bs,b⟩:=i2.reads I r2
 exact eq_dataH_same a b s1 s2 hu nm ⟨.bl _,H,I,rfl,q⟩
theorem op_neD{X:Cx}(hu:X.A.units+64 < cLine):OpR X (compareOp .NotEq) (rEqD X.K true):=by
 intro pins s σ H x y v u Q I r1 r2 h
 obtain⟨d,e,i1,i2,s1,s2,nm,q⟩:=h
 obtain⟨as,a⟩:=i1.reads I r1
 obtain⟨bs,b⟩:=i2.reads I r2
 exact ne_dataH_same a b s1 s2 hu nm ⟨.bl _,H,I,rfl,q⟩
structure Cal(P:Program)(w:World)(K:j0)(mg:Str->Option Value)(base:Heap)(k:Nat)(x:Str)(ps:List Str)(sp:Sp):Prop where
 ex:∃(f:Addr) (fd:FuncData),FnOk P w K mg base CX0 k f fd ps sp/\mg x=some (.ref f)/\W3 K (.ref f)=true/\Binds K fd ps []
theorem pe_fn{X:Cx}{k:Nat}{x:Str}{ps:List Str}{sp:Sp}{p pos:Pos}{e:Expr}{es:List Expr}{t:TA}(C:Cal X.prog X.w X.K X.mg X.base k x ps sp)(hr:Room k X.A)(ha:PA X (e :: es) t)(hg:Gl X x:=by rfl)
  (hdb:(x==("__debug__":Str))=false:=by decide) (he:starEach (e :: es) X.env=(false,eval e X.env) :: starEach es X.env:=by rfl) (hpl:(backTo pos (starEach es X.env)).any (·.1)=false:=by rfl) :
  PE X (.Call (.Name x p) (e :: es) [] pos) (tCall sp [] E0 t):=by
 obtain⟨f,fd,F,hm,hk,hb⟩:=C.ex
 exact pe_call F hr hg hm hk hb .nil pass0 ha hdb he hpl
noncomputable def compOk(ds:Scope)(N:List Str)(fr:List Nat)(sc:Scope):Bool :=
 decide (sc.kind=.function)&&(sc.names.all λy=>!decide (y.2=.cell)||decide (sc.names.lookup y.1=some .cell))&&(sc.names.all λy=>!decide (y.2=.local)||decide (sc.names.lookup y.1=some .local)) &&
 (sc.names.all λy=>!decide (y.2=.free)||(decide (ds.names.lookup y.1=some .cell)||decide (ds.names.lookup y.1=some .free))) &&
 (fr.all λi=>match N[i]? with|some x=>decide (sc.names.lookup x=some .free)|none=>false)
theorem compSc_of{X:Cx}{own:List Str}{fr:List Nat}{sc:Scope}(h:compOk X.env.scope X.N fr sc=true):CompSc X own fr sc:=by
 unfold compOk at h
 simp only[Y0,decide_eq_true_eq,X4,Bool.or_eq_true,Bool.not_eq_true',decide_eq_false_iff_not]at h
 obtain⟨⟨⟨⟨h1,h2⟩,h3⟩,h4⟩,h5⟩:=h
 refine ⟨h1,λy hy e=>?_,λy hy e=>?_,λy hy e=>?_,λi hi=>?_⟩
 ·rcases h2 y hy with z|z
  ·exact absurd e z
  ·exact z
 ·rcases h3 y hy with z|z
  ·exact absurd e z
  ·exact z
 ·rcases h4 y hy with z|z
  ·exact absurd e z
  ·exact z
 ·have:=h5 i hi
  cases q:X.N[i]? with
  | none=>rw[q]at this;cases this
  | some x=>rw[q]at this;exact ⟨x,rfl,of_decide_eq_true this⟩
noncomputable def CompW(J:It)(own:List Str)(fr:List Nat)(g:TG)(tc:TT)(te:TE)(σ:St)(H:Hp)(Q:VK):Prop :=
 ∃W:Nat->Nat->List V->St->Hp->Prop,(∃m,W 0 m [] (st0 own σ fr) H)/\∀i m ys τ H,W i m ys τ H ->
   (J.stop i H/\∀D,H D=none->Q (.ref D) (upd H D (.lst ys))) \/
   (J.go i H/\ys.length < sizeLine/\∃N:List V->St->Hp->Prop,(∀ys' τ' H',N ys' τ' H'->∃m',m' < m/\W (i+1) m' ys' τ' H')/\∀x H',J.yld i H x H'->g x τ H' λτ2 H2 =>
     tc τ2 H2 λb H3=>if b=true then te τ2 H3 λy H4=>N (ys++[y]) τ2 H4 else N ys τ2 H3)
noncomputable def tCompW(wi:TI)(own:List Str)(fr:List Nat)(g:TG)(tc:TT)(te:TE):TE:=λσ H Q=>wi σ H λJ H1=>CompW J own fr g tc te σ H1 Q
theorem pe_compW{X:Cx}{tg iter elt:Expr}{ifs:List Expr}{sc:Scope}{pos:Pos}{own:List Str}{fr:List Nat}{wi:TI}{g:TG}{tc:TT}{te:TE}(hc:X.calm=true)(S:CompSc X own fr sc)(hi:PI X tg iter wi)
  (hg:∀C s H ex,PG (cxComp X own fr sc C s H ex) tg g) (hif:∀C s H ex,PIf (cxComp X own fr sc C s H ex) ifs tc) (he:∀C s H ex,PE (cxComp X own fr sc C s H ex) elt te)
  (hs:∀x,foldedSetIterable iter X.env x=pure x:=by intro _;rfl):PE X (.ListComp elt [⟨tg,iter,ifs,0⟩] sc pos) (tCompW wi own fr g tc te):=pe_comp hc S hi hg hif he hs
theorem ps_setCompW{X:Cx}{tg iter elt:Expr}{ifs:List Expr}{sc:Scope}{pos spos py:Pos}{i:Nat}{y:Str}{own:List Str}{fr:List Nat}{wi:TI}{g:TG}{tc:TT}{te:TE}(hN:X.N.Nodup)(hy:X.N[i]?=some y)(hl:X.env.scope.names.lookup y=some .local)(hc:X.calm=true)(S:CompSc X own fr sc)(hi:PI X tg iter wi)
  (hg:∀C s H ex,PG (cxComp X own fr sc C s H ex) tg g) (hif:∀C s H ex,PIf (cxComp X own fr sc C s H ex) ifs tc) (he:∀C s H ex,PE (cxComp X own fr sc C s H ex) elt te)
  (hsw:swapsWith (.ListComp elt [⟨tg,iter,ifs,0⟩] sc pos) (some (.Name y py)) spos.line X.env=pure true:=by rfl)
  (hs:∀x,foldedSetIterable iter X.env x=pure x:=by intro _;rfl):PS X (.Assign [.Name y py] (.ListComp elt [⟨tg,iter,ifs,0⟩] sc pos) spos) (tAsg (tCompW wi own fr g tc te) (gName i)):=ps_setComp hN hy hl hc S hi hg hif he hsw hs
section
variable {X:Cx}{K:j0}
theorem ix_listK(h:X.K=K):IxR X (rIxL K):=by subst h;exact ix_list
theorem ix_tupK(h:X.K=K):IxR X (rIxT K):=by subst h;exact ix_tup
noncomputable def rLen(K:j0):List V->Hp->VK->Prop:=λxs H Q=>∃(p:Addr) (ys:List V),xs=[.ref p]/\(SqL K H p ys\/SqT K H p ys)/\Q (.int ys.length) H
theorem call_lenK(h:X.K=K):CallR X (.builtin "len") (rLen K):=by subst h;exact call_len_seq
noncomputable def rListOf(K:j0):List V->Hp->VK->Prop:=λxs H Q=>∃(p:Addr) (ys:List V),xs=[.ref p]/\(SqL K H p ys\/SqT K H p ys)/\∀l,H l=none->Q (.ref l) (upd H l (.lst ys))
theorem call_listK(h:X.K=K):CallR X (.type "list") (rListOf K):=by subst h;exact call_list_of
noncomputable def rTupleOf(K:j0):List V->Hp->VK->Prop:=λxs H Q=>∃(p:Addr) (ys:List V),xs=[.ref p]/\((SqL K H p ys/\∀l,H l=none->Q (.ref l) (upd H l (.tup ys)))\/(SqT K H p ys/\Q (.ref p) H))
theorem call_tupleK(h:X.K=K):CallR X (.type "tuple") (rTupleOf K):=by subst h;exact call_tuple_of
theorem call_allK(h:X.K=K)(hc:X.calm=true):CallR X (.builtin "all") (rAll K):=by subst h;exact call_all hc
theorem op_eqDK(h:X.K=K)(hu:X.A.units+64 < cLine):OpR X (compareOp .Eq) (rEqD K false):=by subst h;exact op_eqD hu
theorem op_neDK(h:X.K=K)(hu:X.A.units+64 < cLine):OpR X (compareOp .NotEq) (rEqD K true):=by subst h;exact op_neD hu
theorem pi_zip2K{es:List Expr}{kk:Nat}{tpos:Pos}{a b:Expr}{ta:TA}{p pos:Pos}(h:X.K=K)(hg:Gl X "zip")(hm:X.mg "zip"=none)(ha:PA X [a,b] ta)(hs:starEach [a,b] X.env=(false,eval a X.env) :: starEach [b] X.env:=by rfl)(hpl:(backTo pos (starEach [b] X.env)).any (·.1)=false:=by rfl) :
  PI X (.Tuple es kk tpos) (.Call (.Name "zip" p) [a,b] [] pos) (iZip2 K ta):=by subst h;exact pi_zip2 hg hm ha hs hpl
theorem pi_zip3K{es:List Expr}{kk:Nat}{tpos:Pos}{a b c:Expr}{ta:TA}{p pos:Pos}(h:X.K=K)(hg:Gl X "zip")(hm:X.mg "zip"=none)(ha:PA X [a,b,c] ta)(hs:starEach [a,b,c] X.env=(false,eval a X.env) :: starEach [b,c] X.env:=by rfl)(hpl:(backTo pos (starEach [b,c] X.env)).any (·.1)=false:=by rfl) :
  PI X (.Tuple es kk tpos) (.Call (.Name "zip" p) [a,b,c] [] pos) (iZip3 K ta):=by subst h;exact pi_zip3 hg hm ha hs hpl
theorem pg_tupK{es:List Expr}{k:Nat}{t:TGs}{n:Nat}{pos:Pos}(h:X.K=K)(hc:X.calm=true)(hh:PGs X es t)(hn:(assignEach es X.env).length=n:=by rfl)(hst:(assignEach es X.env).findIdx? (·.1)=none:=by rfl):PG X (.Tuple es k pos) (gTup K n t):=by subst h;exact pg_tup hc hh hn hst
end
theorem cat_tup0{prog:Program}{w:World}{A:Around}{E:Value->Shared->Prop}{s:Shared}{t b:Addr}{ws:List Value}{Q:Value->Shared->Prop}(ht:IsTup s.heap t ([]:List Value).toArray)(hb:IsTup s.heap b ws.toArray)(h:Q (.ref b) s):wpAny (model prog w) A (binaryOp .Add (.ref t) (.ref b)) Q E s:=by
 obtain⟨⟨cls,dd,data,sl⟩,ho,hc,n,hd⟩:=id ht
 obtain⟨⟨cls2,dd2,data2,sl2⟩,ho2,hc2,n2,hd2⟩:=id hb
 simp only at hc hd hc2 hd2
 subst hc hd hc2 hd2
 exact concat_meets ⟨_,ho,rfl⟩ ⟨_,ho2,rfl⟩ noFill_tuple_add seq_tuple_add PySem.F.slot_tuple_add PySem.F.entry_tuple_add (PySem.F.args_tuple_add_2 _ _) (tuple_addW0 t b _ ws.toArray n n2 dd dd2 sl sl2 rfl) ⟨ho,ho2,h⟩
section
variable {prog:Program}{w:World}{A:Around}{E:Value->Shared->Prop}{s:Shared}
end
theorem boot_rev:bootBuiltins "reversed"=some (.type "reversed"):=by decide +kernel
open PySem PySem.Spec
noncomputable abbrev opqO(a:Addr):HO:=.ext λh=>∃o es ep,h.get? a=some o/\o.ExactDict/\o.data=.dict es ep
noncomputable def hL(k:List Int):Int:=reduceHash (Q6 (k.map hashInt))
noncomputable def hB(k:List Int×List Int):Int:=reduceHash (Q6 [hL k.1,hL k.2])
noncomputable abbrev extD{κ:Type}(hs:κ->Int)(a:Addr)(ep:Nat)(xs:List (κ×Addr×V)):HO:=.ext λh=>(∃vs:List (κ×Addr×Value),Paired (λx v=>x.1=v.1/\x.2.1=v.2.1/\RelV x.2.2 v.2.2) xs vs /\
  ∃o es,h.get? a=some o/\o.ExactDict/\o.data=.dict es ep/\es.toList=vs.map λx=>⟨hs x.1,.ref x.2.1,x.2.2⟩)/\(xs.map (·.1)).Nodup/\xs.length<=sizeLine/\(a==sysModules)=false
noncomputable abbrev excO(a C:Addr):HO:=.ext λh=>∃o vs,h.get? a=some o/\o.cls=.ref C/\o.data=.fields vs
end L2
namespace L3
open PySem PySem.Spec L2
noncomputable abbrev D:=PyData
noncomputable abbrev Fg:=j0
noncomputable def Sub(F H:Hp):Prop:=∀a o,F a=some o->H a=some o
theorem Sub.refl(H:Hp):Sub H H:=λ_ _ h=>h
theorem Sub.trans{A B C:Hp}(h:Sub A B)(k:Sub B C):Sub A C:=λa o e=>k a o (h a o e)
theorem Sub.new{F:Hp}{a:Addr}{o:HO}(h:F a=none):Sub F (upd F a o):=λb u e=>by rw[upd_ne (ne_of_none e h)];exact e
theorem Sub.rd{F H:Hp}{a:Addr}{u:HO}(s:Sub F H):Rd F a u->Rd H a u
 | .inl h=>.inl (s _ _ h)
 | .inr ⟨o,h⟩=>.inr ⟨o,s _ _ h⟩
theorem Sub.sql{K:Fg}{F H:Hp}{a:Addr}{xs:List V}(s:Sub F H):SqL K F a xs->SqL K H a xs
 | .inl h=>.inl (s.rd h)
 | .inr h=>.inr h
noncomputable def keyD:Key->D
 | .inl i=>.int i
 | .inr x=>.str x
noncomputable abbrev scrD(ns:List Int):D:=.dict [(.none,.list (ns.map q0))]
noncomputable abbrev excD(C:Addr):D:=.dict [(.bool true,.int (C:Nat))]
noncomputable abbrev opqD:D:=.dict [(.bool false,.none)]
noncomputable abbrev pdD(ps:List (List Int×D)):D:=.dict [(.bool false,.list (ps.map λp=>.tuple [.tuple (p.1.map q0),p.2]))]
noncomputable abbrev bdD(ps:List ((List Int×List Int)×D)):D:=.dict [(.bool false,.tuple (ps.map λp=>.tuple [.tuple [.tuple (p.1.1.map q0),.tuple (p.1.2.map q0)],p.2]))]
mutual
inductive Da (K:Fg) (F:Hp):V->D->Prop
 | non:Da K F .non .none
 | bl (b):Da K F (.bl b) (.bool b)
 | int (i):Da K F (.int i) (.int i)
 | str (x):Da K F (.str x) (.str x)
 | lst {a xs ds}:F a=some (.lst xs)->DaAll K F xs ds->Da K F (.ref a) (.list ds)
 | tup {a xs ds}:F a=some (.tup xs)->DaAll K F xs ds->Da K F (.ref a) (.tuple ds)
 | dk {a kvs es}:Rd F a (.dK kvs)->DaKV K F kvs es->Da K F (.ref a) (.dict es)
 | dt {a kvs es}:Rd F a (.dT kvs)->DaKT K F kvs es->Da K F (.ref a) (.dict es)
 | scr {a ns}:SqL K F a (ns.map V.int)->Da K F (.ref a) (scrD ns)
 | exc {a C}:F a=some (excO a C)->Da K F (.ref a) (excD C)
 | opq {a}:F a=some (opqO a)->Da K F (.ref a) opqD
 | pd {a a' ep xs ps}:F a=some (extD hL a' ep xs)->DaPd K F xs ps->Da K F (.ref a) (pdD ps)
 | bd {a ep xs ps}:F a=some (extD hB a ep xs)->DaBd K F xs ps->Da K F (.ref a) (bdD ps)
inductive DaAll (K:Fg) (F:Hp):List V->List D->Prop
 | nil:DaAll K F [] []
 | cons {x xs d ds}:Da K F x d->DaAll K F xs ds->DaAll K F (x :: xs) (d :: ds)
inductive DaKV (K:Fg) (F:Hp):List (Key×V)->List (D×D)->Prop
 | nil:DaKV K F [] []
 | cons {k v d kvs es}:Da K F v d->DaKV K F kvs es->DaKV K F ((k,v) :: kvs) ((keyD k,d) :: es)
inductive DaKT (K:Fg) (F:Hp):List (List Key×V)->List (D×D)->Prop
 | nil:DaKT K F [] []
 | cons {ks v d kvs es}:Da K F v d->DaKT K F kvs es->DaKT K F ((ks,v) :: kvs) ((.tuple (ks.map keyD),d) :: es)
inductive DaPd (K:Fg) (F:Hp):List (List Int×Addr×V)->List (List Int×D)->Prop
 | nil:DaPd K F [] []
 | cons {k b v d xs ps}:F b=some (.tup (k.map V.int))->Da K F v d->DaPd K F xs ps->DaPd K F ((k,b,v) :: xs) ((k,d) :: ps)
inductive DaBd (K:Fg) (F:Hp):List ((List Int×List Int)×Addr×V)->List ((List Int×List Int)×D)->Prop
 | nil:DaBd K F [] []
 | cons {k b c e v d xs ps}:F b=some (.tup [.ref c,.ref e])->F c=some (.tup (k.1.map V.int))->F e=some (.tup (k.2.map V.int))->Da K F v d->DaBd K F xs ps->DaBd K F ((k,b,v) :: xs) ((k,d) :: ps)
end
section
variable {K:Fg}{F F':Hp}
mutual
theorem Da.mono(s:Sub F F'):∀{v:V}{d:D},Da K F v d->Da K F' v d
 | _,_,.non=>.non
 | _,_,.bl b=>.bl b
 | _,_,.int i=>.int i
 | _,_,.str x=>.str x
 | _,_,.lst h t=>.lst (s _ _ h) (DaAll.mono s t)
 | _,_,.tup h t=>.tup (s _ _ h) (DaAll.mono s t)
 | _,_,.dk h t=>.dk (s.rd h) (DaKV.mono s t)
 | _,_,.dt h t=>.dt (s.rd h) (DaKT.mono s t)
 | _,_,.scr h=>.scr (s.sql h)
 | _,_,.exc h=>.exc (s _ _ h)
 | _,_,.opq h=>.opq (s _ _ h)
 | _,_,.pd h t=>.pd (s _ _ h) (DaPd.mono s t)
 | _,_,.bd h t=>.bd (s _ _ h) (DaBd.mono s t)
theorem DaAll.mono(s:Sub F F'):∀{xs:List V}{ds:List D},DaAll K F xs ds->DaAll K F' xs ds
 | _,_,.nil=>.nil
 | _,_,.cons h t=>.cons (Da.mono s h) (DaAll.mono s t)
theorem DaKV.mono(s:Sub F F'):∀{xs:List (Key×V)}{ds:List (D×D)},DaKV K F xs ds->DaKV K F' xs ds
 | _,_,.nil=>.nil
 | _,_,.cons h t=>.cons (Da.mono s h) (DaKV.mono s t)
theorem DaKT.mono(s:Sub F F'):∀{xs:List (List Key×V)}{ds:List (D×D)},DaKT K F xs ds->DaKT K F' xs ds
 | _,_,.nil=>.nil
 | _,_,.cons h t=>.cons (Da.mono s h) (DaKT.mono s t)
theorem DaPd.mono(s:Sub F F'):∀{xs:List (List Int×Addr×V)}{ps:List (List Int×D)},DaPd K F xs ps->DaPd K F' xs ps
 | _,_,.nil=>.nil
 | _,_,.cons h v t=>.cons (s _ _ h) (Da.mono s v) (DaPd.mono s t)
theorem DaBd.mono(s:Sub F F'):∀{xs:List ((List Int×List Int)×Addr×V)}{ps:List ((List Int×List Int)×D)},DaBd K F xs ps->DaBd K F' xs ps
 | _,_,.nil=>.nil
 | _,_,.cons h h1 h2 v t=>.cons (s _ _ h) (s _ _ h1) (s _ _ h2) (Da.mono s v) (DaBd.mono s t)
end
theorem DaAll.length:∀{xs:List V}{ds:List D},DaAll K F xs ds->xs.length=ds.length
 | _,_,.nil=>rfl
 | _,_,.cons _ t=>by simp[DaAll.length t]
theorem DaAll.get:∀{xs:List V}{ds:List D}{i:Nat}{d:D},DaAll K F xs ds->ds[i]?=some d->∃v,xs[i]?=some v/\Da K F v d
 | _,_,_,_,.nil,e=>by simp at e
 | _,_,0,_,.cons h _,e=>by simp at e;subst e;exact ⟨_,rfl,h⟩
 | _,_,i+1,_,.cons _ t,e=>by
  obtain⟨v,a,b⟩:=DaAll.get (i:=i) t (by simpa using e)
  exact ⟨v,by simpa using a,b⟩
theorem DaAll.append:∀{xs ys:List V}{ds es:List D},DaAll K F xs ds->DaAll K F ys es->DaAll K F (xs++ys) (ds++es)
 | _,_,_,_,.nil,s=>s
 | _,_,_,_,.cons h t,s=>.cons h (DaAll.append t s)
theorem DaAll.set{v:V}{d:D}(h:Da K F v d):∀{xs:List V}{ds:List D} (i:Nat),DaAll K F xs ds->DaAll K F (xs.set i v) (ds.set i d)
 | _,_,_,.nil=>.nil
 | _,_,0,.cons _ t=>.cons h t
 | _,_,i+1,.cons q t=>.cons q (DaAll.set h i t)
theorem DaAll.take:∀{xs:List V}{ds:List D} (n:Nat),DaAll K F xs ds->DaAll K F (xs.take n) (ds.take n)
 | _,_,0,_=>.nil
 | _,_,_+1,.nil=>.nil
 | _,_,n+1,.cons h t=>.cons h (DaAll.take n t)
theorem DaAll.drop:∀{xs:List V}{ds:List D} (n:Nat),DaAll K F xs ds->DaAll K F (xs.drop n) (ds.drop n)
 | _,_,0,r=>r
 | _,_,_+1,.nil=>.nil
 | _,_,n+1,.cons _ t=>DaAll.drop n t
theorem DaAll.dropLast:∀{xs:List V}{ds:List D},DaAll K F xs ds->DaAll K F xs.dropLast ds.dropLast
 | _,_,.nil=>.nil
 | _,_,.cons _ .nil=>.nil
 | _,_,.cons h (.cons h' t)=>.cons h (DaAll.dropLast (.cons h' t))
theorem DaAll.rep{xs:List V}{ds:List D}(h:DaAll K F xs ds):∀k:Nat,DaAll K F (P1 k xs).flatten (P1 k ds).flatten
 | 0=>.nil
 | k+1=>by rw[P3,P3,B3,B3];exact h.append (DaAll.rep h k)
theorem DaAll.ints:∀ns:List Int,DaAll K F (ns.map V.int) (ns.map q0)
 | []=>.nil
 | n :: ns=>.cons (.int n) (DaAll.ints ns)
end
inductive Sl where
 | fz (d:D)|ow (d:D)|io (d:D)
noncomputable def Sl.d:Sl->D
 | .fz d=>d
 | .ow d=>d
 | .io d=>d
noncomputable def isOw:Sl->Bool
 | .fz _=>false
 | .ow _=>true
 | .io _=>true
noncomputable abbrev Ev:=List (Option Sl)
noncomputable def Own1(K:Fg)(F:Hp):HO->D->Prop
 | .lst xs,.list ds=>DaAll K F xs ds
 | .dK kvs,.dict es=>DaKV K F kvs es
 | .dT kvs,.dict es=>DaKT K F kvs es
 | .ext φ,.dict [(.bool false,.list L)]=>∃(a':Addr) (ep:Nat) (xs:List (List Int×Addr×V)) (ps:List (List Int×D)),HO.ext φ=extD hL a' ep xs/\L=ps.map (λp=>.tuple [.tuple (p.1.map q0),p.2])/\DaPd K F xs ps
 | _,_=>False
section
variable {K:Fg}{F F':Hp}{o:HO}{d:D}{a:Addr}
theorem Own1.ext{φ:Heap->Prop}(h:Own1 K F (.ext φ) d):∃(a':Addr) (ep:Nat) (xs:List (List Int×Addr×V)) (ps:List (List Int×D)),HO.ext φ=extD hL a' ep xs/\d=pdD ps/\DaPd K F xs ps:=by
 unfold Own1 at h
 split at h
 ·rename_i z;cases z
 ·rename_i z;cases z
 ·rename_i z;cases z
 ·rename_i z
  obtain⟨a',ep,xs,ps,e,rfl,t⟩:=h
  exact ⟨a',ep,xs,ps,z.trans e,rfl,t⟩
 ·exact h.elim
theorem Own1.mono(s:Sub F F')(h:Own1 K F o d):Own1 K F' o d:=by
 cases o with
 | ext φ =>
  obtain⟨a',ep,xs,ps,e,rfl,t⟩:=h.ext
  exact ⟨a',ep,xs,ps,e,rfl,t.mono s⟩
 | _=>cases d<;>first|exact DaAll.mono s h|exact DaKV.mono s h|exact DaKT.mono s h|exact h.elim
theorem Own1.da(h:Own1 K F o d)(e:F a=some o):Da K F (.ref a) d:=by
 cases o with
 | ext φ =>
  obtain⟨a',ep,xs,ps,z,rfl,t⟩:=h.ext
  rw[z]at e
  exact .pd e t
 | _=>cases d<;>first|exact .lst e h|exact .dk (.inl e) h|exact .dt (.inl e) h|exact h.elim
end
structure Gh where
 H0:Hp
 F0:Hp
 io:Nat->Option Addr
structure Rel(K:Fg)(G:Gh)(F:Hp)(σ:St)(H:Hp)(ρ:Ev):Prop where
 len:σ.length=ρ.length
 sub:Sub F H
 sub0:Sub G.F0 F
 fn:∀a o,F a=some o->G.F0 a=some o\/G.H0 a=none
 keep:∀a o,G.H0 a=some o->(∀i,G.io i≠some a)->H a=some o
 fz:∀(i:Nat) (d:D),ρ[i]?=some (some (Sl.fz d))->∃v,σ[i]?=some (some v)/\Da K F v d
 ow:∀(i:Nat) (s:Sl),ρ[i]?=some (some s)->isOw s=true->∃a o,σ[i]?=some (some (V.ref a))/\F a=none/\H a=some o/\Own1 K F o s.d
 new:∀(i:Nat) (d:D) (a:Addr),ρ[i]?=some (some (Sl.ow d))->σ[i]?=some (some (V.ref a))->G.H0 a=none
 io:∀(i:Nat) (a:Addr),G.io i=some a->∃d,ρ[i]?=some (some (Sl.io d))/\σ[i]?=some (some (V.ref a))
 ioi:∀(i:Nat) (d:D),ρ[i]?=some (some (Sl.io d))->∃a,G.io i=some a
 ap:∀(i j:Nat) (s t:Sl) (a:Addr),ρ[i]?=some (some s)->isOw s=true->ρ[j]?=some (some t)->isOw t=true->σ[i]?=some (some (V.ref a))->σ[j]?=some (some (V.ref a))->i=j
noncomputable def Res(K:Fg)(G:Gh)(F H:Hp)(σ:St)(ρ:Ev)(v:V):Sl->Prop
 | .fz d=>Da K F v d
 | .ow d=>∃a o,v=.ref a/\F a=none/\H a=some o/\Own1 K F o d/\G.H0 a=none/\∀(i:Nat) (s:Sl),ρ[i]?=some (some s)->isOw s=true->σ[i]?≠some (some (V.ref a))
 | .io _=>False
section
variable {K:Fg}{G:Gh}{F F' H:Hp}{σ:St}{ρ:Ev}{a:Addr}{o:HO}{d:D}{v:V}{s:Sl}
theorem Rel.bound(R:Rel K G F σ H ρ){i:Nat}(h:ρ[i]?=some (some s)):∃v,σ[i]?=some (some v):=by
 cases s with
 | fz d=>obtain⟨v,e,_⟩:=R.fz i d h;exact ⟨v,e⟩
 | ow d=>obtain⟨a,o,e,_⟩:=R.ow i _ h rfl;exact ⟨_,e⟩
 | io d=>obtain⟨a,o,e,_⟩:=R.ow i _ h rfl;exact ⟨_,e⟩
theorem Rel.h0(R:Rel K G F σ H ρ)(h:H a=none):G.H0 a=none:=by
 cases e:G.H0 a with
 | none=>rfl
 | some o =>
  by_cases q:∃i,G.io i=some a
  ·obtain⟨i,q⟩:=q
   obtain⟨d,h1,h2⟩:=R.io i a q
   obtain⟨a',o',h3,_,h4,_⟩:=R.ow i _ h1 rfl
   rw[h2]at h3
   cases h3
   rw[h]at h4;cases h4
  ·have:=R.keep a o e λi z=>q ⟨i,z⟩
   rw[h]at this;cases this
theorem Rel.f0(R:Rel K G F σ H ρ)(h:H a=none):F a=none:=by
 cases e:F a with
 | none=>rfl
 | some o=>rw[R.sub a o e]at h;cases h
theorem Rel.laid(R:Rel K G F σ H ρ)(h:H a=none):Rel K G F σ (upd H a o) ρ where
 len:=R.len
 sub:=λb u e=>by rw[upd_ne (ne_of_none (R.sub b u e) h)];exact R.sub b u e
 sub0:=R.sub0
 fn:=R.fn
 keep:=λb u e n=>by rw[upd_ne (ne_of_none (R.keep b u e n) h)];exact R.keep b u e n
 fz:=R.fz
 ow:=λi s e w=>by
  obtain⟨a',o',h1,h2,h3,h4⟩:=R.ow i s e w
  exact ⟨a',o',h1,h2,by rw[upd_ne (ne_of_none h3 h)];exact h3,h4⟩
 new:=R.new
 io:=R.io
 ioi:=R.ioi
 ap:=R.ap
theorem Rel.grow(R:Rel K G F σ H ρ)(h0:G.H0 a=none)(h:H a=some o)(hn:∀(i:Nat) (s:Sl),ρ[i]?=some (some s)->isOw s=true->σ[i]?≠some (some (V.ref a))):Sub F (upd F a o)/\Rel K G (upd F a o) σ H ρ:=by
 have sb:Sub F (upd F a o):=λb u e=>by
  by_cases z:b=a
  ·subst z;rw[upd_same,<- h];exact R.sub _ _ e
  ·rw[upd_ne z];exact e
 refine ⟨sb,R.len,λb u e=>?_,R.sub0.trans sb,λb u e=>?_,R.keep,λi d e=>?_,λi s e w=>?_,R.new,R.io,R.ioi,R.ap⟩
 ·by_cases z:b=a
  ·subst z;rw[upd_same]at e;rw[h];exact e
  ·rw[upd_ne z]at e;exact R.sub _ _ e
 ·by_cases z:b=a
  ·subst z;exact .inr h0
  ·rw[upd_ne z]at e;exact R.fn _ _ e
 ·obtain⟨v,h1,h2⟩:=R.fz i d e
  exact ⟨v,h1,h2.mono sb⟩
 ·obtain⟨a',o',h1,h2,h3,h4⟩:=R.ow i s e w
  have z:a'≠a:=λz=>hn i s e w (by rw[h1,z])
  exact ⟨a',o',h1,by rw[upd_ne z];exact h2,h3,h4.mono sb⟩
theorem Res.frz(R:Rel K G F σ H ρ)(r:Res K G F H σ ρ v s):∃F',Sub F F'/\Rel K G F' σ H ρ/\Da K F' v s.d:=by
 cases s with
 | fz d=>exact ⟨F,Sub.refl _,R,r⟩
 | ow d =>
  obtain⟨a,o,rfl,h1,h2,h3,h4,h5⟩:=r
  obtain⟨sb,R'⟩:=R.grow h4 h2 h5
  exact ⟨_,sb,R',(h3.mono sb).da upd_same⟩
 | io d=>exact r.elim
theorem Rel.newOw(R:Rel K G F σ H ρ)(h:H a=none)(w:Own1 K F o d):Rel K G F σ (upd H a o) ρ/\Res K G F (upd H a o) σ ρ (.ref a) (.ow d):=by
 refine ⟨R.laid h,a,o,rfl,R.f0 h,upd_same,w,R.h0 h,λi s e w z=>?_⟩
 obtain⟨a',o',h1,h2,h3,h4⟩:=R.ow i s e w
 rw[z]at h1
 cases h1
 rw[h]at h3;cases h3
theorem Rel.newTup(R:Rel K G F σ H ρ){xs:List V}{ds:List D}(h:H a=none)(w:DaAll K F xs ds) :
  Sub F (upd F a (.tup xs))/\Rel K G (upd F a (.tup xs)) σ (upd H a (.tup xs)) ρ/\Da K (upd F a (.tup xs)) (.ref a) (.tuple ds):=by
 have R1:Rel K G F σ (upd H a (.tup xs)) ρ:=R.laid h
 obtain⟨sb,R2⟩:=R1.grow (a:=a) (o:=.tup xs) (R.h0 h) upd_same λi s e w z=>by
  obtain⟨a',o',h1,h2,h3,h4⟩:=R.ow i s e w
  rw[z]at h1
  cases h1
  rw[h]at h3;cases h3
 exact ⟨sb,R2,.tup upd_same (w.mono sb)⟩
noncomputable def Sl.put:Sl->D->Sl
 | .fz _,d=>.fz d
 | .ow _,d=>.ow d
 | .io _,d=>.io d
theorem get_set{α:Type}{l:List α}{i j:Nat}{x y:α}(h:(l.set i x)[j]?=some y):(j=i/\y=x)\/(j≠i/\l[j]?=some y):=by
 by_cases z:i=j
 ·subst z
  rw[List.getElem?_set]at h
  simp at h
  exact .inl ⟨rfl,h.2.symm⟩
 ·rw[P0 z]at h
  exact .inr ⟨λq=>z q.symm,h⟩
theorem set_get{α:Type}{l:List α}{i:Nat}{x:α}(h:i < l.length):(l.set i x)[i]?=some x:=by simp[h]
theorem lt_of_get{α:Type}{l:List α}{i:Nat}{x:α}(h:l[i]?=some x):i < l.length:=(X0.mp h).1
theorem Rel.change(R:Rel K G F σ H ρ){i:Nat}{o':HO}{d':D}(h:ρ[i]?=some (some s))(w:isOw s=true)(ha:σ[i]?=some (some (V.ref a)))(q:Own1 K F o' d') :
  Rel K G F σ (upd H a o') (ρ.set i (some (s.put d'))):=by
 obtain⟨a0,o0,h1,h2,h3,h4⟩:=R.ow i s h w
 rw[ha]at h1;cases h1
 have sw:isOw (s.put d')=true:=by cases s<;>first|rfl|cases w
 have hl:=lt_of_get h
 refine ⟨by rw[N3];exact R.len,λb u e=>?_,R.sub0,R.fn,λb u e n=>?_,λj d e=>?_,λj t e wt=>?_,λj d b e eb=>?_,λj b e=>?_,λj d e=>?_,λj k t u b e1 w1 e2 w2 e3 e4=>?_⟩
 ·have z:b≠a:=λz=>by subst z;rw[h2]at e;cases e
  rw[upd_ne z];exact R.sub _ _ e
 ·by_cases z:b=a
  ·subst z
   cases s with
   | fz d=>cases w
   | ow d=>rw[R.new i d b h ha]at e;cases e
   | io d =>
    obtain⟨a',e'⟩:=R.ioi i d h
    obtain⟨d',_,e2⟩:=R.io i a' e'
    rw[ha]at e2;cases e2
    exact absurd e' (n i)
  ·rw[upd_ne z];exact R.keep _ _ e n
 ·rcases get_set e with⟨rfl,z⟩|⟨n,z⟩
  ·cases s<;>simp[Sl.put,isOw]at z w
  ·exact R.fz j d z
 ·rcases get_set e with⟨rfl,z⟩|⟨n,z⟩
  ·cases z
   exact ⟨a,o',ha,h2,upd_same,by cases s<;>first|exact q|cases w⟩
  ·obtain⟨b,u,g1,g2,g3,g4⟩:=R.ow j t z wt
   have nb:b≠a:=λx=>n (R.ap j i t s a z wt h w (by rw[g1,x]) ha)
   exact ⟨b,u,g1,g2,by rw[upd_ne nb];exact g3,g4⟩
 ·rcases get_set e with⟨rfl,z⟩|⟨n,z⟩
  ·cases s with
   | fz d=>cases w
   | ow d0=>exact R.new j d0 b h eb
   | io d=>cases z
  ·exact R.new j d b z eb
 ·obtain⟨d,e1,e2⟩:=R.io j b e
  by_cases z:j=i
  ·subst z
   rw[h]at e1
   cases e1
   exact ⟨d',by rw[set_get hl];rfl,e2⟩
  ·exact ⟨d,by rw[P0 (J1 z)];exact e1,e2⟩
 ·rcases get_set e with⟨rfl,z⟩|⟨n,z⟩
  ·cases s with
   | fz d=>cases w
   | ow d0=>cases z
   | io d0=>exact R.ioi j d0 h
  ·exact R.ioi j d z
 ·have f:∀(j:Nat) (t:Sl),(ρ.set i (some (s.put d')))[j]?=some (some t)->isOw t=true->∃t',ρ[j]?=some (some t')/\isOw t'=true:=λj t e wt=>by
   rcases get_set e with⟨rfl,z⟩|⟨n,z⟩
   ·exact ⟨s,h,w⟩
   ·exact ⟨t,z,wt⟩
  obtain⟨t',e1',w1'⟩:=f j t e1 w1
  obtain⟨u',e2',w2'⟩:=f k u e2 w2
  exact R.ap j k t' u' b e1' w1' e2' w2' e3 e4
theorem Rel.forget(R:Rel K G F σ H ρ){i:Nat}(h:ρ[i]?=some (some (Sl.ow d))):Rel K G F σ H (ρ.set i none):=by
 refine ⟨by rw[N3];exact R.len,R.sub,R.sub0,R.fn,R.keep,λj d e=>?_,λj t e wt=>?_,λj d b e eb=>?_,λj b e=>?_,λj d e=>?_,λj k t u b e1 w1 e2 w2 e3 e4=>?_⟩
 ·rcases get_set e with⟨rfl,z⟩|⟨n,z⟩
  ·cases z
  ·exact R.fz j d z
 ·rcases get_set e with⟨rfl,z⟩|⟨n,z⟩
  ·cases z
  ·exact R.ow j t z wt
 ·rcases get_set e with⟨rfl,z⟩|⟨n,z⟩
  ·cases z
  ·exact R.new j d b z eb
 ·obtain⟨d',e1,e2⟩:=R.io j b e
  have n:i≠j:=λz=>by subst z;rw[h]at e1;cases e1
  exact ⟨d',by rw[P0 n];exact e1,e2⟩
 ·rcases get_set e with⟨rfl,z⟩|⟨n,z⟩
  ·cases z
  ·exact R.ioi j d z
 ·rcases get_set e1 with⟨rfl,z⟩|⟨n,z⟩
  ·cases z
  ·rcases get_set e2 with⟨rfl,z'⟩|⟨n',z'⟩
   ·cases z'
   ·exact R.ap j k t u b z w1 z' w2 e3 e4
theorem Rel.freeze(R:Rel K G F σ H ρ){i:Nat}(h:ρ[i]?=some (some (Sl.ow d))):∃F' v,Sub F F'/\Rel K G F' σ H (ρ.set i (some (Sl.fz d)))/\σ[i]?=some (some v)/\Da K F' v d:=by
 obtain⟨a,o,h1,h2,h3,h4⟩:=R.ow i _ h rfl
 have hl:=lt_of_get h
 have R1:=R.forget h
 have hn:∀(j:Nat) (s:Sl),(ρ.set i none)[j]?=some (some s)->isOw s=true->σ[j]?≠some (some (V.ref a)):=λj s e w z=>by
  rcases get_set e with⟨rfl,q⟩|⟨n,q⟩
  ·cases q
  ·exact n (R.ap j i s _ a q w h rfl z h1)
 obtain⟨sb,R2⟩:=R1.grow (R.new i d a h h1) h3 hn
 have dd:Da K (upd F a o) (.ref a) d:=(h4.mono sb).da upd_same
 refine ⟨_,_,sb,?_,h1,dd⟩
 refine ⟨by rw[N3];exact R.len,R2.sub,R2.sub0,R2.fn,R2.keep,λj d' e=>?_,λj t e wt=>?_,λj d b e eb=>?_,λj b e=>?_,λj d e=>?_,λj k t u b e1 w1 e2 w2 e3 e4=>?_⟩
 ·rcases get_set e with⟨rfl,z⟩|⟨n,z⟩
  ·cases z;exact ⟨_,h1,dd⟩
  ·exact R2.fz j d' (by rw[P0 (J1 n)];exact z)
 ·rcases get_set e with⟨rfl,z⟩|⟨n,z⟩
  ·cases z;cases wt
  ·exact R2.ow j t (by rw[P0 (J1 n)];exact z) wt
 ·rcases get_set e with⟨rfl,z⟩|⟨n,z⟩
  ·cases z
  ·exact R.new j d b z eb
 ·obtain⟨d',e1,e2⟩:=R.io j b e
  have n:i≠j:=λz=>by subst z;rw[h]at e1;cases e1
  exact ⟨d',by rw[P0 n];exact e1,e2⟩
 ·rcases get_set e with⟨rfl,z⟩|⟨n,z⟩
  ·cases z
  ·exact R.ioi j d z
 ·rcases get_set e1 with⟨rfl,z⟩|⟨n,z⟩
  ·cases z;cases w1
  ·rcases get_set e2 with⟨rfl,z'⟩|⟨n',z'⟩
   ·cases z';cases w2
   ·exact R.ap j k t u b z w1 z' w2 e3 e4
theorem Rel.forgetRes(R:Rel K G F σ H ρ){i:Nat}(h:ρ[i]?=some (some (Sl.ow d))):∃v,σ[i]?=some (some v)/\Res K G F H σ (ρ.set i none) v (.ow d):=by
 obtain⟨a,o,h1,h2,h3,h4⟩:=R.ow i _ h rfl
 refine ⟨_,h1,a,o,rfl,h2,h3,h4,R.new i d a h h1,λj s e w z=>?_⟩
 rcases get_set e with⟨rfl,q⟩|⟨n,q⟩
 ·cases q
 ·exact n (R.ap j i s _ a q w h rfl z h1)
noncomputable def noIo(ρ:Ev)(i:Nat):Prop:=match ρ[i]? with
 | some (some (Sl.io _))=>False
 | some _=>True
 | none=>False
theorem Rel.asg(R:Rel K G F σ H ρ){i:Nat}(hi:noIo ρ i)(r:Res K G F H σ ρ v s):Rel K G F (σ.set i (some v)) H (ρ.set i (some s)):=by
 have hl:i < ρ.length:=by
  cases e:ρ[i]? with
  | none=>unfold noIo at hi;rw[e]at hi;exact hi.elim
  | some x=>exact lt_of_get e
 have hl':i < σ.length:=by rw[R.len];exact hl
 have ni:∀d,ρ[i]?≠some (some (Sl.io d)):=λd e=>by unfold noIo at hi;rw[e]at hi;exact hi
 refine ⟨by rw[N3,N3];exact R.len,R.sub,R.sub0,R.fn,R.keep,λj d e=>?_,λj t e wt=>?_,λj d b e eb=>?_,λj b e=>?_,λj d e=>?_,λj k t u b e1 w1 e2 w2 e3 e4=>?_⟩
 ·rcases get_set e with⟨rfl,z⟩|⟨n,z⟩
  ·cases z;exact ⟨v,set_get hl',r⟩
  ·rw[P0 (J1 n)];exact R.fz j d z
 ·rcases get_set e with⟨rfl,z⟩|⟨n,z⟩
  ·cases z
   cases s with
   | fz d=>cases wt
   | ow d =>
    obtain⟨a,o,rfl,h1,h2,h3,_⟩:=r
    exact ⟨a,o,set_get hl',h1,h2,h3⟩
   | io d=>exact r.elim
  ·rw[P0 (J1 n)];exact R.ow j t z wt
 ·rcases get_set e with⟨rfl,z⟩|⟨n,z⟩
  ·cases z
   obtain⟨a,o,rfl,h1,h2,h3,h4,_⟩:=r
   rw[set_get hl']at eb;cases eb
   exact h4
  ·rw[P0 (J1 n)]at eb;exact R.new j d b z eb
 ·obtain⟨d,e1,e2⟩:=R.io j b e
  have n:i≠j:=λz=>by subst z;exact ni d e1
  exact ⟨d,by rw[P0 n];exact e1,by rw[P0 n];exact e2⟩
 ·rcases get_set e with⟨rfl,z⟩|⟨n,z⟩
  ·cases z;exact r.elim
  ·exact R.ioi j d z
 ·have own:∀(j:Nat) (t:Sl),j≠i->ρ[j]?=some (some t)->isOw t=true->(σ.set i (some v))[j]?=some (some (V.ref b))->s.d=s.d->isOw s=true->v=.ref b->False:=λj t n e w eb _ ws ev=>by
   subst ev
   cases s with
   | fz d=>cases ws
   | io d=>exact r
   | ow d =>
    obtain⟨a,o,z,h1,h2,h3,h4,h5⟩:=r
    cases z
    rw[P0 (J1 n)]at eb
    exact h5 j t e w eb
  rcases get_set e1 with⟨rfl,z⟩|⟨n,z⟩
  ·rcases get_set e2 with⟨rfl,z'⟩|⟨n',z'⟩
   ·rfl
   ·rw[set_get hl']at e3;cases e3
    cases z
    exact (own k u n' z' w2 e4 rfl w1 rfl).elim
  ·rcases get_set e2 with⟨rfl,z'⟩|⟨n',z'⟩
   ·rw[set_get hl']at e4;cases e4
    cases z'
    exact (own j t n z w1 e3 rfl w2 rfl).elim
   ·rw[P0 (J1 n)]at e3
    rw[P0 (J1 n')]at e4
    exact R.ap j k t u b z w1 z' w2 e3 e4
end
noncomputable abbrev TD:=Ev->(Sl->Ev->Prop)->Prop
noncomputable abbrev TTD:=Ev->(Bool->Ev->Prop)->Prop
noncomputable abbrev Opd:=Sum Nat D
noncomputable abbrev AD:=Sum Nat TD
noncomputable def lift(K:Fg)(td:TD):TE:=λσ H Q=>∃(G:Gh) (F:Hp) (ρ:Ev) (Qd:Sl->Ev->Prop),Rel K G F σ H ρ/\td ρ Qd /\
 ∀v H' F' r ρ',Sub F F'->Rel K G F' σ H' ρ'->Res K G F' H' σ ρ' v r->Qd r ρ'->Q v H'
noncomputable def liftT(K:Fg)(tc:TTD):TT:=λσ H Q=>∃(G:Gh) (F:Hp) (ρ:Ev) (Qd:Bool->Ev->Prop),Rel K G F σ H ρ/\tc ρ Qd /\
 ∀b H' F' ρ',Sub F F'->Rel K G F' σ H' ρ'->Qd b ρ'->Q b H'
noncomputable def argT(K:Fg):AD->TE
 | .inl i=>tVar i
 | .inr td=>lift K td
noncomputable def tArgs:List TE->TA
 | []=>tNil
 | t :: ts=>tCons t (tArgs ts)
theorem argT_mono{K:Fg}{a:AD}{σ:St}{H:Hp}{Q Q':VK}(m:∀v H,Q v H->Q' v H)(h:argT K a σ H Q):argT K a σ H Q':=by
 cases a with
 | inl i=>obtain⟨v,e,q⟩:=h;exact ⟨v,e,m _ _ q⟩
 | inr td =>
  obtain⟨G,F,ρ,Qd,R,w,k⟩:=h
  exact ⟨G,F,ρ,Qd,R,w,λv H' F' r ρ' s R' r' q=>m _ _ (k v H' F' r ρ' s R' r' q)⟩
theorem arg1{K:Fg}{a:AD}{σ:St}{H:Hp}{P:VK}(h:tArgs ([a].map (argT K)) σ H λvs H2=>∃x,vs=[x]/\P x H2):argT K a σ H P :=
 argT_mono (λv H q=>by obtain⟨x,e,q⟩:=q;cases e;exact q) h
theorem arg2{K:Fg}{a b:AD}{σ:St}{H:Hp}{P:V->V->Hp->Prop}(h:tArgs ([a,b].map (argT K)) σ H λvs H2=>∃x y,vs=[x,y]/\P x y H2):argT K a σ H λx H1=>argT K b σ H1 λy H2=>P x y H2 :=
 argT_mono (λv H q=>argT_mono (λu H q=>by obtain⟨x,y,e,q⟩:=q;cases e;exact q) q) h
noncomputable def dVar(i:Nat):TD:=λρ Q=>match ρ[i]? with
 | some (some (.fz d))=>Q (.fz d) ρ
 | some (some (.ow d))=>Q (.fz d) (ρ.set i (some (.fz d)))
 | _=>False
noncomputable def dC(d:D):TD:=λρ Q=>Q (.fz d) ρ
section
variable {K:Fg}{σ:St}{H:Hp}{Q:VK}
theorem l_var{i:Nat}(h:lift K (dVar i) σ H Q):tVar i σ H Q:=by
 obtain⟨G,F,ρ,Qd,R,w,k⟩:=h
 unfold dVar at w
 split at w
 ·rename_i d e
  obtain⟨v,e1,h1⟩:=R.fz i d e
  exact ⟨v,e1,k v H F (.fz d) ρ (Sub.refl _) R h1 w⟩
 ·rename_i d e
  obtain⟨F',v,sb,R',e1,h1⟩:=R.freeze e
  exact ⟨v,e1,k v H F' (.fz d) _ sb R' h1 w⟩
 ·exact w.elim
theorem l_c{v:V}{d:D}(hv:∀F,Da K F v d)(h:lift K (dC d) σ H Q):tC v σ H Q:=by
 obtain⟨G,F,ρ,Qd,R,w,k⟩:=h
 exact k v H F (.fz d) ρ (Sub.refl _) R (hv F) w
end
noncomputable def OpdAt(K:Fg)(F:Hp)(σ:St)(v:V):Opd->Prop
 | .inl i=>σ[i]?=some (some v)
 | .inr d=>Da K F v d
inductive OpdsAt (K:Fg) (F:Hp) (σ:St):List V->List Opd->Prop
 | nil:OpdsAt K F σ [] []
 | cons {v x vs xs}:OpdAt K F σ v x->OpdsAt K F σ vs xs->OpdsAt K F σ (v :: vs) (x :: xs)
theorem OpdAt.mono{K:Fg}{F F':Hp}{σ:St}{v:V}{x:Opd}(s:Sub F F')(h:OpdAt K F σ v x):OpdAt K F' σ v x:=by
 cases x with
 | inl i=>exact h
 | inr d=>exact Da.mono s h
noncomputable def dArgs:List AD->Ev->(List Opd->Ev->Prop)->Prop
 | [],ρ,Q=>Q [] ρ
 | .inl i :: as,ρ,Q=>match ρ[i]? with
  | some (some _)=>dArgs as ρ λxs ρ'=>Q (.inl i :: xs) ρ'
  | _=>False
 | .inr td :: as,ρ,Q=>td ρ λr ρ1=>dArgs as ρ1 λxs ρ2=>Q (.inr r.d :: xs) ρ2
theorem args_okL{K:Fg}{G:Gh}{σ:St}:∀{as:List AD}{F H:Hp}{ρ:Ev}{Qd:List Opd->Ev->Prop}{Qv:List V->Hp->Prop},Rel K G F σ H ρ->dArgs as ρ Qd ->
  (∀vs H' F' xs ρ',Sub F F'->Rel K G F' σ H' ρ'->OpdsAt K F' σ vs xs->vs.length=as.length->Qd xs ρ'->Qv vs H')->tArgs (as.map (argT K)) σ H Qv
 | [],F,H,ρ,Qd,Qv,R,w,k=>k [] H F [] ρ (Sub.refl _) R .nil rfl w
 | .inl i :: as,F,H,ρ,Qd,Qv,R,w,k=>by
  unfold dArgs at w
  split at w
  ·rename_i s e
   obtain⟨v,ev⟩:=R.bound e
   refine ⟨v,ev,args_okL (as:=as) R w λvs H' F' xs ρ' sb R' o hl q=>?_⟩
   exact k (v :: vs) H' F' (.inl i :: xs) ρ' sb R' (.cons ev o) (by simp[hl]) q
  ·exact w.elim
 | .inr td :: as,F,H,ρ,Qd,Qv,R,w,k=>by
  refine ⟨G,F,ρ,_,R,w,λv H1 F1 r ρ1 s1 R1 r1 w1=>?_⟩
  obtain⟨F2,s2,R2,d2⟩:=r1.frz R1
  refine args_okL (as:=as) R2 w1 λvs H' F' xs ρ' sb R' o hl q=>?_
  exact k (v :: vs) H' F' (.inr r.d :: xs) ρ' (s1.trans (s2.trans sb)) R' (.cons (d2.mono sb) o) (by simp[hl]) q
theorem args_ok{K:Fg}{G:Gh}{σ:St}{as:List AD}{F H:Hp}{ρ:Ev}{Qd:List Opd->Ev->Prop}{Qv:List V->Hp->Prop}(R:Rel K G F σ H ρ)(w:dArgs as ρ Qd)
  (k:∀vs H' F' xs ρ',Sub F F'->Rel K G F' σ H' ρ'->OpdsAt K F' σ vs xs->Qd xs ρ'->Qv vs H'):tArgs (as.map (argT K)) σ H Qv:=args_okL R w λvs H' F' xs ρ' s R' o _ q=>k vs H' F' xs ρ' s R' o q
noncomputable def At(K:Fg)(F H:Hp)(v:V)(d:D):Prop:=Da K F v d\/∃a o,v=.ref a/\F a=none/\H a=some o/\Own1 K F o d
inductive AtAll (K:Fg) (F H:Hp):List V->List D->Prop
 | nil:AtAll K F H [] []
 | cons {v d vs ds}:At K F H v d->AtAll K F H vs ds->AtAll K F H (v :: vs) (d :: ds)
noncomputable def looksQ(ρ:Ev):List Opd->(List D->Prop)->Prop
 | [],k=>k []
 | .inr d :: xs,k=>looksQ ρ xs λds=>k (d :: ds)
 | .inl i :: xs,k=>match ρ[i]? with
  | some (some s)=>looksQ ρ xs λds=>k (s.d :: ds)
  | _=>False
section
variable {K:Fg}{G:Gh}{F H:Hp}{σ:St}{ρ:Ev}
theorem Rel.at(R:Rel K G F σ H ρ){i:Nat}{s:Sl}{v:V}(e:ρ[i]?=some (some s))(ev:σ[i]?=some (some v)):At K F H v s.d:=by
 cases s with
 | fz d =>
  obtain⟨v',e1,h1⟩:=R.fz i d e
  rw[ev]at e1;cases e1
  exact .inl h1
 | ow d =>
  obtain⟨a,o,h1,h2,h3,h4⟩:=R.ow i _ e rfl
  rw[ev]at h1;cases h1
  exact .inr ⟨a,o,rfl,h2,h3,h4⟩
 | io d =>
  obtain⟨a,o,h1,h2,h3,h4⟩:=R.ow i _ e rfl
  rw[ev]at h1;cases h1
  exact .inr ⟨a,o,rfl,h2,h3,h4⟩
theorem looks_ok(R:Rel K G F σ H ρ){xs:List Opd}{vs:List V}{k:List D->Prop}(o:OpdsAt K F σ vs xs)(h:looksQ ρ xs k):∃ds,AtAll K F H vs ds/\k ds:=by
 induction o generalizing k with
 | nil=>exact ⟨[],.nil,h⟩
 | @cons v x vs xs o t ih =>
  cases x with
  | inr d =>
   obtain⟨ds,a,q⟩:=ih (k:=λds=>k (d :: ds)) h
   exact ⟨d :: ds,.cons (.inl o) a,q⟩
  | inl i =>
   unfold looksQ at h
   split at h
   ·rename_i s e
    obtain⟨ds,a,q⟩:=ih (k:=λds=>k (s.d :: ds)) h
    exact ⟨s.d :: ds,.cons (R.at e o) a,q⟩
   ·exact h.elim
end
noncomputable def dOp(as:List AD)(f:List D->(Sl->Prop)->Prop):TD:=λρ Q=>dArgs as ρ λxs ρ1=>looksQ ρ1 xs λds=>f ds λr=>Q r ρ1
noncomputable def OpOk(K:Fg)(r:List V->Hp->VK->Prop)(f:List D->(Sl->Prop)->Prop):Prop :=
 ∀(G:Gh) (F:Hp) (σ:St) (H:Hp) (ρ:Ev) (vs:List V) (ds:List D) (Q:VK) (Qd:Sl->Prop),Rel K G F σ H ρ->AtAll K F H vs ds->f ds Qd ->
  (∀v H' F' s,Sub F F'->Rel K G F' σ H' ρ->Res K G F' H' σ ρ v s->Qd s->Q v H')->r vs H Q
theorem l_op{K:Fg}{as:List AD}{r:List V->Hp->VK->Prop}{f:List D->(Sl->Prop)->Prop}(ok:OpOk K r f){σ:St}{H:Hp}{Q:VK}(h:lift K (dOp as f) σ H Q):tArgs (as.map (argT K)) σ H λvs H1=>r vs H1 Q:=by
 obtain⟨G,F,ρ,Qd,R,w,k⟩:=h
 refine args_ok R w λvs H' F' xs ρ' sb R' o q=>?_
 obtain⟨ds,ha,q⟩:=looks_ok R' o q
 exact ok G F' σ H' ρ' vs ds Q _ R' ha q λv H2 F2 s s2 R2 r2 q2=>k v H2 F2 s ρ' (sb.trans s2) R2 r2 q2
noncomputable def o1(f:D->(Sl->Prop)->Prop):List D->(Sl->Prop)->Prop
 | [x],Q=>f x Q
 | _,_=>False
noncomputable def o2(f:D->D->(Sl->Prop)->Prop):List D->(Sl->Prop)->Prop
 | [x,y],Q=>f x y Q
 | _,_=>False
noncomputable def o3(f:D->D->D->(Sl->Prop)->Prop):List D->(Sl->Prop)->Prop
 | [x,y,z],Q=>f x y z Q
 | _,_=>False
noncomputable def dTst(td:TD):TTD:=λρ Q=>td ρ λr ρ'=>match r with
 | .fz (.bool b)=>Q b ρ'
 | _=>False
noncomputable def dNot(c:TTD):TTD:=λρ Q=>c ρ λb ρ'=>Q (!b) ρ'
noncomputable def dAnd(c e:TTD):TTD:=λρ Q=>c ρ λb ρ'=>if b=true then e ρ' Q else Q false ρ'
noncomputable def dOr(c e:TTD):TTD:=λρ Q=>c ρ λb ρ'=>if b=true then Q true ρ' else e ρ' Q
noncomputable def dYes:TTD:=λρ Q=>Q true ρ
section
variable {K:Fg}{σ:St}{H:Hp}
theorem l_tst{td:TD}{t:TE}(ht:∀{σ H Q},lift K td σ H Q->t σ H Q){Q:Bool->Hp->Prop}(h:liftT K (dTst td) σ H Q):tTest t σ H Q:=by
 obtain⟨G,F,ρ,Qd,R,w,k⟩:=h
 refine ht ⟨G,F,ρ,_,R,w,λv H' F' r ρ' sb R' r' q=>?_⟩
 split at q
 ·rename_i b
  cases r'
  exact ⟨b,rfl,k b H' F' ρ' sb R' q⟩
 ·exact q.elim
theorem l_not{c:TTD}{Q:Bool->Hp->Prop}(h:liftT K (dNot c) σ H Q):tNot (liftT K c) σ H Q:=by
 obtain⟨G,F,ρ,Qd,R,w,k⟩:=h
 exact ⟨G,F,ρ,_,R,w,λb H' F' ρ' sb R' q=>k (!b) H' F' ρ' sb R' q⟩
theorem l_and{c e:TTD}{Q:Bool->Hp->Prop}(h:liftT K (dAnd c e) σ H Q):tAnd (liftT K c) (liftT K e) σ H Q:=by
 obtain⟨G,F,ρ,Qd,R,w,k⟩:=h
 refine ⟨G,F,ρ,_,R,w,λb H' F' ρ' sb R' q=>?_⟩
 cases b with
 | true=>exact ⟨G,F',ρ',Qd,R',q,λb H2 F2 ρ2 s2 R2 q2=>k b H2 F2 ρ2 (sb.trans s2) R2 q2⟩
 | false=>exact k false H' F' ρ' sb R' q
theorem l_or{c e:TTD}{Q:Bool->Hp->Prop}(h:liftT K (dOr c e) σ H Q):tOr (liftT K c) (liftT K e) σ H Q:=by
 obtain⟨G,F,ρ,Qd,R,w,k⟩:=h
 refine ⟨G,F,ρ,_,R,w,λb H' F' ρ' sb R' q=>?_⟩
 cases b with
 | true=>exact k true H' F' ρ' sb R' q
 | false=>exact ⟨G,F',ρ',Qd,R',q,λb H2 F2 ρ2 s2 R2 q2=>k b H2 F2 ρ2 (sb.trans s2) R2 q2⟩
theorem l_yes{Q:Bool->Hp->Prop}(h:liftT K dYes σ H Q):tYes σ H Q:=by
 obtain⟨G,F,ρ,Qd,R,w,k⟩:=h
 exact k true H F ρ (Sub.refl _) R w
end
noncomputable def dAndV(a b:TD):TD:=λρ Q=>a ρ λr ρ'=>match r with
 | .fz (.bool c)=>if c=true then b ρ' Q else Q (.fz (.bool false)) ρ'
 | _=>False
noncomputable def dOrV(a b:TD):TD:=λρ Q=>a ρ λr ρ'=>match r with
 | .fz (.bool c)=>if c=true then Q (.fz (.bool true)) ρ' else b ρ' Q
 | _=>False
noncomputable def dNotV(a:TD):TD:=λρ Q=>a ρ λr ρ'=>match r with
 | .fz (.bool c)=>Q (.fz (.bool (!c))) ρ'
 | _=>False
noncomputable def dIf(c:TTD)(a b:TD):TD:=λρ Q=>c ρ λk ρ'=>if k=true then a ρ' Q else b ρ' Q
section
variable {K:Fg}{σ:St}{H:Hp}{Q:VK}{a b:TD}{c:TTD}
theorem l_andV(h:lift K (dAndV a b) σ H Q):tAndV (lift K a) (lift K b) σ H Q:=by
 obtain⟨G,F,ρ,Qd,R,w,k⟩:=h
 refine ⟨G,F,ρ,_,R,w,λv H' F' r ρ' sb R' r' q=>?_⟩
 split at q
 ·rename_i c
  cases r'
  refine ⟨c,rfl,?_⟩
  cases c with
  | true=>exact ⟨G,F',ρ',Qd,R',q,λv H2 F2 r ρ2 s2 R2 r2 q2=>k v H2 F2 r ρ2 (sb.trans s2) R2 r2 q2⟩
  | false=>exact k _ H' F' (.fz (.bool false)) ρ' sb R' (Da.bl false) q
 ·exact q.elim
theorem l_orV(h:lift K (dOrV a b) σ H Q):tOrV (lift K a) (lift K b) σ H Q:=by
 obtain⟨G,F,ρ,Qd,R,w,k⟩:=h
 refine ⟨G,F,ρ,_,R,w,λv H' F' r ρ' sb R' r' q=>?_⟩
 split at q
 ·rename_i c
  cases r'
  refine ⟨c,rfl,?_⟩
  cases c with
  | true=>exact k _ H' F' (.fz (.bool true)) ρ' sb R' (Da.bl true) q
  | false=>exact ⟨G,F',ρ',Qd,R',q,λv H2 F2 r ρ2 s2 R2 r2 q2=>k v H2 F2 r ρ2 (sb.trans s2) R2 r2 q2⟩
 ·exact q.elim
theorem l_notV(h:lift K (dNotV a) σ H Q):tNotV (lift K a) σ H Q:=by
 obtain⟨G,F,ρ,Qd,R,w,k⟩:=h
 refine ⟨G,F,ρ,_,R,w,λv H' F' r ρ' sb R' r' q=>?_⟩
 split at q
 ·rename_i c
  cases r'
  exact ⟨c,rfl,k _ H' F' (.fz (.bool (!c))) ρ' sb R' (Da.bl (!c)) q⟩
 ·exact q.elim
theorem l_if(h:lift K (dIf c a b) σ H Q):tIf (liftT K c) (lift K a) (lift K b) σ H Q:=by
 obtain⟨G,F,ρ,Qd,R,w,k⟩:=h
 refine ⟨G,F,ρ,_,R,w,λx H' F' ρ' sb R' q=>?_⟩
 cases x with
 | true=>exact ⟨G,F',ρ',Qd,R',q,λv H2 F2 r ρ2 s2 R2 r2 q2=>k v H2 F2 r ρ2 (sb.trans s2) R2 r2 q2⟩
 | false=>exact ⟨G,F',ρ',Qd,R',q,λv H2 F2 r ρ2 s2 R2 r2 q2=>k v H2 F2 r ρ2 (sb.trans s2) R2 r2 q2⟩
end
theorem noIo_of{ρ:Ev}{i:Nat}{P:Prop}(h:match ρ[i]? with|some (some (.io _))=>False|some _=>P|none=>False):noIo ρ i/\P:=by
 unfold noIo
 cases e:ρ[i]? with
 | none=>rw[e]at h;exact h.elim
 | some x =>
  rw[e]at h
  cases x with
  | none=>exact ⟨trivial,h⟩
  | some s=>cases s with
   | fz d=>exact ⟨trivial,h⟩
   | ow d=>exact ⟨trivial,h⟩
   | io d=>exact h.elim
structure DE where
 nx:Ev->Prop
 rt:Sl->Ev->Prop
 bk:Ev->Prop
 ct:Ev->Prop
noncomputable abbrev TDS:=DE->Ev->Prop
noncomputable def liftS(K:Fg)(ts:TDS):TS:=λD σ H=>∃(G:Gh) (F:Hp) (ρ:Ev) (E:DE),Rel K G F σ H ρ/\ts E ρ /\
 (∀σ' H' F' ρ',Sub F F'->Rel K G F' σ' H' ρ'->E.nx ρ'->D.nx σ' H') /\
 (∀v σ' H' F' r ρ',Sub F F'->Rel K G F' σ' H' ρ'->Res K G F' H' σ' ρ' v r->E.rt r ρ'->D.rt v H') /\
 (∀σ' H' F' ρ',Sub F F'->Rel K G F' σ' H' ρ'->E.bk ρ'->D.bk σ' H') /\
 (∀σ' H' F' ρ',Sub F F'->Rel K G F' σ' H' ρ'->E.ct ρ'->D.ct σ' H')
noncomputable def dNext:TDS:=λE ρ=>E.nx ρ
noncomputable def dSeq(t u:TDS):TDS:=λE ρ=>t { nx:=λρ'=>u E ρ',rt:=E.rt,bk:=E.bk,ct:=E.ct } ρ
noncomputable def dRet(a:TD):TDS:=λE ρ=>a ρ E.rt
noncomputable def dDrop(a:TD):TDS:=λE ρ=>a ρ λ_ ρ'=>E.nx ρ'
noncomputable def dIfS(c:TTD)(t u:TDS):TDS:=λE ρ=>c ρ λb ρ'=>if b=true then t E ρ' else u E ρ'
noncomputable def dSet(i:Nat)(a:TD):TDS:=λE ρ=>a ρ λr ρ'=>match ρ'[i]? with
 | some (some (.io _))=>False
 | some _=>E.nx (ρ'.set i (some r))
 | none=>False
section
variable {K:Fg}{σ:St}{H:Hp}{E:Ends}{t u:TDS}{a:TD}{c:TTD}
theorem l_next(h:liftS K dNext E σ H):tNext E σ H:=by
 obtain⟨G,F,ρ,D,R,w,n,r,b,c⟩:=h
 exact n σ H F ρ (Sub.refl _) R w
theorem later{G:Gh}{F F1 H1:Hp}{ρ1:Ev}{σ1:St}{D:DE}{ts:TDS}(s:Sub F F1)(R:Rel K G F1 σ1 H1 ρ1)(w:ts D ρ1)
  (n:∀σ' H' F' ρ',Sub F F'->Rel K G F' σ' H' ρ'->D.nx ρ'->E.nx σ' H')
  (r:∀v σ' H' F' r ρ',Sub F F'->Rel K G F' σ' H' ρ'->Res K G F' H' σ' ρ' v r->D.rt r ρ'->E.rt v H')
  (b:∀σ' H' F' ρ',Sub F F'->Rel K G F' σ' H' ρ'->D.bk ρ'->E.bk σ' H')
  (c:∀σ' H' F' ρ',Sub F F'->Rel K G F' σ' H' ρ'->D.ct ρ'->E.ct σ' H'):liftS K ts E σ1 H1 :=
 ⟨G,F1,ρ1,D,R,w,λ_ _ _ _ s' R' q=>n _ _ _ _ (s.trans s') R' q,λ_ _ _ _ _ _ s' R' r' q=>r _ _ _ _ _ _ (s.trans s') R' r' q,
   λ_ _ _ _ s' R' q=>b _ _ _ _ (s.trans s') R' q,λ_ _ _ _ s' R' q=>c _ _ _ _ (s.trans s') R' q⟩
theorem l_seq(h:liftS K (dSeq t u) E σ H):tSeq (liftS K t) (liftS K u) E σ H:=by
 obtain⟨G,F,ρ,D,R,w,n,r,b,c⟩:=h
 exact ⟨G,F,ρ,_,R,w,λσ' H' F' ρ' s R' q=>later s R' q n r b c,r,b,c⟩
theorem l_ret(h:liftS K (dRet a) E σ H):tRet (lift K a) E σ H:=by
 obtain⟨G,F,ρ,D,R,w,n,r,b,c⟩:=h
 exact ⟨G,F,ρ,_,R,w,λv H' F' x ρ' s R' r' q=>r v σ H' F' x ρ' s R' r' q⟩
theorem l_drop(h:liftS K (dDrop a) E σ H):tDrop (lift K a) E σ H:=by
 obtain⟨G,F,ρ,D,R,w,n,r,b,c⟩:=h
 exact ⟨G,F,ρ,_,R,w,λv H' F' x ρ' s R' r' q=>n σ H' F' ρ' s R' q⟩
theorem l_ifS(h:liftS K (dIfS c t u) E σ H):tIfS (liftT K c) (liftS K t) (liftS K u) E σ H:=by
 obtain⟨G,F,ρ,D,R,w,n,r,b,c⟩:=h
 refine ⟨G,F,ρ,_,R,w,λx H' F' ρ' s R' q=>?_⟩
 cases x with
 | true=>exact later s R' q n r b c
 | false=>exact later s R' q n r b c
theorem l_set{i:Nat}(h:liftS K (dSet i a) E σ H):tAsg (lift K a) (gName i) E σ H:=by
 obtain⟨G,F,ρ,D,R,w,n,r,b,c⟩:=h
 refine ⟨G,F,ρ,_,R,w,λv H' F' x ρ' s R' r' q=>?_⟩
 have hn:=noIo_of q
 exact n _ H' F' _ s (R'.asg hn.1 r') hn.2
end
noncomputable def dRetV(i:Nat):TDS:=λE ρ=>match ρ[i]? with
 | some (some (.fz d))=>E.rt (.fz d) ρ
 | some (some (.ow d))=>E.rt (.ow d) (ρ.set i none)
 | _=>False
noncomputable def dMove(i j:Nat):TDS:=λE ρ=>match ρ[j]? with
 | some (some (.fz d))=>(match ρ[i]? with
   | some (some (.io _))=>False
   | some _=>E.nx (ρ.set i (some (.fz d)))
   | none=>False)
 | some (some (.ow d))=>(match (ρ.set j none)[i]? with
   | some (some (.io _))=>False
   | some _=>E.nx ((ρ.set j none).set i (some (.ow d)))
   | none=>False)
 | _=>False
section
variable {K:Fg}{σ:St}{H:Hp}{E:Ends}
theorem l_retV{i:Nat}(h:liftS K (dRetV i) E σ H):tRet (tVar i) E σ H:=by
 obtain⟨G,F,ρ,D,R,w,n,r,b,c⟩:=h
 unfold dRetV at w
 split at w
 ·rename_i d e
  obtain⟨v,e1,h1⟩:=R.fz i d e
  exact ⟨v,e1,r v σ H F (.fz d) ρ (Sub.refl _) R h1 w⟩
 ·rename_i d e
  obtain⟨v,e1,h1⟩:=R.forgetRes e
  exact ⟨v,e1,r v σ H F (.ow d) _ (Sub.refl _) (R.forget e) h1 w⟩
 ·exact w.elim
theorem l_move{i j:Nat}(h:liftS K (dMove i j) E σ H):tAsg (tVar j) (gName i) E σ H:=by
 obtain⟨G,F,ρ,D,R,w,n,r,b,c⟩:=h
 unfold dMove at w
 split at w
 ·rename_i d e
  obtain⟨v,e1,h1⟩:=R.fz j d e
  obtain⟨hn,w⟩:=noIo_of w
  exact ⟨v,e1,n _ H F _ (Sub.refl _) (R.asg (s:=.fz d) hn h1) w⟩
 ·rename_i d e
  obtain⟨v,e1,h1⟩:=R.forgetRes e
  obtain⟨hn,w⟩:=noIo_of w
  exact ⟨v,e1,n _ H F _ (Sub.refl _) ((R.forget e).asg (s:=.ow d) hn h1) w⟩
 ·exact w.elim
end
noncomputable abbrev TDG:=D->Ev->(Ev->Prop)->Prop
noncomputable def liftG(K:Fg)(g:TDG):TG:=λv σ H Q=>∃(G:Gh) (F:Hp) (ρ:Ev) (d:D) (Qd:Ev->Prop),Rel K G F σ H ρ/\Da K F v d/\g d ρ Qd/\∀σ' ρ',Rel K G F σ' H ρ'->Qd ρ'->Q σ' H
noncomputable def dGN(i:Nat):TDG:=λd ρ Q=>match ρ[i]? with
 | some (some (.io _))=>False
 | some _=>Q (ρ.set i (some (.fz d)))
 | none=>False
noncomputable def dGs:List TDG->List D->Ev->(Ev->Prop)->Prop
 | [],[],ρ,Q=>Q ρ
 | g :: gs,d :: ds,ρ,Q=>g d ρ λρ'=>dGs gs ds ρ' Q
 | _,_,_,_=>False
noncomputable def dGT(gs:List TDG):TDG:=λd ρ Q=>match d with
 | .tuple ds=>ds.length=gs.length/\dGs gs ds ρ Q
 | _=>False
noncomputable def gAll:List TG->TGs
 | []=>gNil
 | g :: gs=>gCons g (gAll gs)
section
variable {K:Fg}{σ:St}{H:Hp}{v:V}{Q:St->Hp->Prop}
theorem l_gn{i:Nat}(h:liftG K (dGN i) v σ H Q):gName i v σ H Q:=by
 obtain⟨G,F,ρ,d,Qd,R,hd,w,k⟩:=h
 obtain⟨hn,w⟩:=noIo_of w
 exact k _ _ (R.asg (s:=.fz d) hn hd) w
theorem l_gs{G:Gh}{F:Hp}:∀{gs:List TDG}{ds:List D}{vs:List V}{σ:St}{ρ:Ev}{Qd:Ev->Prop},Rel K G F σ H ρ->DaAll K F vs ds->dGs gs ds ρ Qd->(∀σ' ρ',Rel K G F σ' H ρ'->Qd ρ'->Q σ' H)->gAll (gs.map (liftG K)) vs σ H Q
 | [],[],_,σ,ρ,Qd,R,.nil,w,k=>⟨rfl,k σ ρ R w⟩
 | g :: gs,d :: ds,_,σ,ρ,Qd,R,.cons h t,w,k=>⟨_,_,rfl,G,F,ρ,d,_,R,h,w,λσ' ρ' R' w'=>l_gs (gs:=gs) R' t w' k⟩
 | [],_ :: _,_,σ,ρ,Qd,R,_,w,k=>by exact w.elim
 | _ :: _,[],_,σ,ρ,Qd,R,_,w,k=>by exact w.elim
theorem l_gt{gs:List TDG}{n:Nat}(hn:gs.length=n)(h:liftG K (dGT gs) v σ H Q):gTup K n (gAll (gs.map (liftG K))) v σ H Q:=by
 obtain⟨G,F,ρ,d,Qd,R,hd,w,k⟩:=h
 unfold dGT at w
 split at w
 ·cases hd with
  | tup e t=>exact ⟨_,_,rfl,SqT.of (R.sub _ _ e),by rw[t.length,w.1,hn],l_gs R t w.2 k⟩
 ·exact w.elim
end
noncomputable def Walks(K:Fg)(J:It)(F:Hp)(ds:List D):Prop:=∀(i:Nat) (H F1:Hp),Sub F F1->Sub F1 H ->
 (∀d,ds[i]?=some d->J.go i H/\∀x H',J.yld i H x H'->∃F2,Sub F1 F2/\(∀b o,F2 b=some o->F1 b=some o\/H b=none)/\Sub F2 H'/\Sub H H'/\Da K F2 x d)/\(ds.length=i->J.stop i H)
noncomputable abbrev TDI:=Ev->(List D->Ev->Prop)->Prop
noncomputable def liftI(K:Fg)(ti:TDI):TI:=λσ H R=>∃(G:Gh) (F:Hp) (ρ:Ev) (Qd:List D->Ev->Prop),Rel K G F σ H ρ/\ti ρ Qd /\
 ∀J H' F' ds ρ',Sub F F'->Rel K G F' σ H' ρ'->Walks K J F' ds->Qd ds ρ'->R J H'
theorem Rel.turn{K:Fg}{G:Gh}{F F2 H H':Hp}{σ:St}{ρ:Ev}(R:Rel K G F σ H ρ)(s:Sub F F2)(n:∀b o,F2 b=some o->F b=some o\/H b=none)(s2:Sub F2 H')(s3:Sub H H'):Rel K G F2 σ H' ρ where
 len:=R.len
 sub:=s2
 sub0:=R.sub0.trans s
 fn:=λb o e=>by
  rcases n b o e with q|q
  ·exact R.fn b o q
  ·exact .inr (R.h0 q)
 keep:=λa o e m=>s3 _ _ (R.keep a o e m)
 fz:=λi d e=>by
  obtain⟨v,h1,h2⟩:=R.fz i d e
  exact ⟨v,h1,h2.mono s⟩
 ow:=λi t e w=>by
  obtain⟨a,o,h1,h2,h3,h4⟩:=R.ow i t e w
  refine ⟨a,o,h1,?_,s3 _ _ h3,h4.mono s⟩
  cases q:F2 a with
  | none=>rfl
  | some u =>
   rcases n a u q with z|z
   ·rw[h2]at z;cases z
   ·rw[h3]at z;cases z
 new:=R.new
 io:=R.io
 ioi:=R.ioi
 ap:=R.ap
theorem drop_get{α:Type}{l:List α}{i:Nat}{x:α}(h:l[i]?=some x):l.drop i=x :: l.drop (i+1):=by
 obtain⟨hl,rfl⟩:=X0.mp h
 exact S6 hl
noncomputable def dWhile(c:TTD)(tb:TDS):TDS:=λE ρ=>∃W:Nat->Ev->Prop,(∃m,W m ρ)/\∀m ρ,W m ρ->c ρ λb ρ1=>if b=true then
 ∃N:Ev->Prop,(∀ρ',N ρ'->∃m',m' < m/\W m' ρ')/\tb { nx:=N,rt:=E.rt,bk:=E.nx,ct:=N } ρ1 else E.nx ρ1
theorem l_while{K:Fg}{c:TTD}{tb:TDS}{E:Ends}{σ:St}{H:Hp}(h:liftS K (dWhile c tb) E σ H):tWhile (liftT K c) (liftS K tb) E σ H:=by
 obtain⟨G,F,ρ,D,R,⟨W,⟨m0,w0⟩,st⟩,n,r,b,c⟩:=h
 refine ⟨λm σ H=>∃F' ρ',Sub F F'/\Rel K G F' σ H ρ'/\W m ρ',⟨m0,F,ρ,Sub.refl _,R,w0⟩,?_⟩
 rintro m σ H ⟨F',ρ',s',R',w'⟩
 refine ⟨G,F',ρ',_,R',st m ρ' w',λx H1 F1 ρ1 s1 R1 q=>?_⟩
 cases x with
 | false=>exact n σ H1 F1 ρ1 (s'.trans s1) R1 q
 | true =>
  obtain⟨N,hN,q⟩:=q
  refine ⟨λσ2 H2=>∃F2 ρ2,Sub F F2/\Rel K G F2 σ2 H2 ρ2/\N ρ2,λσ2 H2 ⟨F2,ρ2,z1,z2,z3⟩=>?_,?_⟩
  ·obtain⟨m',hm,hw⟩:=hN ρ2 z3
   exact ⟨m',hm,F2,ρ2,z1,z2,hw⟩
  ·refine ⟨G,F1,ρ1,_,R1,q,λσ4 H4 F4 ρ4 s4 R4 q=>?_,λv σ4 H4 F4 x4 ρ4 s4 R4 r4 q=>?_,λσ4 H4 F4 ρ4 s4 R4 q=>?_,λσ4 H4 F4 ρ4 s4 R4 q=>?_⟩
   ·exact ⟨F4,ρ4,s'.trans (s1.trans s4),R4,q⟩
   ·exact r v σ4 H4 F4 x4 ρ4 (s'.trans (s1.trans s4)) R4 r4 q
   ·exact n σ4 H4 F4 ρ4 (s'.trans (s1.trans s4)) R4 q
   ·exact ⟨F4,ρ4,s'.trans (s1.trans s4),R4,q⟩
noncomputable def capt:Option Sl->Option Sl
 | some (.ow d)=>some (.io d)
 | x=>x
noncomputable def innerE(own:List Str)(fr:List Nat)(ρ:Ev):Ev:=own.map (λ_=>none)++fr.map λi=>capt ((ρ[i]?).getD none)
noncomputable def wb1:Option Sl->Option (Option Sl)->Option Sl
 | some (.ow d),some (some (.io d'))=>some (.ow d')
 | some (.io d),some (some (.io d'))=>some (.io d')
 | x,_=>x
noncomputable def wbGo(fr:List Nat)(τ:Ev):Nat->Ev->Ev
 | _,[]=>[]
 | j,x :: ρ=>wb1 x ((fr.zip τ).lookup j) :: wbGo fr τ (j+1) ρ
theorem wbGo_get(fr:List Nat)(τ:Ev):∀(ρ:Ev) (j i:Nat),(wbGo fr τ j ρ)[i]?=(ρ[i]?).map λx=>wb1 x ((fr.zip τ).lookup (j+i))
 | [],j,i=>by simp[wbGo]
 | x :: ρ,j,0=>by simp[wbGo]
 | x :: ρ,j,i+1=>by
  have:=wbGo_get fr τ ρ (j+1) i
  simp only[wbGo,Y3]
  rw[this,show j+1+i=j+(i+1) by omega]
theorem wbGo_len(fr:List Nat)(τ:Ev):∀(ρ:Ev) (j:Nat),(wbGo fr τ j ρ).length=ρ.length
 | [],_=>rfl
 | x :: ρ,j=>by simp[wbGo,wbGo_len fr τ ρ (j+1)]
theorem zip_lookup:∀{fr:List Nat}{τ:Ev}{k i:Nat}{x:Option Sl},fr.Nodup->fr[k]?=some i->τ[k]?=some x->(fr.zip τ).lookup i=some x
 | [],_,_,_,_,_,e,_=>by simp at e
 | j :: fr,[],_,_,_,_,_,e=>by simp at e
 | j :: fr,y :: τ,0,i,x,_,e,e'=>by simp at e e';subst e e';simp[U6]
 | j :: fr,y :: τ,k+1,i,x,nd,e,e'=>by
  have nd':=M4.mp nd
  simp at e e'
  have hm:i∈fr:=Q1 e
  have ne:(i==j)=false:=by simp;intro z;subst z;exact nd'.1 hm
  simp[U6,ne]
  exact zip_lookup nd'.2 e e'
theorem zip_lookup_mem:∀{fr:List Nat}{τ:Ev}{i:Nat}{x:Option Sl},(fr.zip τ).lookup i=some x->∃k:Nat,fr[k]?=some i/\τ[k]?=some x
 | [],_,_,_,e=>by simp at e
 | j :: fr,[],_,_,e=>by simp at e
 | j :: fr,y :: τ,i,x,e=>by
  by_cases z:i=j
  ·subst z;simp[U6]at e;subst e;exact ⟨0,by simp,by simp⟩
  ·have ne:(i==j)=false:=by simp[z]
   simp[U6,ne]at e
   obtain⟨k,h1,h2⟩:=zip_lookup_mem e
   exact ⟨k+1,by simpa using h1,by simpa using h2⟩
noncomputable def ioOf(σ:St)(ρ:Ev)(i:Nat):Option Addr:=match ρ[i]?,σ[i]? with
 | some (some s),some (some (.ref a))=>if isOw s=true then some a else none
 | _,_=>none
theorem ioOf_some{σ:St}{ρ:Ev}{i:Nat}{a:Addr}(h:ioOf σ ρ i=some a):∃s,ρ[i]?=some (some s)/\isOw s=true/\σ[i]?=some (some (V.ref a)):=by
 unfold ioOf at h
 split at h
 ·rename_i s b e1 e2
  split at h
  ·rename_i w;cases h;exact ⟨s,e1,w,e2⟩
  ·cases h
 ·cases h
theorem ioOf_of{σ:St}{ρ:Ev}{i:Nat}{a:Addr}{s:Sl}(h1:ρ[i]?=some (some s))(h2:isOw s=true)(h3:σ[i]?=some (some (V.ref a))):ioOf σ ρ i=some a:=by
 unfold ioOf;rw[h1,h3];simp[h2]
noncomputable def ghC(own:List Str)(fr:List Nat)(F H:Hp)(σ:St)(ρ:Ev):Gh:=⟨H,F,λj=>if own.length<=j then (match fr[j - own.length]? with|some i=>ioOf σ ρ i|none=>none) else none⟩
theorem ghC_io{own:List Str}{fr:List Nat}{F H:Hp}{σ:St}{ρ:Ev}{j:Nat}{a:Addr}(h:(ghC own fr F H σ ρ).io j=some a):∃k i s,j=own.length+k/\fr[k]?=some i/\ρ[i]?=some (some s)/\isOw s=true/\σ[i]?=some (some (V.ref a)):=by
 unfold ghC at h
 simp only at h
 split at h
 ·rename_i hl
  split at h
  ·rename_i i e
   obtain⟨s,h1,h2,h3⟩:=ioOf_some h
   exact ⟨j - own.length,i,s,by omega,e,h1,h2,h3⟩
  ·cases h
 ·cases h
theorem ghC_of{own:List Str}{fr:List Nat}{F H:Hp}{σ:St}{ρ:Ev}{k i:Nat}{a:Addr}{s:Sl}(h0:fr[k]?=some i)(h1:ρ[i]?=some (some s))(h2:isOw s=true)(h3:σ[i]?=some (some (V.ref a))):(ghC own fr F H σ ρ).io (own.length+k)=some a:=by
 unfold ghC
 simp only
 rw[if_pos (j3 _ _),Nat.add_sub_cancel_left,h0]
 exact ioOf_of h1 h2 h3
theorem inner_get{α:Type}{own:List Str}{fr:List Nat}{f:Nat->Option α}{j:Nat}{x:α}(h:(own.map (λ_=>(none:Option α))++fr.map f)[j]?=some (some x)):∃k i,j=own.length+k/\fr[k]?=some i/\f i=some x:=by
 by_cases hl:j < own.length
 ·rw[W2 (by simpa using hl)]at h
  simp at h
 ·rw[U2 (by simpa using j7 hl)]at h
  simp at h
  obtain⟨i,h1,h2⟩:=h
  exact ⟨j - own.length,i,by omega,h1,h2⟩
theorem inner_of{α:Type}{own:List Str}{fr:List Nat}{f:Nat->Option α}{k i:Nat}(h:fr[k]?=some i):(own.map (λ_=>(none:Option α))++fr.map f)[own.length+k]?=some (f i):=by
 rw[U2 (by simp)]
 simp[h]
theorem capt_get{x:Option Sl}{s:Sl}(h:capt x=some s):∃s0,x=some s0/\((∃d,s0=.fz d/\s=.fz d)\/(isOw s0=true/\s=.io s0.d)):=by
 cases x with
 | none=>cases h
 | some s0 =>
  cases s0 with
  | fz d=>cases h;exact ⟨_,rfl,.inl ⟨d,rfl,rfl⟩⟩
  | ow d=>cases h;exact ⟨_,rfl,.inr ⟨rfl,rfl⟩⟩
  | io d=>cases h;exact ⟨_,rfl,.inr ⟨rfl,rfl⟩⟩
theorem getD_some{α:Type}{o:Option (Option α)}{x:α}(h:o.getD none=some x):o=some (some x):=by
 cases o with
 | none=>cases h
 | some y=>simp at h;rw[h]
section
variable {K:Fg}{G:Gh}{F F' H H':Hp}{σ τ:St}{ρ μ:Ev}{own:List Str}{fr:List Nat}
theorem innerE_get{j:Nat}{s:Sl}(h:(innerE own fr ρ)[j]?=some (some s)):∃k i s0,j=own.length+k/\fr[k]?=some i/\ρ[i]?=some (some s0)/\((∃d,s0=.fz d/\s=.fz d)\/(isOw s0=true/\s=.io s0.d)):=by
 obtain⟨k,i,h1,h2,h3⟩:=inner_get h
 obtain⟨s0,h4,h5⟩:=capt_get h3
 exact ⟨k,i,s0,h1,h2,getD_some h4,h5⟩
theorem st0_of{k i:Nat}(h:fr[k]?=some i):(st0 own σ fr)[own.length+k]?=some ((σ[i]?).getD none):=inner_of (f:=λi=>(σ[i]?).getD none) h
theorem innerE_of{k i:Nat}(h:fr[k]?=some i):(innerE own fr ρ)[own.length+k]?=some (capt ((ρ[i]?).getD none)):=inner_of (f:=λi=>capt ((ρ[i]?).getD none)) h
theorem nodup_at{fr:List Nat}(nd:fr.Nodup){k l i:Nat}(a:fr[k]?=some i)(b:fr[l]?=some i):k=l:=by
 obtain⟨h1,e1⟩:=X0.mp a
 obtain⟨h2,e2⟩:=X0.mp b
 exact (List.getElem_inj nd).mp (e1.trans e2.symm)
theorem Rel.inner(R:Rel K G F σ H ρ)(nd:fr.Nodup):Rel K (ghC own fr F H σ ρ) F (st0 own σ fr) H (innerE own fr ρ) where
 len:=by simp[st0,frS,innerE]
 sub:=R.sub
 sub0:=Sub.refl _
 fn:=λ_ _ e=>.inl e
 keep:=λ_ _ e _=>e
 fz:=λj d e=>by
  obtain⟨k,i,s0,rfl,h2,h3,h4⟩:=innerE_get e
  rcases h4 with⟨d0,rfl,z⟩|⟨_,z⟩
  ·cases z
   obtain⟨v,e1,e2⟩:=R.fz i d h3
   exact ⟨v,by rw[st0_of h2,e1];rfl,e2⟩
  ·cases z
 ow:=λj s e w=>by
  obtain⟨k,i,s0,rfl,h2,h3,h4⟩:=innerE_get e
  rcases h4 with⟨d0,rfl,z⟩|⟨w0,z⟩
  ·cases z;cases w
  ·cases z
   obtain⟨a,o,e1,e2,e3,e4⟩:=R.ow i s0 h3 w0
   exact ⟨a,o,by rw[st0_of h2,e1];rfl,e2,e3,e4⟩
 new:=λj d a e _=>by
  obtain⟨k,i,s0,rfl,h2,h3,h4⟩:=innerE_get e
  rcases h4 with⟨d0,rfl,z⟩|⟨w0,z⟩<;>cases z
 io:=λj a e=>by
  obtain⟨k,i,s,rfl,h1,h2,h3,h4⟩:=ghC_io e
  refine ⟨s.d,?_,by rw[st0_of h1,h4];rfl⟩
  rw[innerE_of h1,h2]
  cases s<;>first|rfl|cases h3
 ioi:=λj d e=>by
  obtain⟨k,i,s0,rfl,h2,h3,h4⟩:=innerE_get e
  rcases h4 with⟨d0,rfl,z⟩|⟨w0,z⟩
  ·cases z
  ·obtain⟨a,o,e1,_⟩:=R.ow i s0 h3 w0
   exact ⟨a,ghC_of h2 h3 w0 e1⟩
 ap:=λj l s t a e1 w1 e2 w2 e3 e4=>by
  obtain⟨k,i,s0,rfl,h2,h3,h4⟩:=innerE_get e1
  obtain⟨k',i',s0',rfl,h2',h3',h4'⟩:=innerE_get e2
  have p1:isOw s0=true:=by
   rcases h4 with⟨d0,rfl,z⟩|⟨w0,z⟩
   ·subst z;cases w1
   ·exact w0
  have p2:isOw s0'=true:=by
   rcases h4' with⟨d0,rfl,z⟩|⟨w0,z⟩
   ·subst z;cases w2
   ·exact w0
  rw[st0_of h2]at e3
  rw[st0_of h2']at e4
  have q:=R.ap i i' s0 s0' a h3 p1 h3' p2 (getD_some (V1 e3)) (getD_some (V1 e4))
  subst q
  rw[nodup_at nd h2 h2']
theorem wb_cases(R:Rel K G F σ H ρ)(R':Rel K (ghC own fr F H σ ρ) F' τ H' μ)(nd:fr.Nodup){i:Nat}{s:Sl}(h:(wbGo fr (μ.drop own.length) 0 ρ)[i]?=some (some s)) :
  ∃s0,ρ[i]?=some (some s0)/\((s=s0/\(isOw s0=true->i∉fr))\/(isOw s0=true/\∃k d',fr[k]?=some i/\μ[own.length+k]?=some (some (Sl.io d'))/\s=s0.put d')):=by
 rw[wbGo_get]at h
 cases e:ρ[i]? with
 | none=>rw[e]at h;cases h
 | some x =>
  rw[e]at h
  simp only[O4,n8]at h
  have h:=V1 h
  cases x with
  | none=>simp[wb1]at h
  | some s0 =>
   refine ⟨s0,rfl,?_⟩
   by_cases w0:isOw s0=true
   ·by_cases hm:i∈fr
    ·obtain⟨k,hk⟩:=J4.mp hm
     obtain⟨a,o,e1,_⟩:=R.ow i s0 e w0
     obtain⟨d',g1,g2⟩:=R'.io _ _ (ghC_of (own:=own) (F:=F) (H:=H) hk e w0 e1)
     have z:=zip_lookup (τ:=μ.drop own.length) nd hk (by rw[List.getElem?_drop];exact g1)
     rw[z]at h
     refine .inr ⟨w0,k,d',hk,g1,?_⟩
     cases s0 with
     | fz d=>cases w0
     | ow d=>simp[wb1]at h;exact h.symm
     | io d=>simp[wb1]at h;exact h.symm
    ·refine .inl ⟨?_,λ_=>hm⟩
     have z:(fr.zip (μ.drop own.length)).lookup i=none:=by
      cases q:(fr.zip (μ.drop own.length)).lookup i with
      | none=>rfl
      | some y =>
       obtain⟨k,h1,_⟩:=zip_lookup_mem q
       exact (hm (Q1 h1)).elim
     rw[z]at h
     cases s0 with
     | fz d=>cases w0
     | ow d=>simp[wb1]at h;exact h.symm
     | io d=>simp[wb1]at h;exact h.symm
   ·refine .inl ⟨?_,λz=>(w0 z).elim⟩
    cases s0 with
    | fz d=>simp[wb1]at h;exact h.symm
    | ow d=>exact (w0 rfl).elim
    | io d=>exact (w0 rfl).elim
theorem wb1_io{d:D}(x:Option (Option Sl)):∃d',wb1 (some (.io d)) x=some (.io d'):=by
 rcases x with _|_|(d'|d'|d')
 ·exact ⟨d,rfl⟩
 ·exact ⟨d,rfl⟩
 ·exact ⟨d,rfl⟩
 ·exact ⟨d,rfl⟩
 ·exact ⟨d',rfl⟩
theorem Rel.outer(R:Rel K G F σ H ρ)(R':Rel K (ghC own fr F H σ ρ) F' τ H' μ)(nd:fr.Nodup):Rel K G F' σ H' (wbGo fr (μ.drop own.length) 0 ρ):=by
 have sb:Sub F F':=R'.sub0
 have owns:∀{i:Nat}{s:Sl},(wbGo fr (μ.drop own.length) 0 ρ)[i]?=some (some s)->isOw s=true->∃s0,ρ[i]?=some (some s0)/\isOw s0=true:=λ{i s} e w=>by
  obtain⟨s0,h1,h2⟩:=wb_cases R R' nd e
  rcases h2 with⟨rfl,_⟩|⟨w0,_⟩
  ·exact ⟨s,h1,w⟩
  ·exact ⟨s0,h1,w0⟩
 refine ⟨by rw[wbGo_len];exact R.len,R'.sub,R.sub0.trans sb,λa o e=>?_,λa o e n=>?_,λi d e=>?_,λi s e w=>?_,λi d a e ea=>?_,λi a e=>?_,λi d e=>?_,λi j s t a e1 w1 e2 w2 e3 e4=>?_⟩
 ·rcases R'.fn a o e with q|q
  ·exact R.fn a o q
  ·exact .inr (R.h0 q)
 ·refine R'.keep a o (R.keep a o e n) λj z=>?_
  obtain⟨k,i,s,rfl,h1,h2,h3,h4⟩:=ghC_io z
  cases s with
  | fz d=>cases h3
  | ow d=>rw[R.new i d a h2 h4]at e;cases e
  | io d =>
   obtain⟨a',g⟩:=R.ioi i d h2
   obtain⟨_,_,g2⟩:=R.io i a' g
   rw[h4]at g2;cases g2
   exact n i g
 ·obtain⟨s0,h1,h2⟩:=wb_cases R R' nd e
  rcases h2 with⟨rfl,_⟩|⟨w0,k,d',_,_,z⟩
  ·obtain⟨v,g1,g2⟩:=R.fz i d h1
   exact ⟨v,g1,g2.mono sb⟩
  ·cases s0<;>simp[Sl.put,isOw]at z w0
 ·obtain⟨s0,h1,h2⟩:=wb_cases R R' nd e
  rcases h2 with⟨rfl,hm⟩|⟨w0,k,d',hk,hd,rfl⟩
  ·obtain⟨a,o,g1,g2,g3,g4⟩:=R.ow i s h1 w
   have nio:∀j,(ghC own fr F H σ ρ).io j≠some a:=λj z=>by
    obtain⟨k,i',s',rfl,q1,q2,q3,q4⟩:=ghC_io z
    have:=R.ap i i' s s' a h1 w q2 q3 g1 q4
    subst this
    exact hm w (Q1 q1)
   refine ⟨a,o,g1,?_,R'.keep a o g3 nio,g4.mono sb⟩
   cases q:F' a with
   | none=>rfl
   | some u =>
    rcases R'.fn a u q with z|z
    ·have z:F a=some u:=z
     rw[g2]at z;cases z
    ·have z:H a=none:=z
     rw[g3]at z;cases z
  ·obtain⟨a,o,g1,g2,g3,g4⟩:=R.ow i s0 h1 w0
   obtain⟨d2,q1,q2⟩:=R'.io _ _ (ghC_of (own:=own) (F:=F) (H:=H) hk h1 w0 g1)
   obtain⟨a',o',p1,p2,p3,p4⟩:=R'.ow _ _ hd rfl
   rw[q2]at p1;cases p1
   exact ⟨a,o',g1,p2,p3,by cases s0<;>first|exact p4|cases w0⟩
 ·obtain⟨s0,h1,h2⟩:=wb_cases R R' nd e
  rcases h2 with⟨rfl,_⟩|⟨w0,k,d',_,_,z⟩
  ·exact R.new i d a h1 ea
  ·cases s0 with
   | fz d=>cases w0
   | ow d0=>exact R.new i d0 a h1 ea
   | io d0=>cases z
 ·obtain⟨d,h1,h2⟩:=R.io i a e
  obtain⟨d',hd⟩:=wb1_io (d:=d) ((fr.zip (μ.drop own.length)).lookup i)
  exact ⟨d',by rw[wbGo_get,h1];simp only[O4,n8];rw[hd],h2⟩
 ·obtain⟨s0,h1,h2⟩:=wb_cases R R' nd e
  rcases h2 with⟨rfl,_⟩|⟨w0,k,d',_,_,z⟩
  ·exact R.ioi i d h1
  ·cases s0 with
   | fz d=>cases w0
   | ow d0=>cases z
   | io d0=>exact R.ioi i d0 h1
 ·obtain⟨s0,g1,g2⟩:=owns e1 w1
  obtain⟨t0,g3,g4⟩:=owns e2 w2
  exact R.ap i j s0 t0 a g1 g2 g3 g4 e3 e4
end
noncomputable abbrev Con:=List Sl->(Sl->Ev->Prop)->Prop
noncomputable def conSp(K:Fg)(con:Con):Sp:=λvs H Q _=>∃(G:Gh) (F:Hp) (args:List Sl) (Qd:Sl->Ev->Prop),Rel K G F (vs.map some) H (args.map some)/\con args Qd /\
 ∀v H' F' r ρ',Sub F F'->Rel K G F' (vs.map some) H' ρ'->Res K G F' H' (vs.map some) ρ' v r->Qd r ρ'->Q v H'
mutual
noncomputable def noMut:D->Bool
 | .none=>true
 | .bool _=>true
 | .int _=>true
 | .str _=>true
 | .tuple xs=>noMutAll xs
 | .list _=>false
 | .dict _=>false
noncomputable def noMutAll:List D->Bool
 | []=>true
 | x :: xs=>noMut x&&noMutAll xs
end
theorem noMutAll_ints:∀ns:List Int,noMutAll (ns.map q0)=true
 | []=>rfl
 | n :: ns=>by simp[noMutAll,noMut,noMutAll_ints ns]
section
variable {K:Fg}{F F':Hp}
mutual
theorem Da.noMut(h:∀b xs,F b=some (.tup xs)->F' b=some (.tup xs)):∀{v:V}{d:D},Da K F v d->noMut d=true->Da K F' v d
 | _,_,.non,_=>.non
 | _,_,.bl b,_=>.bl b
 | _,_,.int i,_=>.int i
 | _,_,.str x,_=>.str x
 | _,_,.lst _ _,z=>by simp[L3.noMut]at z
 | _,_,.tup e t,z=>.tup (h _ _ e) (DaAll.noMut h t (by simpa [L3.noMut]using z))
 | _,_,.dk _ _,z=>by simp[L3.noMut]at z
 | _,_,.dt _ _,z=>by simp[L3.noMut]at z
 | _,_,.scr _,z=>by simp[L3.noMut,scrD]at z
theorem DaAll.noMut(h:∀b xs,F b=some (.tup xs)->F' b=some (.tup xs)):∀{xs:List V}{ds:List D},DaAll K F xs ds->noMutAll ds=true->DaAll K F' xs ds
 | _,_,.nil,_=>.nil
 | _,_,.cons a t,z=>by
  simp[noMutAll]at z
  exact .cons (Da.noMut h a z.1) (DaAll.noMut h t z.2)
end
end
noncomputable def lentAny(ρ:Ev):List Opd->Bool
 | []=>false
 | .inr _ :: xs=>lentAny ρ xs
 | .inl i :: xs=>(match ρ[i]? with|some (some s)=>isOw s|_=>false)||lentAny ρ xs
noncomputable def dCall(con:Con)(as:List AD):TD:=λρ Q=>dArgs as ρ λxs ρ1=>looksQ ρ1 xs λds=>con (ds.map Sl.fz) λr _=>match lentAny ρ1 xs with
 | false=>Q r ρ1
 | true=>noMut r.d=true/\Q r ρ1
noncomputable def callI(con:Con)(i:Nat)(xs:List Opd)(ρ1:Ev)(Q:Sl->Ev->Prop):Prop:=match ρ1[i]? with
 | some (some s)=>match isOw s,lentAny ρ1 xs with
  | true,false=>looksQ ρ1 xs λds=>con (.io s.d :: ds.map Sl.fz) λr outs=>match outs with
   | some (.io d') :: _=>Q r (ρ1.set i (some (s.put d')))
   | _=>False
  | _,_=>False
 | _=>False
noncomputable def dCallI(con:Con)(i:Nat)(as:List AD):TD:=λρ Q=>dArgs (.inl i :: as) ρ λxs ρ1=>callI con i xs.tail ρ1 Q
noncomputable def LentA(σ:St)(ρ:Ev)(xs:List Opd)(a:Addr):Prop:=∃(i:Nat) (s:Sl),Sum.inl i∈xs/\ρ[i]?=some (some s)/\isOw s=true/\σ[i]?=some (some (V.ref a))
theorem lentAny_of{σ:St}{ρ:Ev}:∀{xs:List Opd}{a:Addr},LentA σ ρ xs a->lentAny ρ xs=true
 | [],a,⟨i,s,h,_⟩=>by cases h
 | .inr d :: xs,a,⟨i,s,h,h1,h2,h3⟩=>by
  rcases B1.mp h with h|h
  ·cases h
  ·exact lentAny_of (xs:=xs) ⟨i,s,h,h1,h2,h3⟩
 | .inl j :: xs,a,⟨i,s,h,h1,h2,h3⟩=>by
  unfold lentAny
  rcases B1.mp h with h|h
  ·cases h;rw[h1];simp[h2]
  ·rw[lentAny_of (xs:=xs) ⟨i,s,h,h1,h2,h3⟩];simp
open Classical in
noncomputable def lend(σ:St)(ρ:Ev)(xs:List Opd)(F H:Hp):Hp:=λb=>if LentA σ ρ xs b then H b else F b
open Classical in
noncomputable def unlend(σ:St)(ρ:Ev)(xs:List Opd)(F:Hp):Hp:=λb=>if LentA σ ρ xs b then none else F b
section
variable {K:Fg}{G:Gh}{F F' H H':Hp}{σ:St}{ρ:Ev}{xs:List Opd}
theorem lend_not{b:Addr}(h:¬LentA σ ρ xs b):lend σ ρ xs F H b=F b:=by unfold lend;rw[if_neg h]
theorem lend_is{b:Addr}(h:LentA σ ρ xs b):lend σ ρ xs F H b=H b:=by unfold lend;rw[if_pos h]
theorem unlend_not{b:Addr}(h:¬LentA σ ρ xs b):unlend σ ρ xs F b=F b:=by unfold unlend;rw[if_neg h]
theorem unlend_is{b:Addr}(h:LentA σ ρ xs b):unlend σ ρ xs F b=none:=by unfold unlend;rw[if_pos h]
theorem LentA.own(R:Rel K G F σ H ρ){b:Addr}(h:LentA σ ρ xs b):∃(i:Nat) (s:Sl) (o:HO),ρ[i]?=some (some s)/\isOw s=true/\σ[i]?=some (some (V.ref b))/\F b=none/\H b=some o/\Own1 K F o s.d:=by
 obtain⟨i,s,_,h1,h2,h3⟩:=h
 obtain⟨a,o,g1,g2,g3,g4⟩:=R.ow i s h1 h2
 rw[h3]at g1;cases g1
 exact ⟨i,s,o,h1,h2,h3,g2,g3,g4⟩
theorem lend_sub(R:Rel K G F σ H ρ):Sub F (lend σ ρ xs F H):=λb o e=>by
 have n:¬LentA σ ρ xs b:=λz=>by
  obtain⟨_,_,_,_,_,_,h,_⟩:=z.own R
  rw[h]at e;cases e
 rw[lend_not n];exact e
theorem lend_le(R:Rel K G F σ H ρ):Sub (lend σ ρ xs F H) H:=λb o e=>by
 by_cases z:LentA σ ρ xs b
 ·rw[lend_is z]at e;exact e
 ·rw[lend_not z]at e;exact R.sub _ _ e
theorem lend_looks(R:Rel K G F σ H ρ){ys:List Opd}{vs:List V}{k:List D->Prop}(m:∀y∈ys,y∈xs)(o:OpdsAt K F σ vs ys)(h:looksQ ρ ys k):∃ds,DaAll K (lend σ ρ xs F H) vs ds/\k ds:=by
 induction o generalizing k with
 | nil=>exact ⟨[],.nil,h⟩
 | @cons v x vs ys o t ih =>
  cases x with
  | inr d =>
   obtain⟨ds,a,q⟩:=ih (k:=λds=>k (d :: ds)) (λy hy=>m y (G0 _ hy)) h
   exact ⟨d :: ds,.cons (Da.mono (lend_sub R) o) a,q⟩
  | inl i =>
   unfold looksQ at h
   split at h
   ·rename_i s e
    obtain⟨ds,a,q⟩:=ih (k:=λds=>k (s.d :: ds)) (λy hy=>m y (G0 _ hy)) h
    refine ⟨s.d :: ds,.cons ?_ a,q⟩
    have o:σ[i]?=some (some v):=o
    have own:isOw s=true->Da K (lend σ ρ xs F H) v s.d:=λw=>by
     obtain⟨b,u,h1,h2,h3,h4⟩:=R.ow i s e w
     rw[o]at h1;cases h1
     have l:LentA σ ρ xs b:=⟨i,s,m _ M0,e,w,o⟩
     exact (h4.mono (lend_sub R)).da (by rw[lend_is l];exact h3)
    cases s with
    | fz d =>
     obtain⟨v,e1,e2⟩:=R.fz i d e
     rw[o]at e1;cases e1
     exact e2.mono (lend_sub R)
    | ow d=>exact own rfl
    | io d=>exact own rfl
   ·exact h.elim
theorem own_noMut{o:HO}{d:D}(h:Own1 K F o d):noMut d=false:=by
 cases o with
 | ext φ=>obtain⟨a',ep,xs,ps,z,rfl,t⟩:=h.ext;rfl
 | _=>cases d<;>first|rfl|exact h.elim
theorem get_fz{ds:List D}{i:Nat}{s:Sl}(h:((ds.map Sl.fz).map some)[i]?=some (some s)):∃d,ds[i]?=some d/\s=.fz d:=by
 rw[T1,W0]at h
 cases e:ds[i]? with
 | none=>rw[e]at h;cases h
 | some d=>rw[e]at h;cases h;exact ⟨d,rfl,rfl⟩
theorem get_vs{vs:List V}{i:Nat}{v:V}(h:vs[i]?=some v):(vs.map some)[i]?=some (some v):=by rw[W0,h];rfl
theorem rel_call{vs:List V}{ds:List D}(s:Sub F H)(da:DaAll K F vs ds):Rel K ⟨H,F,λ_=>none⟩ F (vs.map some) H ((ds.map Sl.fz).map some) where
 len:=by simp[da.length]
 sub:=s
 sub0:=Sub.refl _
 fn:=λ_ _ e=>.inl e
 keep:=λ_ _ e _=>e
 fz:=λi d e=>by
  obtain⟨d',e1,e2⟩:=get_fz e
  cases e2
  obtain⟨v,h1,h2⟩:=da.get e1
  exact ⟨v,get_vs h1,h2⟩
 ow:=λi s e w=>by obtain⟨d',e1,rfl⟩:=get_fz e;cases w
 new:=λi d a e _=>by obtain⟨d',e1,e2⟩:=get_fz e;cases e2
 io:=λi a e=>by cases e
 ioi:=λi d e=>by obtain⟨d',e1,e2⟩:=get_fz e;cases e2
 ap:=λi j s t a e w _ _ _ _=>by obtain⟨d',e1,rfl⟩:=get_fz e;cases w
theorem Rel.called(R:Rel K G F σ H ρ){σ1:St}{ρ1:Ev}(R':Rel K ⟨H,lend σ ρ xs F H,λ_=>none⟩ F' σ1 H' ρ1):Sub F (unlend σ ρ xs F')/\Rel K G (unlend σ ρ xs F') σ H' ρ:=by
 have nl:∀{b:Addr}{o:HO},F b=some o->¬LentA σ ρ xs b:=λ{b o} e z=>by
  obtain⟨_,_,_,_,_,_,h,_⟩:=z.own R
  rw[h]at e;cases e
 have sb:Sub F (unlend σ ρ xs F'):=λb o e=>by
  rw[unlend_not (nl e)]
  exact R'.sub0 _ _ (lend_sub R _ _ e)
 have ul:∀{b:Addr}{o:HO},unlend σ ρ xs F' b=some o->¬LentA σ ρ xs b/\F' b=some o:=λ{b o} e=>by
  by_cases z:LentA σ ρ xs b
  ·rw[unlend_is z]at e;cases e
  ·rw[unlend_not z]at e;exact ⟨z,e⟩
 have kp:∀{b:Addr}{o:HO},H b=some o->H' b=some o:=λ{b o} e=>R'.keep b o e λi z=>by cases z
 refine ⟨sb,R.len,λb o e=>R'.sub _ _ (ul e).2,R.sub0.trans sb,λb o e=>?_,λa o e n=>kp (R.keep a o e n),λi d e=>?_,λi s e w=>?_,R.new,R.io,R.ioi,R.ap⟩
 ·obtain⟨n,e⟩:=ul e
  rcases R'.fn b o e with q|q
  ·have q:lend σ ρ xs F H b=some o:=q
   rw[lend_not n]at q
   exact R.fn b o q
  ·exact .inr (R.h0 q)
 ·obtain⟨v,h1,h2⟩:=R.fz i d e
  exact ⟨v,h1,h2.mono sb⟩
 ·obtain⟨a,o,h1,h2,h3,h4⟩:=R.ow i s e w
  refine ⟨a,o,h1,?_,kp h3,h4.mono sb⟩
  cases q:unlend σ ρ xs F' a with
  | none=>rfl
  | some u =>
   obtain⟨n,q⟩:=ul q
   rcases R'.fn a u q with z|z
   ·have z:lend σ ρ xs F H a=some u:=z
    rw[lend_not n,h2]at z;cases z
   ·have z:H a=none:=z
    rw[h3]at z;cases z
theorem Res.called(R:Rel K G F σ H ρ){σ1:St}{ρ1:Ev}{v:V}{r:Sl}(R':Rel K ⟨H,lend σ ρ xs F H,λ_=>none⟩ F' σ1 H' ρ1)(q:Res K ⟨H,lend σ ρ xs F H,λ_=>none⟩ F' H' σ1 ρ1 v r)
  (hl:lentAny ρ xs=true->noMut r.d=true):Res K G (unlend σ ρ xs F') H' σ ρ v r:=by
 have tp:∀b ys,F' b=some (.tup ys)->unlend σ ρ xs F' b=some (.tup ys):=λb ys e=>by
  have n:¬LentA σ ρ xs b:=λz=>by
   obtain⟨_,_,o,_,_,_,_,h,w⟩:=z.own R
   have e2:=R'.sub0 b o (by show lend σ ρ xs F H b=some o;rw[lend_is z];exact h)
   rw[e]at e2;cases e2
   exact w
  rw[unlend_not n];exact e
 by_cases l:lentAny ρ xs=true
 ·cases r with
  | fz d=>exact Da.noMut tp q (hl l)
  | ow d =>
   obtain⟨a,o,_,_,_,w,_⟩:=q
   have:=hl l
   rw[show (Sl.ow d).d=d from rfl,own_noMut w]at this;cases this
  | io d=>exact q.elim
 ·have e:unlend σ ρ xs F'=F':=funext λb=>unlend_not λz=>l (lentAny_of z)
  rw[e]
  cases r with
  | fz d=>exact q
  | io d=>exact q.elim
  | ow d =>
   obtain⟨a,o,h1,h2,h3,h4,h5,_⟩:=q
   refine ⟨a,o,h1,h2,h3,h4,R.h0 h5,λi s es w z=>?_⟩
   obtain⟨a',o',g1,_,g3,_⟩:=R.ow i s es w
   rw[z]at g1;cases g1
   have h5:H a=none:=h5
   rw[h5]at g3;cases g3
theorem l_call{con:Con}{as:List AD}{E:XK}{Q:VK}(h:lift K (dCall con as) σ H Q):tCall (conSp K con) [] E (tArgs (as.map (argT K))) σ H Q:=by
 obtain⟨G,F,ρ,Qd,R,w,k⟩:=h
 refine args_ok R w λvs H1 F1 xs ρ1 s1 R1 o w1=>?_
 obtain⟨ds,da,w1⟩:=lend_looks (xs:=xs) R1 (λy hy=>hy) o w1
 rw[S3]
 refine ⟨_,_,ds.map Sl.fz,_,rel_call (lend_le R1) da,w1,λv H' F' r ρ' s' R' r' q=>?_⟩
 obtain⟨sb,R2⟩:=R1.called R'
 have hq:(lentAny ρ1 xs=true->noMut r.d=true)/\Qd r ρ1:=by
  split at q
  ·rename_i e;exact ⟨λz=>(by rw[e]at z;cases z),q⟩
  ·exact ⟨λ_=>q.1,q.2⟩
 exact k v H' _ r ρ1 (s1.trans sb) R2 (Res.called R1 R' r' hq.1) hq.2
end
section
variable {K:Fg}{G:Gh}{F F' H H':Hp}{σ:St}{ρ:Ev}{xs:List Opd}
noncomputable def ioA(a:Addr):Nat->Option Addr:=λj=>if j=0 then some a else none
theorem ioA_some{a b:Addr}{j:Nat}(h:ioA a j=some b):j=0/\b=a:=by
 unfold ioA at h
 split at h
 ·rename_i z;cases h;exact ⟨z,rfl⟩
 ·cases h
theorem rel_callI{vs:List V}{ds:List D}{a:Addr}{o:HO}{d:D}(s:Sub F H)(h1:F a=none)(h2:H a=some o)(h3:Own1 K F o d)(da:DaAll K F vs ds) :
  Rel K ⟨H,F,ioA a⟩ F ((V.ref a :: vs).map some) H ((Sl.io d :: ds.map Sl.fz).map some) where
 len:=by simp[da.length]
 sub:=s
 sub0:=Sub.refl _
 fn:=λ_ _ e=>.inl e
 keep:=λ_ _ e _=>e
 fz:=λi d' e=>by
  cases i with
  | zero=>simp at e
  | succ i =>
   have e:((ds.map Sl.fz).map some)[i]?=some (some (Sl.fz d')):=by simpa using e
   obtain⟨d2,e1,e2⟩:=get_fz e
   cases e2
   obtain⟨v,g1,g2⟩:=da.get e1
   exact ⟨v,by simpa using g1,g2⟩
 ow:=λi s e w=>by
  cases i with
  | zero=>simp at e;subst e;exact ⟨a,o,by simp,h1,h2,h3⟩
  | succ i =>
   have e:((ds.map Sl.fz).map some)[i]?=some (some s):=by simpa using e
   obtain⟨d2,e1,rfl⟩:=get_fz e
   cases w
 new:=λi d' b e _=>by
  cases i with
  | zero=>simp at e
  | succ i =>
   have e:((ds.map Sl.fz).map some)[i]?=some (some (Sl.ow d')):=by simpa using e
   obtain⟨d2,e1,e2⟩:=get_fz e
   cases e2
 io:=λi b e=>by
  obtain⟨rfl,rfl⟩:=ioA_some e
  exact ⟨d,by simp,by simp⟩
 ioi:=λi d' e=>by
  cases i with
  | zero=>exact ⟨a,rfl⟩
  | succ i =>
   have e:((ds.map Sl.fz).map some)[i]?=some (some (Sl.io d')):=by simpa using e
   obtain⟨d2,e1,e2⟩:=get_fz e
   cases e2
 ap:=λi j s t b e1 w1 e2 w2 _ _=>by
  have f:∀{i:Nat}{s:Sl},((Sl.io d :: ds.map Sl.fz).map some)[i]?=some (some s)->isOw s=true->i=0:=λ{i s} e w=>by
   cases i with
   | zero=>rfl
   | succ i =>
    have e:((ds.map Sl.fz).map some)[i]?=some (some s):=by simpa using e
    obtain⟨d2,e1,rfl⟩:=get_fz e
    cases w
  rw[f e1 w1,f e2 w2]
theorem Rel.calledI(R:Rel K G F σ H ρ){i:Nat}{s:Sl}{a:Addr}{d':D}{σ1:St}{ρ1:Ev}(e:ρ[i]?=some (some s))(w:isOw s=true)(ea:σ[i]?=some (some (V.ref a)))
  (R':Rel K ⟨H,F,ioA a⟩ F' (some (V.ref a) :: σ1) H' (some (Sl.io d') :: ρ1)):Rel K G F' σ H' (ρ.set i (some (s.put d'))):=by
 obtain⟨a0,o0,g1,g2,g3,g4⟩:=R.ow i s e w
 rw[ea]at g1;cases g1
 have sb:Sub F F':=R'.sub0
 have hl:=lt_of_get e
 have kp:∀{b:Addr}{o:HO},b≠a->H b=some o->H' b=some o:=λ{b o} n q=>R'.keep b o q λj z=>n (ioA_some z).2
 have ow':∀{j:Nat}{t:Sl},j≠i->ρ[j]?=some (some t)->isOw t=true->∃b o,σ[j]?=some (some (V.ref b))/\F' b=none/\H' b=some o/\Own1 K F' o t.d:=λ{j t} n q wt=>by
  obtain⟨b,o,q1,q2,q3,q4⟩:=R.ow j t q wt
  have nb:b≠a:=λz=>n (R.ap j i t s a q wt e w (by rw[q1,z]) ea)
  refine ⟨b,o,q1,?_,kp nb q3,q4.mono sb⟩
  cases z:F' b with
  | none=>rfl
  | some u =>
   rcases R'.fn b u z with y|y
   ·have y:F b=some u:=y
    rw[q2]at y;cases y
   ·have y:H b=none:=y
    rw[q3]at y;cases y
 refine ⟨by rw[N3];exact R.len,R'.sub,R.sub0.trans sb,λb o q=>?_,λb o q n=>?_,λj d q=>?_,λj t q wt=>?_,λj d b q eb=>?_,λj b q=>?_,λj d q=>?_,λj k t u b e1 w1 e2 w2 e3 e4=>?_⟩
 ·rcases R'.fn b o q with y|y
  ·exact R.fn b o y
  ·exact .inr (R.h0 y)
 ·refine kp (λz=>?_) (R.keep b o q n)
  subst z
  cases s with
  | fz d=>cases w
  | ow d=>rw[R.new i d b e ea]at q;cases q
  | io d =>
   obtain⟨a',y⟩:=R.ioi i d e
   obtain⟨_,_,y2⟩:=R.io i a' y
   rw[ea]at y2;cases y2
   exact n i y
 ·rcases get_set q with⟨rfl,z⟩|⟨n,z⟩
  ·cases s<;>simp[Sl.put,isOw]at z w
  ·obtain⟨v,y1,y2⟩:=R.fz j d z
   exact ⟨v,y1,y2.mono sb⟩
 ·rcases get_set q with⟨rfl,z⟩|⟨n,z⟩
  ·cases z
   obtain⟨b,o,y1,y2,y3,y4⟩:=R'.ow 0 (.io d') (by simp) rfl
   simp at y1;subst y1
   exact ⟨a,o,ea,y2,y3,by cases s<;>first|exact y4|cases w⟩
  ·exact ow' n z wt
 ·rcases get_set q with⟨rfl,z⟩|⟨n,z⟩
  ·cases s with
   | fz d=>cases w
   | ow d0=>exact R.new j d0 b e eb
   | io d0=>cases z
  ·exact R.new j d b z eb
 ·obtain⟨d,y1,y2⟩:=R.io j b q
  by_cases z:j=i
  ·subst z
   rw[e]at y1;cases y1
   exact ⟨d',by rw[set_get hl];rfl,y2⟩
  ·exact ⟨d,by rw[P0 (J1 z)];exact y1,y2⟩
 ·rcases get_set q with⟨rfl,z⟩|⟨n,z⟩
  ·cases s with
   | fz d=>cases w
   | ow d0=>cases z
   | io d0=>exact R.ioi j d0 e
  ·exact R.ioi j d z
 ·have f:∀(j:Nat) (t:Sl),(ρ.set i (some (s.put d')))[j]?=some (some t)->isOw t=true->∃t',ρ[j]?=some (some t')/\isOw t'=true:=λj t q wt=>by
   rcases get_set q with⟨rfl,z⟩|⟨n,z⟩
   ·exact ⟨s,e,w⟩
   ·exact ⟨t,z,wt⟩
  obtain⟨t',e1',w1'⟩:=f j t e1 w1
  obtain⟨u',e2',w2'⟩:=f k u e2 w2
  exact R.ap j k t' u' b e1' w1' e2' w2' e3 e4
theorem noLent_looks(R:Rel K G F σ H ρ){ys:List Opd}{vs:List V}{k:List D->Prop}(m:lentAny ρ ys=false)(o:OpdsAt K F σ vs ys)(h:looksQ ρ ys k):∃ds,DaAll K F vs ds/\k ds:=by
 induction o generalizing k with
 | nil=>exact ⟨[],.nil,h⟩
 | @cons v x vs ys o t ih =>
  cases x with
  | inr d =>
   obtain⟨ds,a,q⟩:=ih (k:=λds=>k (d :: ds)) m h
   exact ⟨d :: ds,.cons o a,q⟩
  | inl i =>
   unfold looksQ at h
   unfold lentAny at m
   simp only[Bool.or_eq_false_iff]at m
   split at h
   ·rename_i s e
    obtain⟨ds,a,q⟩:=ih (k:=λds=>k (s.d :: ds)) m.2 h
    refine ⟨s.d :: ds,.cons ?_ a,q⟩
    have m1:=m.1
    rw[e]at m1
    cases s with
    | fz d =>
     obtain⟨v',e1,e2⟩:=R.fz i d e
     have o:σ[i]?=some (some v):=o
     rw[o]at e1;cases e1
     exact e2
    | ow d=>cases m1
    | io d=>cases m1
   ·exact h.elim
theorem l_callI{con:Con}{i:Nat}{as:List AD}{E:XK}{Q:VK}(h:lift K (dCallI con i as) σ H Q):tCall (conSp K con) [] E (tArgs ((.inl i :: as).map (argT K))) σ H Q:=by
 obtain⟨G,F,ρ,Qd,R,w,k⟩:=h
 unfold dCallI dArgs at w
 split at w
 ·rename_i s0 e0
  obtain⟨v,ev⟩:=R.bound e0
  refine ⟨v,ev,args_ok R w λvs H1 F1 xs ρ1 s1 R1 o w1=>?_⟩
  show conSp K con (v :: vs++[]) H1 Q E
  rw[S3]
  have w1:callI con i xs ρ1 Qd:=w1
  unfold callI at w1
  split at w1
  ·rename_i s e
   split at w1
   ·rename_i p1 p2
    obtain⟨a,o',g1,g2,g3,g4⟩:=R1.ow i s e p1
    rw[ev]at g1;cases g1
    obtain⟨ds,da,w1⟩:=noLent_looks R1 p2 o w1
    refine ⟨_,F1,.io s.d :: ds.map Sl.fz,_,rel_callI R1.sub g2 g3 g4 da,w1,λv H' F' r ρ' s' R' r' q=>?_⟩
    split at q
    ·rename_i d' ρ2
     have R2:=R1.calledI e p1 ev R'
     refine k v H' F' r _ (s1.trans s') R2 ?_ q
     cases r with
     | fz d=>exact r'
     | io d=>exact r'.elim
     | ow d =>
      obtain⟨b,u,h1,h2,h3,h4,h5,_⟩:=r'
      have h5:H1 b=none:=h5
      refine ⟨b,u,h1,h2,h3,h4,R1.h0 h5,λj t es w z=>?_⟩
      have own:∃t',ρ1[j]?=some (some t')/\isOw t'=true:=by
       rcases get_set es with⟨rfl,y⟩|⟨n,y⟩
       ·exact ⟨s,e,p1⟩
       ·exact ⟨t,y,w⟩
      obtain⟨t',y1,y2⟩:=own
      obtain⟨a',o',q1,_,q3,_⟩:=R1.ow j t' y1 y2
      rw[z]at q1;cases q1
      rw[h5]at q3;cases q3
    ·exact q.elim
   ·exact w1.elim
  ·exact w1.elim
 ·exact w.elim
noncomputable def startE(n:Nat)(args:List Sl):Ev:=args.map some++P1 (n - args.length) none
noncomputable def outs:List Sl->Ev->Ev
 | [],_=>[]
 | .io _ :: as,ρ=>(ρ.headD none) :: outs as ρ.tail
 | .fz d :: as,ρ=>some (.fz d) :: outs as ρ.tail
 | .ow d :: as,ρ=>some (.ow d) :: outs as ρ.tail
theorem app_none{α:Type}{l:List (Option α)}{n i:Nat}{x:α}(h:(l++P1 n none)[i]?=some (some x)):l[i]?=some (some x):=by
 by_cases z:i < l.length
 ·rw[W2 z]at h;exact h
 ·rw[U2 (j7 z),u7]at h
  split at h<;>cases h
theorem app_left{α:Type}{l m:List α}{i:Nat}{x:α}(h:l[i]?=some x):(l++m)[i]?=some x:=by rw[W2 (lt_of_get h)];exact h
theorem Rel.start{vs:List V}{args:List Sl}{N:List Str}(R:Rel K G F (vs.map some) H (args.map some)):Rel K G F (L2.start N vs) H (startE N.length args) where
 len:=by have:=R.len;simp[L2.start,startE]at this ⊢;omega
 sub:=R.sub
 sub0:=R.sub0
 fn:=R.fn
 keep:=R.keep
 fz:=λi d e=>by
  obtain⟨v,h1,h2⟩:=R.fz i d (app_none e)
  exact ⟨v,app_left h1,h2⟩
 ow:=λi s e w=>by
  obtain⟨a,o,h1,h2⟩:=R.ow i s (app_none e) w
  exact ⟨a,o,app_left h1,h2⟩
 new:=λi d a e ea=>R.new i d a (app_none e) (app_none ea)
 io:=λi a e=>by
  obtain⟨d,h1,h2⟩:=R.io i a e
  exact ⟨d,app_left h1,app_left h2⟩
 ioi:=λi d e=>R.ioi i d (app_none e)
 ap:=λi j s t a e1 w1 e2 w2 e3 e4=>R.ap i j s t a (app_none e1) w1 (app_none e2) w2 (app_none e3) (app_none e4)
theorem outs_get:∀{args:List Sl}{ρ:Ev}{i:Nat}{s:Sl},(outs args ρ)[i]?=some (some s)->(∃d,args[i]?=some (.io d)/\ρ[i]?=some (some s))\/(args[i]?=some s/\∀d,s≠.io d)
 | [],ρ,i,s,h=>by simp[outs]at h
 | .io d :: as,ρ,0,s,h=>by
  simp[outs]at h
  cases ρ with
  | nil=>simp at h
  | cons x ρ=>simp at h;exact .inl ⟨d,by simp,by simp[h]⟩
 | .fz d :: as,ρ,0,s,h=>by simp[outs]at h;subst h;exact .inr ⟨by simp,λd z=>by cases z⟩
 | .ow d :: as,ρ,0,s,h=>by simp[outs]at h;subst h;exact .inr ⟨by simp,λd z=>by cases z⟩
 | .io d :: as,ρ,i+1,s,h=>by
  simp only[outs,Y3]at h
  rcases outs_get h with⟨d,h1,h2⟩|⟨h1,h2⟩
  ·exact .inl ⟨d,by simpa using h1,by cases ρ with|nil=>simp at h2|cons x ρ=>simpa using h2⟩
  ·exact .inr ⟨by simpa using h1,h2⟩
 | .fz d :: as,ρ,i+1,s,h=>by
  simp only[outs,Y3]at h
  rcases outs_get h with⟨d,h1,h2⟩|⟨h1,h2⟩
  ·exact .inl ⟨d,by simpa using h1,by cases ρ with|nil=>simp at h2|cons x ρ=>simpa using h2⟩
  ·exact .inr ⟨by simpa using h1,h2⟩
 | .ow d :: as,ρ,i+1,s,h=>by
  simp only[outs,Y3]at h
  rcases outs_get h with⟨d,h1,h2⟩|⟨h1,h2⟩
  ·exact .inl ⟨d,by simpa using h1,by cases ρ with|nil=>simp at h2|cons x ρ=>simpa using h2⟩
  ·exact .inr ⟨by simpa using h1,h2⟩
theorem outs_of:∀{args:List Sl}{ρ:Ev}{i:Nat}{d:D}{x:Option Sl},args[i]?=some (.io d)->ρ[i]?=some x->(outs args ρ)[i]?=some x
 | [],_,_,_,_,h,_=>by simp at h
 | _ :: _,[],_,_,_,_,h=>by simp at h
 | s :: as,y :: ρ,0,d,x,h,h'=>by simp at h h';subst h h';simp[outs]
 | s :: as,y :: ρ,i+1,d,x,h,h'=>by
  have:=outs_of (args:=as) (ρ:=ρ) (i:=i) (by simpa using h) (by simpa using h')
  cases s<;>simpa [outs]using this
theorem outs_len:∀(args:List Sl) (ρ:Ev),(outs args ρ).length=args.length
 | [],_=>rfl
 | s :: as,ρ=>by cases s<;>simp[outs,outs_len as]
theorem get_args{args:List Sl}{i:Nat}{s:Sl}(h:(args.map some)[i]?=some (some s)):args[i]?=some s:=by
 rw[W0]at h
 cases e:args[i]? with
 | none=>rw[e]at h;cases h
 | some x=>rw[e]at h;cases h;rfl
theorem args_get{args:List Sl}{i:Nat}{s:Sl}(h:args[i]?=some s):(args.map some)[i]?=some (some s):=by rw[W0,h];rfl
theorem Rel.ret{vs:List V}{args:List Sl}{σ':St}{ρ':Ev}(hn:∀s∈args,∀d,s≠.ow d)(R:Rel K G F (vs.map some) H (args.map some))(sb:Sub F F')(R':Rel K G F' σ' H' ρ'):Rel K G F' (vs.map some) H' (outs args ρ'):=by
 have own:∀{i:Nat}{s:Sl},(outs args ρ')[i]?=some (some s)->isOw s=true->∃d a,args[i]?=some (.io d)/\ρ'[i]?=some (some s)/\G.io i=some a/\(vs.map some)[i]?=some (some (V.ref a))/\σ'[i]?=some (some (V.ref a)):=λ{i s} e w=>by
  rcases outs_get e with⟨d,h1,h2⟩|⟨h1,h2⟩
  ·obtain⟨a,h3⟩:=R.ioi i d (args_get h1)
   obtain⟨_,_,h4⟩:=R.io i a h3
   obtain⟨_,_,h5⟩:=R'.io i a h3
   exact ⟨d,a,h1,h2,h3,h4,h5⟩
  ·cases s with
   | fz d=>cases w
   | ow d=>exact (hn _ (Q1 h1) d rfl).elim
   | io d=>exact (h2 d rfl).elim
 refine ⟨by rw[outs_len];simpa using R.len,R'.sub,R'.sub0,R'.fn,R'.keep,λi d e=>?_,λi s e w=>?_,λi d a e ea=>?_,λi a e=>?_,λi d e=>?_,λi j s t a e1 w1 e2 w2 e3 e4=>?_⟩
 ·rcases outs_get e with⟨d',h1,h2⟩|⟨h1,h2⟩
  ·obtain⟨a,h3⟩:=R.ioi i d' (args_get h1)
   obtain⟨d2,h4,_⟩:=R'.io i a h3
   rw[h2]at h4;cases h4
  ·obtain⟨v,h3,h4⟩:=R.fz i d (args_get h1)
   exact ⟨v,h3,h4.mono sb⟩
 ·obtain⟨d,a,h1,h2,h3,h4,h5⟩:=own e w
  obtain⟨b,o,g1,g2⟩:=R'.ow i s h2 w
  rw[h5]at g1;cases g1
  exact ⟨a,o,h4,g2⟩
 ·obtain⟨d',b,h1,h2,h3,h4,h5⟩:=own e rfl
  rw[h4]at ea;cases ea
  exact R'.new i d _ h2 h5
 ·obtain⟨d,h1,h2⟩:=R.io i a e
  obtain⟨d',h3,h4⟩:=R'.io i a e
  exact ⟨d',outs_of (get_args h1) h3,h2⟩
 ·obtain⟨d',a,h1,h2,h3,h4,h5⟩:=own e rfl
  exact ⟨a,h3⟩
 ·obtain⟨_,a1,_,h2,_,h4,h5⟩:=own e1 w1
  obtain⟨_,a2,_,g2,_,g4,g5⟩:=own e2 w2
  rw[h4]at e3;cases e3
  rw[g4]at e4;cases e4
  exact R'.ap i j s t a h2 w1 g2 w2 h5 g5
theorem Res.ret{vs:List V}{args:List Sl}{σ':St}{ρ':Ev}{v:V}{r:Sl}(hn:∀s∈args,∀d,s≠.ow d)(R:Rel K G F (vs.map some) H (args.map some))(R':Rel K G F' σ' H' ρ')(q:Res K G F' H' σ' ρ' v r):Res K G F' H' (vs.map some) (outs args ρ') v r:=by
 cases r with
 | fz d=>exact q
 | io d=>exact q.elim
 | ow d =>
  obtain⟨a,o,h1,h2,h3,h4,h5,h6⟩:=q
  refine ⟨a,o,h1,h2,h3,h4,h5,λi s e w z=>?_⟩
  rcases outs_get e with⟨d',g1,g2⟩|⟨g1,g2⟩
  ·obtain⟨b,g3⟩:=R.ioi i d' (args_get g1)
   obtain⟨_,_,g4⟩:=R.io i b g3
   obtain⟨_,_,g5⟩:=R'.io i b g3
   rw[g4]at z;cases z
   exact h6 i s g2 w g5
  ·cases s with
   | fz d=>cases w
   | ow d=>exact (hn _ (Q1 g1) d rfl).elim
   | io d=>exact (g2 d rfl).elim
noncomputable def endsOf(args:List Sl)(Qd:Sl->Ev->Prop):DE:={ nx:=λρ=>Qd (.fz .none) (outs args ρ),rt:=λr ρ=>Qd r (outs args ρ),bk:=λ_=>False,ct:=λ_=>False }
theorem l_def{N:List Str}{con:Con}{ts:TDS}{vs:List V}{Q:VK}{E:XK}(hc:∀args Qd,con args Qd->(∀s∈args,∀d,s≠.ow d)/\ts (endsOf args Qd) (startE N.length args))(h:conSp K con vs H Q E):liftS K ts { nx:=λ_ H'=>Q .non H',rt:=Q } (L2.start N vs) H:=by
 obtain⟨G,F,args,Qd,R,w,k⟩:=h
 obtain⟨hn,w⟩:=hc args Qd w
 refine ⟨G,F,_,_,R.start,w,λσ' H' F' ρ' s R' q=>?_,λv σ' H' F' r ρ' s R' r' q=>?_,λ_ _ _ _ _ _ q=>q.elim,λ_ _ _ _ _ _ q=>q.elim⟩
 ·exact k .non H' F' (.fz .none) _ s (R.ret hn s R') Da.non q
 ·exact k v H' F' r _ s (R.ret hn s R') (r'.ret hn R R') q
end
section
variable {K:Fg}{F H:Hp}{v:V}
theorem At.int{i:Int}(h:At K F H v (.int i)):v=.int i:=by
 rcases h with h|⟨a,o,rfl,_,_,h⟩
 ·cases h;rfl
 ·cases o<;>exact h.elim
theorem At.bool{b:Bool}(h:At K F H v (.bool b)):v=.bl b:=by
 rcases h with h|⟨a,o,rfl,_,_,h⟩
 ·cases h;rfl
 ·cases o<;>exact h.elim
theorem At.str{x:Str}(h:At K F H v (.str x)):v=.str x:=by
 rcases h with h|⟨a,o,rfl,_,_,h⟩
 ·cases h;rfl
 ·cases o<;>exact h.elim
theorem At.none(h:At K F H v .none):v=.non:=by
 rcases h with h|⟨a,o,rfl,_,_,h⟩
 ·cases h;rfl
 ·cases o<;>exact h.elim
theorem At.list{ds:List D}(s:Sub F H)(h:At K F H v (.list ds)):∃a xs,v=.ref a/\H a=some (.lst xs)/\DaAll K F xs ds:=by
 rcases h with h|⟨a,o,rfl,_,e,h⟩
 ·cases h with
  | lst e t=>exact ⟨_,_,rfl,s _ _ e,t⟩
 ·cases o<;>first|exact h.elim|exact ⟨_,_,rfl,e,h⟩
theorem At.tuple{ds:List D}(s:Sub F H)(h:At K F H v (.tuple ds)):∃a xs,v=.ref a/\F a=some (.tup xs)/\H a=some (.tup xs)/\DaAll K F xs ds:=by
 rcases h with h|⟨a,o,rfl,_,e,h⟩
 ·cases h with
  | tup e t=>exact ⟨_,_,rfl,e,s _ _ e,t⟩
 ·cases o<;>exact h.elim
theorem keyD_ne(k:Key):keyD k≠.none:=by cases k<;>(intro z;cases z)
theorem Da.scr_inv{ns:List Int}:∀{d:D},Da K F v d->d=scrD ns->∃a,v=.ref a/\SqL K F a (ns.map V.int)
 | _,.non,e=>by cases e
 | _,.bl _,e=>by cases e
 | _,.int _,e=>by cases e
 | _,.str _,e=>by cases e
 | _,.lst _ _,e=>by cases e
 | _,.tup _ _,e=>by cases e
 | _,.dk _ t,e=>by
  cases t with
  | nil=>injection e with e;cases e
  | cons _ _ =>
   injection e with e
   injection e with e _
   injection e with e _
   exact (keyD_ne _ e).elim
 | _,.dt _ t,e=>by
  cases t with
  | nil=>injection e with e;cases e
  | cons _ _ =>
   injection e with e
   injection e with e _
   injection e with e _
   cases e
 | _,.scr (ns:=ns') q,e=>by
  injection e with e
  injection e with e _
  injection e with _ e
  injection e with e2
  have:∀(l m:List Int),l.map q0=m.map q0->l=m:=by
   intro l
   induction l with
   | nil=>intro m e;cases m with|nil=>rfl|cons=>simp at e
   | cons a l ih=>intro m e;cases m with|nil=>simp at e|cons b m=>simp at e;rw[e.1,ih m e.2]
  rw[<- this _ _ e2]
  exact ⟨_,rfl,q⟩
theorem At.scr{ns:List Int}(s:Sub F H)(h:At K F H v (scrD ns)):∃a,v=.ref a/\SqL K H a (ns.map V.int):=by
 rcases h with h|⟨a,o,rfl,_,e,h⟩
 ·obtain⟨a,h1,h2⟩:=h.scr_inv rfl
  exact ⟨a,h1,s.sql h2⟩
 ·exfalso
  cases o<;>first|exact h.elim|skip
  ·rename_i kvs
   have h:DaKV K F kvs [(.none,.list (ns.map q0))]:=h
   generalize q:[(PyData.none,Q3 (ns.map q0))]=es at h
   cases h with
   | nil=>cases q
   | cons _ _ =>
    injection q with q _
    injection q with q _
    exact keyD_ne _ q.symm
  ·rename_i kvs
   have h:DaKT K F kvs [(.none,.list (ns.map q0))]:=h
   cases h
theorem AtAll.one{vs:List V}{d:D}(h:AtAll K F H vs [d]):∃v,vs=[v]/\At K F H v d:=by
 cases h with|cons a t=>cases t;exact ⟨_,rfl,a⟩
theorem AtAll.two{vs:List V}{d e:D}(h:AtAll K F H vs [d,e]):∃v u,vs=[v,u]/\At K F H v d/\At K F H u e:=by
 cases h with|cons a t=>cases t with|cons b t=>cases t;exact ⟨_,_,rfl,a,b⟩
end
noncomputable def r2L(r:R2):List V->Hp->VK->Prop:=λvs H Q=>∃x y,vs=[x,y]/\r x y H Q
noncomputable def r1L(r:V->Hp->VK->Prop):List V->Hp->VK->Prop:=λvs H Q=>∃x,vs=[x]/\r x H Q
theorem ok2{K:Fg}{r:R2}{f:D->D->(Sl->Prop)->Prop}(h:∀(G:Gh) (F:Hp) (σ:St) (H:Hp) (ρ:Ev) (x y:V) (d e:D) (Q:VK) (Qd:Sl->Prop),Rel K G F σ H ρ->At K F H x d->At K F H y e->f d e Qd ->
    (∀v H' F' s,Sub F F'->Rel K G F' σ H' ρ->Res K G F' H' σ ρ v s->Qd s->Q v H')->r x y H Q):OpOk K (r2L r) (o2 f):=by
 intro G F σ H ρ vs ds Q Qd R a w k
 match ds,a,w with
 | [d,e],a,w =>
  obtain⟨v,u,rfl,h1,h2⟩:=a.two
  exact ⟨v,u,rfl,h G F σ H ρ v u d e Q Qd R h1 h2 w k⟩
theorem ok1{K:Fg}{r:List V->Hp->VK->Prop}{f:D->(Sl->Prop)->Prop}(h:∀(G:Gh) (F:Hp) (σ:St) (H:Hp) (ρ:Ev) (x:V) (d:D) (Q:VK) (Qd:Sl->Prop),Rel K G F σ H ρ->At K F H x d->f d Qd ->
    (∀v H' F' s,Sub F F'->Rel K G F' σ H' ρ->Res K G F' H' σ ρ v s->Qd s->Q v H')->r [x] H Q):OpOk K r (o1 f):=by
 intro G F σ H ρ vs ds Q Qd R a w k
 match ds,a,w with
 | [d],a,w =>
  obtain⟨v,rfl,h1⟩:=a.one
  exact h G F σ H ρ v d Q Qd R h1 w k
noncomputable def fI(C:Int->Int->Prop)(g:Int->Int->D):D->D->(Sl->Prop)->Prop
 | .int i,.int j,Q=>C i j/\Q (.fz (g i j))
 | _,_,_=>False
noncomputable def fI0(g:Int->Int->D):D->D->(Sl->Prop)->Prop
 | .int i,.int j,Q=>Q (.fz (g i j))
 | _,_,_=>False
theorem ok_I{K:Fg}{C:Int->Int->Prop}{g:Int->Int->V}{g':Int->Int->D}(hg:∀F i j,Da K F (g i j) (g' i j)):OpOk K (r2L (rI C g)) (o2 (fI C g')):=ok2 λG F σ H ρ x y d e Q Qd R h1 h2 w k=>by
 cases d<;>first|exact w.elim|skip
 cases e<;>first|exact w.elim|skip
 case int.int i j =>
  cases h1.int
  cases h2.int
  exact ⟨i,j,rfl,rfl,w.1,k _ H F (.fz _) (Sub.refl _) R (hg F i j) w.2⟩
theorem ok_I0{K:Fg}{g:Int->Int->V}{g':Int->Int->D}(hg:∀F i j,Da K F (g i j) (g' i j)):OpOk K (r2L (rI0 g)) (o2 (fI0 g')):=ok2 λG F σ H ρ x y d e Q Qd R h1 h2 w k=>by
 cases d<;>first|exact w.elim|skip
 cases e<;>first|exact w.elim|skip
 case int.int i j =>
  cases h1.int
  cases h2.int
  exact ⟨i,j,rfl,rfl,k _ H F (.fz _) (Sub.refl _) R (hg F i j) w⟩
noncomputable def rAny(r r':R2):R2:=λx y H Q=>r x y H Q\/r' x y H Q
noncomputable def rCatB:R2:=λx y H Q=>∃(a b:Addr) (xs ys:List V),x=.ref a/\y=.ref b/\H a=some (.tup xs)/\H b=some (.tup ys)/\xs.length+ys.length<=sizeLine /\
 (xs=[]->Q (.ref b) H)/\(xs≠[]->ys=[]->Q (.ref a) H)/\(xs≠[]->ys≠[]->∀p,H p=none->Q (.ref p) (upd H p (.tup (xs++ys))))
noncomputable def fAdd:D->D->(Sl->Prop)->Prop
 | .int i,.int j,Q=>Q (.fz (.int (i+j)))
 | .tuple xs,.tuple ys,Q=>xs.length+ys.length<=sizeLine/\Q (.fz (.tuple (xs++ys)))
 | .list xs,.list ys,Q=>xs.length+ys.length<=sizeLine/\Q (.ow (.list (xs++ys)))
 | _,_,_=>False
theorem DaAll.nil_of{K:Fg}{F:Hp}{ds:List D}(h:DaAll K F [] ds):ds=[]:=by cases h;rfl
theorem ok_add{K:Fg}:OpOk K (r2L (rAny (rI0 λi j=>.int (i+j)) (rAny rCatB rCat))) (o2 fAdd):=ok2 λG F σ H ρ x y d e Q Qd R h1 h2 w k=>by
 cases d<;>first|exact w.elim|(cases e<;>first|exact w.elim|skip)
 case int.int i j =>
  cases h1.int
  cases h2.int
  exact .inl ⟨i,j,rfl,rfl,k _ H F (.fz _) (Sub.refl _) R (Da.int _) w⟩
 case tuple.tuple xs ys =>
  obtain⟨a,us,rfl,f1,e1,d1⟩:=h1.tuple R.sub
  obtain⟨b,ws,rfl,f2,e2,d2⟩:=h2.tuple R.sub
  refine .inr (.inl ⟨a,b,us,ws,rfl,rfl,e1,e2,by rw[d1.length,d2.length];exact w.1,λz=>?_,λ_ z=>?_,λ_ _ p hp=>?_⟩)
  ·subst z
   have:=d1.nil_of
   subst this
   exact k _ H F (.fz _) (Sub.refl _) R (Da.tup f2 d2) w.2
  ·subst z
   have:=d2.nil_of
   subst this
   refine k _ H F (.fz _) (Sub.refl _) R (Da.tup f1 d1) ?_
   have:=w.2
   rw[S3]at this
   exact this
  ·obtain⟨sb,R',dd⟩:=R.newTup hp (d1.append d2)
   exact k _ _ _ (.fz _) sb R' dd w.2
 case list.list xs ys =>
  obtain⟨a,us,rfl,e1,d1⟩:=h1.list R.sub
  obtain⟨b,ws,rfl,e2,d2⟩:=h2.list R.sub
  refine .inr (.inr ⟨a,b,us,ws,rfl,rfl,e1,e2,by rw[d1.length,d2.length];exact w.1,λp hp=>?_⟩)
  obtain⟨R',r'⟩:=R.newOw (o:=.lst (us++ws)) (d:=.list (xs++ys)) hp (d1.append d2)
  exact k _ _ F _ (Sub.refl _) R' r' w.2
noncomputable def fMul:D->D->(Sl->Prop)->Prop
 | .int i,.int j,Q=>CMul i j/\Q (.fz (.int (i * j)))
 | .list xs,.int k,Q=>-(2 ^ 63)<=k/\k < 2 ^ 63/\xs.length * k.toNat<=sizeLine/\Q (.ow (.list (P1 k.toNat xs).flatten))
 | _,_,_=>False
theorem ok_mul{K:Fg}:OpOk K (r2L (rAny (rI CMul λi j=>.int (i * j)) rRep)) (o2 fMul):=ok2 λG F σ H ρ x y d e Q Qd R h1 h2 w k=>by
 cases d<;>first|exact w.elim|(cases e<;>first|exact w.elim|skip)
 case int.int i j =>
  cases h1.int
  cases h2.int
  exact .inl ⟨i,j,rfl,rfl,w.1,k _ H F (.fz _) (Sub.refl _) R (Da.int _) w.2⟩
 case list.int xs j =>
  cases h2.int
  obtain⟨a,us,rfl,e1,d1⟩:=h1.list R.sub
  refine .inr ⟨a,j,us,rfl,rfl,e1,w.1,w.2.1,by rw[d1.length];exact w.2.2.1,λp hp=>?_⟩
  obtain⟨R',r'⟩:=R.newOw (o:=.lst (P1 j.toNat us).flatten) (d:=.list (P1 j.toNat xs).flatten) hp (d1.rep _)
  exact k _ _ F _ (Sub.refl _) R' r' w.2.2.2
noncomputable def fLen:D->(Sl->Prop)->Prop
 | .list ds,Q=>Q (.fz (.int ds.length))
 | .tuple ds,Q=>Q (.fz (.int ds.length))
 | .dict [(.none,.list ds)],Q=>∃ns:List Int,ds=ns.map q0/\Q (.fz (.int ns.length))
 | _,_=>False
theorem ok_len{K:Fg}:OpOk K (rLen K) (o1 fLen):=ok1 λG F σ H ρ x d Q Qd R h1 w k=>by
 cases d<;>first|exact w.elim|skip
 case list ds =>
  obtain⟨a,us,rfl,e1,d1⟩:=h1.list R.sub
  exact ⟨a,us,rfl,.inl (SqL.of e1),k _ H F (.fz _) (Sub.refl _) R (Da.int _) (by rw[d1.length];exact w)⟩
 case tuple ds =>
  obtain⟨a,us,rfl,_,e1,d1⟩:=h1.tuple R.sub
  exact ⟨a,us,rfl,.inr (SqT.of e1),k _ H F (.fz _) (Sub.refl _) R (Da.int _) (by rw[d1.length];exact w)⟩
 case dict es =>
  rcases es with _|⟨⟨c1,c2⟩,_|⟨c3,c4⟩⟩
  ·exact w.elim
  ·cases c1<;>first|exact w.elim|skip
   cases c2<;>first|exact w.elim|skip
   obtain⟨ns,rfl,w⟩:=w
   obtain⟨a,rfl,q⟩:=h1.scr R.sub
   exact ⟨a,_,rfl,.inl q,k _ H F (.fz _) (Sub.refl _) R (Da.int _) (by rw[A0];exact w)⟩
  ·cases c1<;>first|exact w.elim|(cases c2<;>exact w.elim)
noncomputable def fIx:D->D->(Sl->Prop)->Prop
 | .list ds,.int i,Q=>∃d,atI ds i=some d/\Q (.fz d)
 | .tuple ds,.int i,Q=>∃d,atI ds i=some d/\Q (.fz d)
 | .dict [(.none,.list ds)],.int i,Q=>∃(ns:List Int) (n:Int),ds=ns.map q0/\atI ns i=some n/\Q (.fz (.int n))
 | _,_,_=>False
theorem DaAll.at{K:Fg}{F:Hp}{xs:List V}{ds:List D}{i:Int}{d:D}(h:DaAll K F xs ds)(e:atI ds i=some d):∃v,atI xs i=some v/\Da K F v d:=by
 unfold atI at e ⊢
 rw[h.length]
 cases q:ixN ds.length i with
 | none=>rw[q]at e;cases e
 | some j=>rw[q]at e;exact h.get e
theorem atI_map{α β:Type}(f:α->β){l:List α}{i:Int}{x:α}(h:atI l i=some x):atI (l.map f) i=some (f x):=by
 unfold atI at h ⊢
 rw[A0]
 cases q:ixN l.length i with
 | none=>rw[q]at h;cases h
 | some j=>rw[q]at h;simp at h ⊢;exact ⟨x,h,rfl⟩
theorem ok_ix{K:Fg}:OpOk K (r2L (rAny (rIxL K) (rIxT K))) (o2 fIx):=ok2 λG F σ H ρ x y d e Q Qd R h1 h2 w k=>by
 cases d<;>first|exact w.elim|skip
 case list ds =>
  cases e<;>first|exact w.elim|skip
  rename_i i
  obtain⟨d,w1,w2⟩:=w
  cases h2.int
  obtain⟨a,us,rfl,e1,d1⟩:=h1.list R.sub
  obtain⟨v,g1,g2⟩:=d1.at w1
  exact .inl ⟨a,us,i,v,rfl,rfl,SqL.of e1,g1,k _ H F (.fz _) (Sub.refl _) R g2 w2⟩
 case tuple ds =>
  cases e<;>first|exact w.elim|skip
  rename_i i
  obtain⟨d,w1,w2⟩:=w
  cases h2.int
  obtain⟨a,us,rfl,_,e1,d1⟩:=h1.tuple R.sub
  obtain⟨v,g1,g2⟩:=d1.at w1
  exact .inr ⟨a,us,i,v,rfl,rfl,SqT.of e1,g1,k _ H F (.fz _) (Sub.refl _) R g2 w2⟩
 case dict es =>
  rcases es with _|⟨⟨c1,c2⟩,_|⟨c3,c4⟩⟩
  ·exact w.elim
  ·cases c1<;>first|exact w.elim|skip
   cases c2<;>first|exact w.elim|skip
   cases e<;>first|exact w.elim|skip
   rename_i i
   obtain⟨ns,n,e,w1,w2⟩:=w
   subst e
   cases h2.int
   obtain⟨a,rfl,q⟩:=h1.scr R.sub
   exact .inl ⟨a,_,i,_,rfl,rfl,q,atI_map V.int w1,k _ H F (.fz _) (Sub.refl _) R (Da.int _) w2⟩
  ·cases c1<;>first|exact w.elim|(cases c2<;>exact w.elim)
noncomputable def fList:D->(Sl->Prop)->Prop
 | .list ds,Q=>Q (.ow (.list ds))
 | .tuple ds,Q=>Q (.ow (.list ds))
 | _,_=>False
theorem ok_list{K:Fg}:OpOk K (rListOf K) (o1 fList):=ok1 λG F σ H ρ x d Q Qd R h1 w k=>by
 match d,h1,w with
 | .list ds,h1,w =>
  obtain⟨a,us,rfl,e1,d1⟩:=h1.list R.sub
  refine ⟨a,us,rfl,.inl (SqL.of e1),λp hp=>?_⟩
  obtain⟨R',r'⟩:=R.newOw (o:=.lst us) (d:=.list ds) hp d1
  exact k _ _ F _ (Sub.refl _) R' r' w
 | .tuple ds,h1,w =>
  obtain⟨a,us,rfl,_,e1,d1⟩:=h1.tuple R.sub
  refine ⟨a,us,rfl,.inr (SqT.of e1),λp hp=>?_⟩
  obtain⟨R',r'⟩:=R.newOw (o:=.lst us) (d:=.list ds) hp d1
  exact k _ _ F _ (Sub.refl _) R' r' w
noncomputable def fTuple:D->(Sl->Prop)->Prop
 | .list ds,Q=>Q (.fz (.tuple ds))
 | .tuple ds,Q=>Q (.fz (.tuple ds))
 | _,_=>False
theorem ok_tuple{K:Fg}:OpOk K (rTupleOf K) (o1 fTuple):=ok1 λG F σ H ρ x d Q Qd R h1 w k=>by
 match d,h1,w with
 | .list ds,h1,w =>
  obtain⟨a,us,rfl,e1,d1⟩:=h1.list R.sub
  refine ⟨a,us,rfl,.inl ⟨SqL.of e1,λp hp=>?_⟩⟩
  obtain⟨sb,R',dd⟩:=R.newTup hp d1
  exact k _ _ _ (.fz _) sb R' dd w
 | .tuple ds,h1,w =>
  obtain⟨a,us,rfl,f1,e1,d1⟩:=h1.tuple R.sub
  exact ⟨a,us,rfl,.inr ⟨SqT.of e1,k _ H F (.fz _) (Sub.refl _) R (Da.tup f1 d1) w⟩⟩
noncomputable def fAll:D->(Sl->Prop)->Prop
 | .list ds,Q=>∃bs:List Bool,ds=bs.map M7/\Q (.fz (.bool (bs.all id)))
 | _,_=>False
theorem DaAll.bools{K:Fg}{F:Hp}:∀{xs:List V}{bs:List Bool},DaAll K F xs (bs.map M7)->xs=bs.map V.bl
 | [],[],_=>rfl
 | x :: xs,b :: bs,.cons h t=>by cases h;simp[DaAll.bools t]
theorem ok_all{K:Fg}:OpOk K (rAll K) (o1 fAll):=ok1 λG F σ H ρ x d Q Qd R h1 w k=>by
 match d,h1,w with
 | .list ds,h1,⟨bs,e,w⟩ =>
  subst e
  obtain⟨a,us,rfl,e1,d1⟩:=h1.list R.sub
  have:=d1.bools
  subst this
  exact ⟨a,bs,rfl,SqL.of e1,k _ H F (.fz _) (Sub.refl _) R (Da.bl _) w⟩
noncomputable def kiD:D->Ki
 | .none=>.non
 | .bool _=>.bl
 | .int _=>.int
 | .str _=>.str
 | .list _=>.lst
 | .tuple _=>.tup
 | .dict ((.none,_) :: _)=>.lst
 | .dict _=>.dct
noncomputable def fAbs:D->(Sl->Prop)->Prop
 | .int i,Q=>Q (.fz (.int (if i < 0 then -i else i)))
 | _,_=>False
theorem ok_2I{K:Fg}{g:Int->Int->Int}:OpOk K (λxs H Q=>∃i j,xs=[V.int i,V.int j]/\Q (V.int (g i j)) H) (o2 (fI0 λi j=>.int (g i j))):=by
 intro G F σ H ρ vs ds Q Qd R a w k
 match ds,a,w with
 | [d,e],a,w =>
  obtain⟨v,u,rfl,h1,h2⟩:=a.two
  have w:fI0 (λi j=>.int (g i j)) d e Qd:=w
  unfold fI0 at w
  split at w
  rotate_left
  ·exact w.elim
  rename_i i j w
  cases h1.int
  cases h2.int
  exact ⟨i,j,rfl,k _ H F (.fz _) (Sub.refl _) R (Da.int _) w⟩
noncomputable def fNeg:D->(Sl->Prop)->Prop
 | .int i,Q=>Q (.fz (.int (-i)))
 | _,_=>False
theorem ok_neg{K:Fg}:OpOk K (r1L (rU λi=>.int (-i))) (o1 fNeg):=ok1 λG F σ H ρ x d Q Qd R h1 w k=>by
 match d,h1,w with
 | .int i,h1,w=>cases h1.int;exact ⟨_,rfl,i,rfl,k _ H F (.fz _) (Sub.refl _) R (Da.int _) w⟩
noncomputable def dOpF(as:List AD)(f:List D->(Sl->Prop)->Prop):TD:=λρ Q=>dArgs as ρ λxs ρ1=>match lentAny ρ1 xs with
 | false=>looksQ ρ1 xs λds=>f ds λr=>Q r ρ1
 | true=>False
noncomputable def fTupD(ds:List D)(Q:Sl->Prop):Prop:=Q (.fz (.tuple ds))
noncomputable def fLstD(ds:List D)(Q:Sl->Prop):Prop:=Q (.ow (.list ds))
theorem le_size{n:Nat}(h:n<=1000):n<=sizeLine:=O1 h (by decide)
theorem l_tup{K:Fg}{as:List AD}(hl:as.length<=1000){σ:St}{H:Hp}{Q:VK}(h:lift K (dOpF as fTupD) σ H Q):tTup (tArgs (as.map (argT K))) σ H Q:=by
 obtain⟨G,F,ρ,Qd,R,w,k⟩:=h
 refine args_okL R w λvs H' F' xs ρ' sb R' o hn q=>?_
 split at q
 ·rename_i e
  obtain⟨ds,da,q⟩:=noLent_looks R' e o q
  refine ⟨le_size (by omega),λp hp=>?_⟩
  obtain⟨s2,R2,dd⟩:=R'.newTup hp da
  exact k _ _ _ (.fz _) _ (sb.trans s2) R2 dd q
 ·exact q.elim
theorem l_lst{K:Fg}{as:List AD}(hl:as.length<=1000){σ:St}{H:Hp}{Q:VK}(h:lift K (dOpF as fLstD) σ H Q):tLst (tArgs (as.map (argT K))) σ H Q:=by
 obtain⟨G,F,ρ,Qd,R,w,k⟩:=h
 refine args_okL R w λvs H' F' xs ρ' sb R' o hn q=>?_
 split at q
 ·rename_i e
  obtain⟨ds,da,q⟩:=noLent_looks R' e o q
  refine ⟨le_size (by omega),λp hp=>?_⟩
  obtain⟨R2,r2⟩:=R'.newOw (o:=.lst vs) (d:=.list ds) hp da
  exact k _ _ _ _ _ sb R2 r2 q
 ·exact q.elim
noncomputable def dChain(p q:Int->Int->Bool)(a b c:AD):TD:=λρ Q=>dArgs [a,b] ρ λxs ρ1=>looksQ ρ1 xs λds=>match ds with
 | [.int i,.int j]=>if p i j=true then dArgs [c] ρ1 λys ρ2=>looksQ ρ2 ys λes=>match es with
   | [.int k]=>Q (.fz (.bool (q j k))) ρ2
   | _=>False
  else Q (.fz (.bool false)) ρ1
 | _=>False
theorem l_chain{K:Fg}{p q:Int->Int->Bool}{a b c:AD}{σ:St}{H:Hp}{Q:VK}(h:lift K (dChain p q a b c) σ H Q) :
  tChain (rI0 λi j=>.bl (p i j)) (rI0 λi j=>.bl (q i j)) (argT K a) (argT K b) (argT K c) σ H Q:=by
 obtain⟨G,F,ρ,Qd,R,w,k⟩:=h
 have main:tArgs ([a,b].map (argT K)) σ H λvs H2=>∃x y,vs=[x,y]/\(rI0 λi j=>V.bl (p i j)) x y H2 λz H3=>∃k,z=.bl k /\
   (if k=true then argT K c σ H3 λw' H4=>(rI0 λi j=>V.bl (q i j)) y w' H4 Q else Q (.bl false) H3):=by
  refine args_ok R w λvs H' F' xs ρ' sb R' o w1=>?_
  obtain⟨ds,ha,w1⟩:=looks_ok R' o w1
  split at w1
  ·rename_i i j
   obtain⟨v,u,rfl,h1,h2⟩:=ha.two
   cases h1.int
   cases h2.int
   refine ⟨_,_,rfl,i,j,rfl,rfl,p i j,rfl,?_⟩
   by_cases e:p i j=true
   ·rw[if_pos e]at w1 ⊢
    have:=args_ok (as:=[c]) (Qv:=λvs H4=>∃w',vs=[w']/\(rI0 λi j=>V.bl (q i j)) (V.int j) w' H4 Q) R' w1 λvs H2 F2 ys ρ2 s2 R2 o2 w2=>by
     obtain⟨es,hb,w2⟩:=looks_ok R2 o2 w2
     split at w2
     ·rename_i k'
      obtain⟨v,rfl,h3⟩:=hb.one
      cases h3.int
      exact ⟨_,rfl,j,k',rfl,rfl,k _ H2 F2 (.fz _) ρ2 (sb.trans s2) R2 (Da.bl _) w2⟩
     ·exact w2.elim
    exact arg1 this
   ·rw[if_neg e]at w1 ⊢
    exact k _ H' F' (.fz _) ρ' sb R' (Da.bl _) w1
  ·exact w1.elim
 exact arg2 main
noncomputable def dMeth(i:Nat)(as:List AD)(f:List D->List D->(D->D->Prop)->Prop):TD:=λρ Q=>match ρ[i]? with
 | some (some s0)=>match s0.d,isOw s0 with
  | .list _,true=>dArgs as ρ λxs ρ1=>match ρ1[i]?,lentAny ρ1 xs with
   | some (some s),false=>match s.d,isOw s with
    | .list es,true=>looksQ ρ1 xs λds=>f es ds λd' r=>Q (.fz r) (ρ1.set i (some (s.put d')))
    | _,_=>False
   | _,_=>False
  | _,_=>False
 | _=>False
noncomputable def MOk(K:Fg)(r:V->List V->Hp->VK->Prop)(f:List D->List D->(D->D->Prop)->Prop):Prop :=
 ∀(F H:Hp) (a:Addr) (xs:List V) (es:List D) (vs:List V) (ds:List D) (Q:VK) (k:D->D->Prop),Sub F H->H a=some (.lst xs)->DaAll K F xs es->DaAll K F vs ds->f es ds k ->
  (∀v o' d' res,Own1 K F o' d'->Da K F v res->k d' res->Q v (upd H a o'))->r (.ref a) vs H Q
theorem l_meth{K:Fg}{i:Nat}{as:List AD}{r:V->List V->Hp->VK->Prop}{f:List D->List D->(D->D->Prop)->Prop}(ok:MOk K r f){σ:St}{H:Hp}{Q:VK}(h:lift K (dMeth i as f) σ H Q) :
  ∃a xs,σ[i]?=some (some (V.ref a))/\SqL K H a xs/\tArgs (as.map (argT K)) σ H λvs H2=>r (.ref a) vs H2 Q:=by
 obtain⟨G,F,ρ,Qd,R,w,k⟩:=h
 unfold dMeth at w
 split at w
 ·rename_i s0 e0
  split at w
  ·rename_i es0 p1 p2
   obtain⟨a,o,g1,g2,g3,g4⟩:=R.ow i s0 e0 p2
   have gl:∃xs,H a=some (.lst xs):=by
    rw[p1]at g4
    cases o<;>first|exact g4.elim|exact ⟨_,g3⟩
   obtain⟨xs0,gl⟩:=gl
   refine ⟨a,xs0,g1,SqL.of gl,args_ok R w λvs H1 F1 xs ρ1 s1 R1 o1 w1=>?_⟩
   split at w1
   ·rename_i s e en
    split at w1
    ·rename_i es q1 q2
     obtain⟨ds,da,w1⟩:=noLent_looks R1 en o1 w1
     obtain⟨a',o',h1,h2,h3,h4⟩:=R1.ow i s e q2
     rw[g1]at h1;cases h1
     rw[q1]at h4
     have hl:∃us,o'=.lst us/\DaAll K F1 us es:=by cases o'<;>first|exact h4.elim|exact ⟨_,rfl,h4⟩
     obtain⟨us,rfl,h4⟩:=hl
     refine ok F1 H1 a us es vs ds Q _ R1.sub h3 h4 da w1 λv o2 d2 res ho hv hk=>?_
     have R2:=R1.change (o':=o2) (d':=d2) e q2 g1 ho
     exact k v _ F1 (.fz res) _ s1 R2 hv hk
    ·exact w1.elim
   ·exact w1.elim
  ·exact w.elim
 ·exact w.elim
noncomputable def fAppend:List D->List D->(D->D->Prop)->Prop
 | es,[x],k=>es.length < sizeLine/\k (.list (es++[x])) .none
 | _,_,_=>False
theorem ok_append{K:Fg}:MOk K rAppend fAppend:=by
 intro F H a xs es vs ds Q k s e d1 d2 w q
 match ds,d2,w with
 | [x],.cons h .nil,w=>exact ⟨a,xs,_,rfl,rfl,e,by rw[d1.length];exact w.1,q _ (.lst (xs++[_])) (.list (es++[x])) _ (d1.append (.cons h .nil)) .non w.2⟩
noncomputable def fExtend:List D->List D->(D->D->Prop)->Prop
 | es,[.list ys],k=>es.length+ys.length<=sizeLine/\k (.list (es++ys)) .none
 | _,_,_=>False
theorem ok_extend{K:Fg}:MOk K rExtend fExtend:=by
 intro F H a xs es vs ds Q k s e d1 d2 w q
 match ds,d2,w with
 | [.list ys],.cons h .nil,w =>
  cases h with
  | lst e2 t=>exact ⟨a,_,xs,_,rfl,rfl,e,s _ _ e2,by rw[d1.length,t.length];exact w.1,q _ (.lst (xs++_)) (.list (es++ys)) _ (d1.append t) .non w.2⟩
noncomputable def fPop:List D->List D->(D->D->Prop)->Prop
 | es,[],k=>∃d,es[es.length - 1]?=some d/\k (.list es.dropLast) d
 | _,_,_=>False
theorem ok_pop{K:Fg}:MOk K rPop fPop:=by
 intro F H a xs es vs ds Q k s e d1 d2 w q
 match ds,d2,w with
 | [],.nil,⟨d,w1,w2⟩ =>
  obtain⟨v,h1,h2⟩:=d1.get w1
  exact ⟨a,xs,v,rfl,rfl,e,by rw[d1.length];exact h1,q v (.lst xs.dropLast) (.list es.dropLast) d d1.dropLast h2 w2⟩
noncomputable def fInsert:List D->List D->(D->D->Prop)->Prop
 | es,[.int i,x],k=>es.length < sizeLine/\0<=i/\i<=es.length/\k (.list (es.take i.toNat++x :: es.drop i.toNat)) .none
 | _,_,_=>False
noncomputable def dSetIx(j:Nat)(ai:AD)(te:TD):TDS:=λE ρ=>te ρ λr ρ1=>match ρ1[j]? with
 | some (some _)=>dArgs [ai] ρ1 λxs ρ2=>looksQ ρ2 xs λds=>match ds,ρ2[j]? with
  | [.int k],some (some s)=>match s.d,isOw s with
   | .list es,true=>∃n,ixN es.length k=some n/\E.nx (ρ2.set j (some (s.put (.list (es.set n r.d)))))
   | _,_=>False
  | _,_=>False
 | _=>False
theorem l_setIx{K:Fg}{j:Nat}{ai:AD}{te:TD}{σ:St}{H:Hp}{E:Ends}(h:liftS K (dSetIx j ai te) E σ H):tAsg (lift K te) (gSub (tVar j) (argT K ai) rSetL) E σ H:=by
 obtain⟨G,F,ρ,D,R,w,n,r,b,c⟩:=h
 refine ⟨G,F,ρ,_,R,w,λv H1 F1 x ρ1 s1 R1 r1 w1=>?_⟩
 obtain⟨F2,s2,R2,d2⟩:=r1.frz R1
 split at w1
 ·rename_i s0 e0
  obtain⟨u,eu⟩:=R2.bound e0
  refine ⟨u,eu,arg1 (P:=λi H2=>rSetL u i v H2 λH3=>E.nx σ H3) (args_ok R2 w1 λvs H3 F3 xs ρ3 s3 R3 o3 w3=>?_)⟩
  obtain⟨ds,ha,w3⟩:=looks_ok R3 o3 w3
  split at w3
  ·rename_i k s e
   obtain⟨iv,rfl,hi⟩:=ha.one
   cases hi.int
   split at w3
   ·rename_i es p1 p2
    obtain⟨m,w4,w5⟩:=w3
    obtain⟨a,o,g1,g2,g3,g4⟩:=R3.ow j s e p2
    rw[eu]at g1;cases g1
    rw[p1]at g4
    have hl:∃us,o=.lst us/\DaAll K F3 us es:=by cases o<;>first|exact g4.elim|exact ⟨_,rfl,g4⟩
    obtain⟨us,rfl,g4⟩:=hl
    refine ⟨_,rfl,a,us,k,m,rfl,rfl,g3,by rw[g4.length];exact w4,?_⟩
    have R4:=R3.change (o':=.lst (us.set m v)) (d':=.list (es.set m x.d)) e p2 eu (g4.set (d2.mono s3) m)
    exact n σ _ F3 _ (s1.trans (s2.trans s3)) R4 w5
   ·exact w3.elim
  ·exact w3.elim
 ·exact w1.elim
noncomputable def iSeq(K:Fg)(tl:TE):TI:=λσ H R=>tl σ H λx H1=>∃a,x=.ref a/\(((∃xs,SqL K H1 a xs)/\R (Itl K a) H1)\/((∃xs,SqT K H1 a xs)/\R (Itt K a) H1))
noncomputable def dISeq(a:TD):TDI:=λρ Q=>a ρ λr ρ1=>match r.d with
 | .list ds=>Q ds ρ1
 | .tuple ds=>Q ds ρ1
 | _=>False
theorem walks_list{K:Fg}{F:Hp}{a:Addr}{xs:List V}{ds:List D}(e:F a=some (.lst xs))(h:DaAll K F xs ds):Walks K (Itl K a) F ds:=λi H F1 s1 s2=>by
 have q:=SqL.of (K:=K) (s2 _ _ (s1 _ _ e))
 refine ⟨λd ed=>?_,λhl=>⟨xs,q,by rw[h.length];omega⟩⟩
 obtain⟨v,h1,h2⟩:=h.get ed
 refine ⟨⟨xs,v,q,h1⟩,λx H' ⟨e1,e2⟩=>?_⟩
 subst e1
 have:=e2 xs q
 rw[h1]at this;cases this
 exact ⟨F1,Sub.refl _,λ_ _ z=>.inl z,s2,Sub.refl _,h2.mono s1⟩
theorem walks_tup{K:Fg}{F:Hp}{a:Addr}{xs:List V}{ds:List D}(e:F a=some (.tup xs))(h:DaAll K F xs ds):Walks K (Itt K a) F ds:=λi H F1 s1 s2=>by
 have q:=SqT.of (K:=K) (s2 _ _ (s1 _ _ e))
 refine ⟨λd ed=>?_,λhl=>⟨xs,q,by rw[h.length];omega⟩⟩
 obtain⟨v,h1,h2⟩:=h.get ed
 refine ⟨⟨xs,v,q,h1⟩,λx H' ⟨e1,e2⟩=>?_⟩
 subst e1
 have:=e2 xs q
 rw[h1]at this;cases this
 exact ⟨F1,Sub.refl _,λ_ _ z=>.inl z,s2,Sub.refl _,h2.mono s1⟩
theorem l_iseq{K:Fg}{a:TD}{σ:St}{H:Hp}{R:It->Hp->Prop}(h:liftI K (dISeq a) σ H R):iSeq K (lift K a) σ H R:=by
 obtain⟨G,F,ρ,Qd,Rl,w,k⟩:=h
 refine ⟨G,F,ρ,_,Rl,w,λv H1 F1 r ρ1 s1 R1 r1 w1=>?_⟩
 obtain⟨F2,s2,R2,d2⟩:=r1.frz R1
 split at w1
 ·rename_i ds e
  rw[e]at d2
  cases d2 with
  | lst q t=>exact ⟨_,rfl,.inl ⟨⟨_,SqL.of (R2.sub _ _ q)⟩,k _ H1 F2 ds ρ1 (s1.trans s2) R2 (walks_list q t) w1⟩⟩
 ·rename_i ds e
  rw[e]at d2
  cases d2 with
  | tup q t=>exact ⟨_,rfl,.inr ⟨⟨_,SqT.of (R2.sub _ _ q)⟩,k _ H1 F2 ds ρ1 (s1.trans s2) R2 (walks_tup q t) w1⟩⟩
 ·exact w1.elim
noncomputable def rangeD(lo:Int)(n:Nat):List D:=(A2 n).map λ(i:Nat)=>q0 (lo+i)
theorem walks_range{K:Fg}{F:Hp}{lo:Int}{n:Nat}:Walks K (Itr lo n) F (rangeD lo n):=λi H F1 s1 s2=>by
 have hl:(rangeD lo n).length=n:=by simp[rangeD]
 refine ⟨λd ed=>?_,λh=>by rw[hl]at h;exact m8 h⟩
 have hi:i < n:=by have:=lt_of_get ed;rw[hl]at this;exact this
 have e:(rangeD lo n)[i]?=some (.int (lo+i)):=by simp[rangeD,hi]
 rw[e]at ed;cases ed
 refine ⟨hi,λx H' ⟨e1,e2⟩=>?_⟩
 subst e1 e2
 exact ⟨F1,Sub.refl _,λ_ _ z=>.inl z,s2,Sub.refl _,.int _⟩
noncomputable def dIRng1(a:AD):TDI:=λρ Q=>dArgs [a] ρ λxs ρ1=>looksQ ρ1 xs λds=>match ds with
 | [.int j]=>-(2 ^ 62)<=j/\j < 2 ^ 62/\Q (rangeD 0 j.toNat) ρ1
 | _=>False
theorem l_rng1{K:Fg}{a:AD}{σ:St}{H:Hp}{R:It->Hp->Prop}(h:liftI K (dIRng1 a) σ H R):iRng1 (tArgs ([a].map (argT K))) σ H R:=by
 obtain⟨G,F,ρ,Qd,Rl,w,k⟩:=h
 refine args_ok Rl w λvs H' F' xs ρ' sb R' o w1=>?_
 obtain⟨ds,ha,w1⟩:=looks_ok R' o w1
 split at w1
 ·rename_i j
  obtain⟨v,rfl,h1⟩:=ha.one
  cases h1.int
  exact ⟨j,rfl,w1.1,w1.2.1,k _ H' F' _ ρ' sb R' walks_range w1.2.2⟩
 ·exact w1.elim
noncomputable def SeqF(K:Fg)(F:Hp)(v:V)(ds:List D):Prop:=∃k a xs,v=.ref a/\(F a=some (match k with|Kd.l=>HO.lst xs|Kd.t=>HO.tup xs))/\DaAll K F xs ds
theorem sq_of{K:Fg}{H:Hp}{a:Addr}{xs:List V}{k:Kd}(e:H a=some (match k with|Kd.l=>HO.lst xs|Kd.t=>HO.tup xs)):Sq k K H a xs:=by
 cases k with
 | l=>exact SqL.of e
 | t=>exact SqT.of e
noncomputable def seqD:D->Option (List D)
 | .list ds=>some ds
 | .tuple ds=>some ds
 | _=>none
theorem seqF_of{K:Fg}{F:Hp}{v:V}{d:D}{ds:List D}(h:Da K F v d)(e:seqD d=some ds):∃k a xs,v=.ref a/\(F a=some (match k with|Kd.l=>HO.lst xs|Kd.t=>HO.tup xs))/\DaAll K F xs ds:=by
 cases h with
 | lst q t=>cases e;exact ⟨.l,_,_,rfl,q,t⟩
 | tup q t=>cases e;exact ⟨.t,_,_,rfl,q,t⟩
 | non=>cases e
 | bl=>cases e
 | int=>cases e
 | str=>cases e
 | dk _ _=>cases e
 | dt _ _=>cases e
 | scr _=>cases e
 | exc _=>cases e
 | opq _=>cases e
 | pd _ _=>cases e
 | bd _ _=>cases e
noncomputable def zipD(ds es:List D):List D:=(ds.zip es).map λp=>K2 [p.1,p.2]
noncomputable def zip3D(ds es fs:List D):List D:=(ds.zip (es.zip fs)).map λp=>K2 [p.1,p.2.1,p.2.2]
noncomputable def dIZip2(a b:AD):TDI:=λρ Q=>dArgs [a,b] ρ λxs ρ1=>match lentAny ρ1 xs with
 | false=>looksQ ρ1 xs λds=>match ds with
  | [x,y]=>match seqD x,seqD y with
   | some us,some ws=>Q (zipD us ws) ρ1
   | _,_=>False
  | _=>False
 | true=>False
theorem walks_zip2{K:Fg}{F:Hp}{a b:Addr}{k1 k2:Kd}{xs ys:List V}{ds es:List D}(e1:F a=some (match k1 with|Kd.l=>HO.lst xs|Kd.t=>HO.tup xs))(h1:DaAll K F xs ds)
  (e2:F b=some (match k2 with|Kd.l=>HO.lst ys|Kd.t=>HO.tup ys)) (h2:DaAll K F ys es):Walks K (Itz2 K k1 k2 a b) F (zipD ds es):=λi H F1 s1 s2=>by
 have q1:Sq k1 K H a xs:=sq_of (s2 _ _ (s1 _ _ e1))
 have q2:Sq k2 K H b ys:=sq_of (s2 _ _ (s1 _ _ e2))
 refine ⟨λd ed=>?_,λhl=>⟨xs,ys,q1,q2,?_⟩⟩
 ·simp only[zipD,W0,u4]at ed
  obtain⟨⟨x,y⟩,ez,rfl⟩:=ed
  rw[U3]at ez
  obtain⟨v,g1,g2⟩:=h1.get ez.1
  obtain⟨u,g3,g4⟩:=h2.get ez.2
  refine ⟨⟨xs,v,ys,u,q1,q2,g1,g3⟩,λz H' ⟨T,x1,x2,hT,ex,eH,f1,f2⟩=>?_⟩
  subst ex eH
  have f1:=f1 xs q1
  have f2:=f2 ys q2
  rw[g1]at f1;cases f1
  rw[g3]at f2;cases f2
  have fT:F1 T=none:=by
   cases z:F1 T with
   | none=>rfl
   | some o=>rw[s2 _ _ z]at hT;cases hT
  refine ⟨upd F1 T (.tup [v,u]),Sub.new fT,λc o ec=>?_,λc o ec=>?_,Sub.new hT,.tup upd_same (.cons (g2.mono (s1.trans (Sub.new fT))) (.cons (g4.mono (s1.trans (Sub.new fT))) .nil))⟩
  ·by_cases z:c=T
   ·subst z;exact .inr hT
   ·rw[upd_ne z]at ec;exact .inl ec
  ·by_cases z:c=T
   ·subst z;rw[upd_same]at ec ⊢;exact ec
   ·rw[upd_ne z]at ec ⊢;exact s2 _ _ ec
 ·simp only[zipD,A0,u5]at hl
  rw[h1.length,h2.length]
  omega
theorem l_zip2{K:Fg}{a b:AD}{σ:St}{H:Hp}{R:It->Hp->Prop}(h:liftI K (dIZip2 a b) σ H R):iZip2 K (tArgs ([a,b].map (argT K))) σ H R:=by
 obtain⟨G,F,ρ,Qd,Rl,w,k⟩:=h
 refine args_ok Rl w λvs H' F' xs ρ' sb R' o w1=>?_
 split at w1
 ·rename_i e
  obtain⟨ds,da,w1⟩:=noLent_looks R' e o w1
  split at w1
  ·rename_i x y
   split at w1
   ·rename_i us ws p1 p2
    cases da with
    | cons d1 t =>
     cases t with
     | cons d2 t =>
      cases t
      obtain⟨k1,a1,us',rfl,e1,g1⟩:=seqF_of d1 p1
      obtain⟨k2,a2,ws',rfl,e2,g2⟩:=seqF_of d2 p2
      exact ⟨k1,a1,us',k2,a2,ws',rfl,sq_of (R'.sub _ _ e1),sq_of (R'.sub _ _ e2),k _ H' F' _ ρ' sb R' (walks_zip2 e1 g1 e2 g2) w1⟩
   ·exact w1.elim
  ·exact w1.elim
 ·exact w1.elim
noncomputable def dIZip3(a b c:AD):TDI:=λρ Q=>dArgs [a,b,c] ρ λxs ρ1=>match lentAny ρ1 xs with
 | false=>looksQ ρ1 xs λds=>match ds with
  | [x,y,z]=>match seqD x,seqD y,seqD z with
   | some us,some ws,some ts=>Q (zip3D us ws ts) ρ1
   | _,_,_=>False
  | _=>False
 | true=>False
theorem walks_zip3{K:Fg}{F:Hp}{a b c:Addr}{k1 k2 k3:Kd}{xs ys zs:List V}{ds es fs:List D}(e1:F a=some (match k1 with|Kd.l=>HO.lst xs|Kd.t=>HO.tup xs))(h1:DaAll K F xs ds)
  (e2:F b=some (match k2 with|Kd.l=>HO.lst ys|Kd.t=>HO.tup ys)) (h2:DaAll K F ys es) (e3:F c=some (match k3 with|Kd.l=>HO.lst zs|Kd.t=>HO.tup zs)) (h3:DaAll K F zs fs):Walks K (Itz3 K k1 k2 k3 a b c) F (zip3D ds es fs):=λi H F1 s1 s2=>by
 have q1:Sq k1 K H a xs:=sq_of (s2 _ _ (s1 _ _ e1))
 have q2:Sq k2 K H b ys:=sq_of (s2 _ _ (s1 _ _ e2))
 have q3:Sq k3 K H c zs:=sq_of (s2 _ _ (s1 _ _ e3))
 refine ⟨λd ed=>?_,λhl=>⟨xs,ys,zs,q1,q2,q3,?_⟩⟩
 ·simp only[zip3D,W0,u4]at ed
  obtain⟨⟨x,y,t⟩,ez,rfl⟩:=ed
  rw[U3,U3]at ez
  obtain⟨v,g1,g2⟩:=h1.get ez.1
  obtain⟨u,g3,g4⟩:=h2.get ez.2.1
  obtain⟨w,g5,g6⟩:=h3.get ez.2.2
  refine ⟨⟨xs,v,ys,u,zs,w,q1,q2,q3,g1,g3,g5⟩,λz H' ⟨T,x1,x2,x3,hT,ex,eH,f1,f2,f3⟩=>?_⟩
  subst ex eH
  have f1:=f1 xs q1
  have f2:=f2 ys q2
  have f3:=f3 zs q3
  rw[g1]at f1;cases f1
  rw[g3]at f2;cases f2
  rw[g5]at f3;cases f3
  have fT:F1 T=none:=by
   cases z:F1 T with
   | none=>rfl
   | some o=>rw[s2 _ _ z]at hT;cases hT
  have sn:=s1.trans (Sub.new (o:=.tup [v,u,w]) fT)
  refine ⟨upd F1 T (.tup [v,u,w]),Sub.new fT,λc o ec=>?_,λc o ec=>?_,Sub.new hT,.tup upd_same (.cons (g2.mono sn) (.cons (g4.mono sn) (.cons (g6.mono sn) .nil)))⟩
  ·by_cases z:c=T
   ·subst z;exact .inr hT
   ·rw[upd_ne z]at ec;exact .inl ec
  ·by_cases z:c=T
   ·subst z;rw[upd_same]at ec ⊢;exact ec
   ·rw[upd_ne z]at ec ⊢;exact s2 _ _ ec
 ·simp only[zip3D,A0,u5]at hl
  rw[h1.length,h2.length,h3.length]
  omega
theorem l_zip3{K:Fg}{a b c:AD}{σ:St}{H:Hp}{R:It->Hp->Prop}(h:liftI K (dIZip3 a b c) σ H R):iZip3 K (tArgs ([a,b,c].map (argT K))) σ H R:=by
 obtain⟨G,F,ρ,Qd,Rl,w,k⟩:=h
 refine args_ok Rl w λvs H' F' xs ρ' sb R' o w1=>?_
 split at w1
 ·rename_i e
  obtain⟨ds,da,w1⟩:=noLent_looks R' e o w1
  split at w1
  ·rename_i x y z
   split at w1
   ·rename_i us ws ts p1 p2 p3
    cases da with
    | cons d1 t =>
     cases t with
     | cons d2 t =>
      cases t with
      | cons d3 t =>
       cases t
       obtain⟨k1,a1,us',rfl,e1,g1⟩:=seqF_of d1 p1
       obtain⟨k2,a2,ws',rfl,e2,g2⟩:=seqF_of d2 p2
       obtain⟨k3,a3,ts',rfl,e3,g3⟩:=seqF_of d3 p3
       exact ⟨k1,a1,us',k2,a2,ws',k3,a3,ts',rfl,sq_of (R'.sub _ _ e1),sq_of (R'.sub _ _ e2),sq_of (R'.sub _ _ e3),k _ H' F' _ ρ' sb R' (walks_zip3 e1 g1 e2 g2 e3 g3) w1⟩
   ·exact w1.elim
  ·exact w1.elim
 ·exact w1.elim
section
variable {K:Fg}{F H:Hp}
theorem DaAll.keys:∀{xs:List V}{ks:List Key},DaAll K F xs (ks.map keyD)->xs=ks.map kV
 | [],[],_=>rfl
 | x :: xs,k :: ks,.cons h t=>by
  have e:x=kV k:=by cases k<;>(cases h;rfl)
  rw[e,DaAll.keys t];rfl
end
open PySem PySem.Spec PyProof.Rows L2
noncomputable def notStar:Expr->Bool
 | .Starred _ _=>false
 | _=>true
theorem starEach_of{e:Expr}{es:List Expr}{env:Env}(h:notStar e=true):starEach (e :: es) env=(false,eval e env) :: starEach es env:=by
 cases e<;>first|rfl|cases h
theorem plain_of{env:Env}{pos:Pos}:∀{es:List Expr},es.all notStar=true->(backTo pos (starEach es env)).any (·.1)=false:=by
 intro es
 induction es with
 | nil=>intro _;rfl
 | cons e es ih =>
  intro h
  simp only[W7,Y0]at h
  rw[starEach_of h.1]
  have:=ih h.2
  simp[backTo]at this ⊢
  exact this
noncomputable def notSet:Expr->Bool
 | .Set _ _ _=>false
 | _=>true
theorem folded_of{e:Expr}{env:Env}(h:notSet e=true)(x:Value):foldedSetIterable e env x=pure x:=by
 cases e<;>first|rfl|cases h
noncomputable def notComp:Expr->Bool
 | .ListComp _ _ _ _=>false
 | .SetComp _ _ _ _=>false
 | .DictComp _ _ _ _ _=>false
 | _=>true
theorem swaps_of{e:Expr}{t:Option Expr}{n:Nat}{env:Env}(h:notComp e=true):swapsWith e t n env=pure false:=by
 cases e<;>first|rfl|cases h
section
variable {X:Cx}{K:Fg}
theorem peM{e:Expr}{t t':TE}(h:PE X e t)(m:∀{σ H Q},t' σ H Q->t σ H Q):PE X e t':=λpins s σ H Q I w=>h pins s σ H Q I (m w)
theorem ptM{e:Expr}{t t':TT}(h:PT X e t)(m:∀{σ H Q},t' σ H Q->t σ H Q):PT X e t':=λpins s σ H Q I w=>h pins s σ H Q I (m w)
theorem pwM{e:Expr}{t t':TT}(h:PW X e t)(m:∀{σ H Q},t' σ H Q->t σ H Q):PW X e t':=λwh pins s σ H Q I w=>h wh pins s σ H Q I (m w)
theorem psM{e:Stmt}{t t':TS}(h:PS X e t)(m:∀{D σ H},t' D σ H->t D σ H):PS X e t':=λpins s σ H D I w=>h pins s σ H D I (m w)
theorem pssM{e:List Stmt}{t t':TS}(h:PSs X e t)(m:∀{D σ H},t' D σ H->t D σ H):PSs X e t':=λpins s σ H D I w=>h pins s σ H D I (m w)
theorem pgM{e:Expr}{t t':TG}(h:PG X e t)(m:∀{v σ H Q},t' v σ H Q->t v σ H Q):PG X e t':=by
 unfold PG at h ⊢
 intros
 exact h _ _ _ _ _ _ _ (by assumption) (by assumption) (m (by assumption))
theorem piM{g e:Expr}{t t':TI}(h:PI X g e t)(m:∀{σ H R},t' σ H R->t σ H R):PI X g e t':=λpins s σ H R I w=>h pins s σ H R I (m w)
theorem pifM{es:List Expr}{t t':TT}(h:PIf X es t)(m:∀{σ H Q},t' σ H Q->t σ H Q):PIf X es t':=λpins s σ H Q I w=>h pins s σ H Q I (m w)
theorem da_cons{e:Expr}{es:List Expr}{a:AD}{as:List AD}(ha:PE X e (argT K a))(hr:PA X es (tArgs (as.map (argT K))))(hs:starEach (e :: es) X.env=(false,eval e X.env) :: starEach es X.env:=by exact starEach_of rfl):PA X (e :: es) (tArgs ((a :: as).map (argT K))):=pa_cons ha hr hs
variable {e:Expr}{a b c:AD}{as:List AD}{td te:TD}{tc td':TTD}
theorem cv_var{i:Nat}(h:PE X e (tVar i)):PE X e (lift K (dVar i)):=peM h l_var
theorem cv_c{v:V}{d:D}(hv:∀F,Da K F v d)(h:PE X e (tC v)):PE X e (lift K (dC d)):=peM h (l_c hv)
theorem cv2{r:R2}{f:D->D->(Sl->Prop)->Prop}(ok:OpOk K (r2L r) (o2 f))(h:PE X e (tOp r (argT K a) (argT K b))):PE X e (lift K (dOp [a,b] (o2 f))):=peM h λq=>arg2 (l_op ok q)
theorem cvu{r:V->Hp->VK->Prop}{f:D->(Sl->Prop)->Prop}(ok:OpOk K (r1L r) (o1 f))(h:PE X e (tUn r (argT K a))):PE X e (lift K (dOp [a] (o1 f))):=peM h λq=>arg1 (l_op ok q)
theorem cvB{r:List V->Hp->VK->Prop}{f:List D->(Sl->Prop)->Prop}(ok:OpOk K r f)(h:PE X e (tCB r (tArgs (as.map (argT K))))):PE X e (lift K (dOp as f)):=peM h λq=>l_op ok q
theorem cv_tup(hl:as.length<=1000)(h:PE X e (tTup (tArgs (as.map (argT K))))):PE X e (lift K (dOpF as fTupD)):=peM h (l_tup hl)
theorem cv_lst(hl:as.length<=1000)(h:PE X e (tLst (tArgs (as.map (argT K))))):PE X e (lift K (dOpF as fLstD)):=peM h (l_lst hl)
theorem cv_chain{p q:Int->Int->Bool}(h:PE X e (tChain (rI0 λi j=>.bl (p i j)) (rI0 λi j=>.bl (q i j)) (argT K a) (argT K b) (argT K c))):PE X e (lift K (dChain p q a b c)):=peM h l_chain
theorem cv_and(h:PE X e (tAndV (lift K td) (lift K te))):PE X e (lift K (dAndV td te)):=peM h l_andV
theorem cv_or(h:PE X e (tOrV (lift K td) (lift K te))):PE X e (lift K (dOrV td te)):=peM h l_orV
theorem cv_not(h:PE X e (tNotV (lift K td))):PE X e (lift K (dNotV td)):=peM h l_notV
theorem cv_if(h:PE X e (tIf (liftT K tc) (lift K td) (lift K te))):PE X e (lift K (dIf tc td te)):=peM h l_if
theorem cv_fn{con:Con}{E:XK}(h:PE X e (tCall (conSp K con) [] E (tArgs (as.map (argT K))))):PE X e (lift K (dCall con as)):=peM h l_call
theorem cv_fnI{con:Con}{E:XK}{i:Nat}(h:PE X e (tCall (conSp K con) [] E (tArgs ((Sum.inl i :: as).map (argT K))))):PE X e (lift K (dCallI con i as)):=peM h l_callI
theorem cv_m{i:Nat}{r:V->List V->Hp->VK->Prop}{f:List D->List D->(D->D->Prop)->Prop}(ok:MOk K r f)(h:PE X e (tBM K "list" r (tVar i) (tArgs (as.map (argT K))))):PE X e (lift K (dMeth i as f)):=peM h λq=>by
 obtain⟨a,xs,e1,sq,w⟩:=l_meth ok q
 exact ⟨_,e1,.inl ⟨rfl,xs,sq⟩,w⟩
theorem cv_m0{i:Nat}{r:V->List V->Hp->VK->Prop}{f:List D->List D->(D->D->Prop)->Prop}(ok:MOk K r f)(h:PE X e (tBM0 K "list" r (tVar i))):PE X e (lift K (dMeth i [] f)):=peM h λq=>by
 obtain⟨a,xs,e1,sq,w⟩:=l_meth ok q
 exact ⟨_,e1,.inl ⟨rfl,xs,sq⟩,w⟩
theorem ct2{r:R2}{f:D->D->(Sl->Prop)->Prop}(ok:OpOk K (r2L r) (o2 f))(h:PT X e (tTest (tOp r (argT K a) (argT K b)))):PT X e (liftT K (dTst (dOp [a,b] (o2 f)))):=ptM h λq=>l_tst (λz=>arg2 (l_op ok z)) q
theorem ct_val(h:PT X e (tB (lift K td))):PT X e (liftT K (dTst td)):=ptM h λq=>l_tst (λz=>z) q
theorem ct_chain{p q:Int->Int->Bool}(h:PT X e (tTest (tChain (rI0 λi j=>.bl (p i j)) (rI0 λi j=>.bl (q i j)) (argT K a) (argT K b) (argT K c)))):PT X e (liftT K (dTst (dChain p q a b c))):=ptM h λz=>l_tst (λy=>l_chain y) z
theorem ct_not(h:PT X e (tNot (liftT K tc))):PT X e (liftT K (dNot tc)):=ptM h l_not
theorem cw_and(h:PW X e (tAnd (liftT K tc) (liftT K td'))):PW X e (liftT K (dAnd tc td')):=pwM h l_and
theorem cw_or(h:PW X e (tOr (liftT K tc) (liftT K td'))):PW X e (liftT K (dOr tc td')):=pwM h l_or
variable {st:Stmt}{sts:List Stmt}{t u:TDS}
theorem cs_next(h:PSs X sts tNext):PSs X sts (liftS K dNext):=pssM h l_next
theorem cs_seq(h:PSs X sts (tSeq (liftS K t) (liftS K u))):PSs X sts (liftS K (dSeq t u)):=pssM h l_seq
theorem cs_ret(h:PS X st (tRet (lift K td))):PS X st (liftS K (dRet td)):=psM h l_ret
theorem cs_retV{i:Nat}(h:PS X st (tRet (tVar i))):PS X st (liftS K (dRetV i)):=psM h l_retV
theorem cs_move{i j:Nat}(h:PS X st (tAsg (tVar j) (gName i))):PS X st (liftS K (dMove i j)):=psM h l_move
theorem cs_drop(h:PS X st (tDrop (lift K td))):PS X st (liftS K (dDrop td)):=psM h l_drop
theorem cs_if(h:PS X st (tIfS (liftT K tc) (liftS K t) (liftS K u))):PS X st (liftS K (dIfS tc t u)):=psM h l_ifS
theorem cs_set{i:Nat}(h:PS X st (tAsg (lift K td) (gName i))):PS X st (liftS K (dSet i td)):=psM h l_set
theorem cs_ix{j:Nat}(h:PS X st (tAsg (lift K td) (gSub (tVar j) (argT K a) rSetL))):PS X st (liftS K (dSetIx j a td)):=psM h l_setIx
theorem cs_while(h:PS X st (tWhile (liftT K tc) (liftS K t))):PS X st (liftS K (dWhile tc t)):=psM h l_while
noncomputable def dAsgG(g:TDG)(a:TD):TDS:=λE ρ=>a ρ λr ρ'=>g r.d ρ' E.nx
theorem l_asgG{g:TDG}{E:Ends}{σ:L2.St}{H:Hp}(h:liftS K (dAsgG g td) E σ H):tAsg (lift K td) (liftG K g) E σ H:=by
 obtain⟨G,F,ρ,D,R,w,n,r,b,c⟩:=h
 refine ⟨G,F,ρ,_,R,w,λv H' F' x ρ' s R' r' q=>?_⟩
 obtain⟨F2,s2,R2,d2⟩:=r'.frz R'
 exact ⟨G,F2,ρ',x.d,_,R2,d2,q,λσ3 ρ3 R3 w3=>n σ3 H' F2 ρ3 (s.trans s2) R3 w3⟩
theorem cs_asgG{g:TDG}(h:PS X st (tAsg (lift K td) (liftG K g))):PS X st (liftS K (dAsgG g td)):=psM h l_asgG
theorem cg_name{i:Nat}(h:PG X e (gName i)):PG X e (liftG K (dGN i)):=pgM h l_gn
theorem cg_tup{n:Nat}{gs:List TDG}(h:PG X e (gTup K n (gAll (gs.map (liftG K)))))(hn:gs.length=n:=by rfl):PG X e (liftG K (dGT gs)):=pgM h (l_gt hn)
theorem cgs_cons{es:List Expr}{g:TDG}{gs:List TDG}(h1:PG X e (liftG K g))(h2:PGs X es (gAll (gs.map (liftG K))))(hs:(assignEach (e :: es) X.env).map (·.2)=assign e X.env :: (assignEach es X.env).map (·.2):=by rfl):PGs X (e :: es) (gAll ((g :: gs).map (liftG K))):=pgs_cons h1 h2 hs
theorem cif_nil:PIf X [] (liftT K dYes):=pifM if_nil l_yes
variable {tg:Expr}
theorem pi_seqD{l:Expr}{tl:TE}(hK:X.K=K)(hl:PE X l tl):PI X tg l (iSeq K tl):=by
 subst hK
 intro pins s σ H R I h
 refine thn (hl pins s σ H _ I h) λv s1 ⟨x,H1,I1,r1,q1⟩=>?_
 obtain⟨a,e,q1⟩:=q1
 subst e
 cases r1
 rcases q1 with⟨⟨xs,hq⟩,q⟩|⟨⟨xs,hq⟩,q⟩
 ·obtain⟨its,rv,p,hz⟩:=I1.list hq
  refine wpAny_pyIter_list p.isList ?_
  refine ⟨s1.heap.objs.size,[s1.heap.objs.size],_,_,H1,rfl,I1.kept (t':=s1.toks) λb o e=>i0 _ e,turn_list a _,⟨_,K0 _ rfl,rfl,rfl⟩,λb hb=>?_,q⟩
  have e:b=s1.heap.objs.size:=by simpa using hb
  subst e
  exact I1.fpOk (N0 _) (I1.hok.fresh (N0 _))
 ·obtain⟨its,rv,p,hz⟩:=I1.tuple hq
  refine wpAny_pyIter_tuple (show s1.heap.IsTuple a its.toArray from p) ?_
  refine ⟨s1.heap.objs.size,[s1.heap.objs.size],_,_,H1,rfl,I1.kept (t':=s1.toks) λb o e=>i0 _ e,turn_tuple a _,⟨_,K0 _ rfl,rfl,rfl⟩,λb hb=>?_,q⟩
  have e:b=s1.heap.objs.size:=by simpa using hb
  subst e
  exact I1.fpOk (N0 _) (I1.hok.fresh (N0 _))
theorem ci_seq{l:Expr}(hK:X.K=K)(hl:PE X l (lift K td)):PI X tg l (liftI K (dISeq td)):=piM (pi_seqD hK hl) l_iseq
theorem ci_rng1{l:Expr}(h:PI X tg l (iRng1 (tArgs ([a].map (argT K))))):PI X tg l (liftI K (dIRng1 a)):=piM h l_rng1
theorem ci_zip2{l:Expr}(h:PI X tg l (iZip2 K (tArgs ([a,b].map (argT K))))):PI X tg l (liftI K (dIZip2 a b)):=piM h l_zip2
theorem ci_zip3{l:Expr}(h:PI X tg l (iZip3 K (tArgs ([a,b,c].map (argT K))))):PI X tg l (liftI K (dIZip3 a b c)):=piM h l_zip3
noncomputable def CMod(_ j:Int):Prop:=0 < j
theorem op_catB:OpR X (binaryOp .Add) rCatB:=by
 intro pins s σ H x y v u Q I rx ry h
 obtain⟨a,b,xs,ys,rfl,rfl,ha,hb,hz,q1,q2,q3⟩:=h
 have ha':SqT X.K H a xs:=SqT.of ha
 have hb':SqT X.K H b ys:=SqT.of hb
 by_cases hx:xs=[]
 ·subst hx
  cases rx
  cases ry
  obtain⟨its,r1,p1,_⟩:=I.tuple ha'
  obtain⟨its2,r2,p2,_⟩:=I.tuple hb'
  cases r1
  exact cat_tup0 p1 p2 ⟨.ref b,H,I,rfl,q1 rfl⟩
 ·exact op_catT pins s σ H (.ref a) (.ref b) v u Q I rx ry ⟨a,b,xs,ys,rfl,rfl,ha',hb',hx,hz,λe=>q2 hx e,λe p hp=>q3 hx e p hp⟩
theorem op_addD:OpR X (binaryOp .Add) (rAny (rI0 λi j=>.int (i+j)) (rAny rCatB rCat)):=op_add.or (op_catB.or op_cat)
theorem op_mulD:OpR X (binaryOp .Mult) (rAny (rI CMul λi j=>.int (i * j)) rRep):=op_mul.or op_rep
theorem ok_sub:OpOk K (r2L (rI0 λi j=>.int (i - j))) (o2 (fI0 λi j=>.int (i - j))):=ok_I0 λ_ _ _=>.int _
theorem ok_fdiv:OpOk K (r2L (rI CDiv λi j=>.int (i / j))) (o2 (fI CDiv λi j=>.int (i / j))):=ok_I λ_ _ _=>.int _
theorem ok_mod:OpOk K (r2L (rI (λ_ j=>0 < j) λi j=>.int (i % j))) (o2 (fI CMod λi j=>.int (i % j))):=ok_I (C:=CMod) λ_ _ _=>.int _
theorem ok_pow:OpOk K (r2L (rI CPow λi j=>.int (i ^ j.toNat))) (o2 (fI CPow λi j=>.int (i ^ j.toNat))):=ok_I λ_ _ _=>.int _
theorem ok_lt:OpOk K (r2L (rI0 λi j=>.bl (decide (i < j)))) (o2 (fI0 λi j=>.bool (decide (i < j)))):=ok_I0 λ_ _ _=>.bl _
theorem ok_le:OpOk K (r2L (rI0 λi j=>.bl (decide (i<=j)))) (o2 (fI0 λi j=>.bool (decide (i<=j)))):=ok_I0 λ_ _ _=>.bl _
theorem ok_gt:OpOk K (r2L (rI0 λi j=>.bl (decide (j < i)))) (o2 (fI0 λi j=>.bool (decide (j < i)))):=ok_I0 λ_ _ _=>.bl _
theorem ok_ge:OpOk K (r2L (rI0 λi j=>.bl (decide (j<=i)))) (o2 (fI0 λi j=>.bool (decide (j<=i)))):=ok_I0 λ_ _ _=>.bl _
theorem ix_seqD(hK:X.K=K):IxR X (rAny (rIxL K) (rIxT K)):=(ix_listK hK).or (ix_tupK hK)
end
mutual
noncomputable def plainD:D->Bool
 | .none=>true
 | .bool _=>true
 | .int _=>true
 | .str _=>true
 | .list xs=>plainAll xs
 | .tuple xs=>plainAll xs
 | .dict _=>false
noncomputable def plainAll:List D->Bool
 | []=>true
 | x :: xs=>plainD x&&plainAll xs
end
section
variable {K:Fg}{F H:Hp}
mutual
theorem Da.is(s:Sub F H):∀{v:V}{d:D},Da K F v d->plainD d=true->Is K H v d
 | _,_,.non,_=>.non
 | _,_,.bl b,_=>.bl b
 | _,_,.int i,_=>.int i
 | _,_,.str x,_=>.str x
 | _,_,.lst e t,z=>.lst (SqL.of (s _ _ e)) (DaAll.is s t (by simpa [plainD]using z))
 | _,_,.tup e t,z=>.tup (SqT.of (s _ _ e)) (DaAll.is s t (by simpa [plainD]using z))
 | _,_,.dk _ _,z=>by simp[plainD]at z
 | _,_,.dt _ _,z=>by simp[plainD]at z
 | _,_,.scr _,z=>by simp[plainD,scrD]at z
 | _,_,.exc _,z=>by simp[plainD,excD]at z
 | _,_,.opq _,z=>by simp[plainD,opqD]at z
 | _,_,.pd _ _,z=>by simp[plainD,pdD]at z
 | _,_,.bd _ _,z=>by simp[plainD,bdD]at z
theorem DaAll.is(s:Sub F H):∀{xs:List V}{ds:List D},DaAll K F xs ds->plainAll ds=true->IsAll K H xs ds
 | _,_,.nil,_=>.nil
 | _,_,.cons a t,z=>by
  simp[plainAll]at z
  exact .cons (Da.is s a z.1) (DaAll.is s t z.2)
end
theorem At.is{v:V}{d:D}(s:Sub F H)(h:At K F H v d)(p:plainD d=true):Is K H v d:=by
 rcases h with h|⟨a,o,rfl,_,e,h⟩
 ·exact h.is s p
 ·cases o<;>cases d<;>first|exact h.elim|(simp[plainD]at p)|skip
  ·rename_i xs ds
   exact .lst (SqL.of e) (DaAll.is s h (by simpa [plainD]using p))
end
noncomputable def fEqG(x y:D)(Q:Sl->Prop):Prop:=plainD x=true/\plainD y=true/\SeqAt.shaped x=true/\SeqAt.shaped y=true/\SeqAt.noMix x y=true/\Q (.fz (.bool (same x y)))
noncomputable def fNeG(x y:D)(Q:Sl->Prop):Prop:=plainD x=true/\plainD y=true/\SeqAt.shaped x=true/\SeqAt.shaped y=true/\SeqAt.noMix x y=true/\Q (.fz (.bool (!same x y)))
noncomputable def fEq:D->D->(Sl->Prop)->Prop
 | .int i,.int j,Q=>Q (.fz (.bool (decide (i=j))))
 | .list xs,y,Q=>fEqG (.list xs) y Q
 | .tuple xs,y,Q=>fEqG (.tuple xs) y Q
 | .str x,.str y,Q=>Q (.fz (.bool (decide (x=y))))
 | x,y,Q=>fEqG x y Q
noncomputable def fNe:D->D->(Sl->Prop)->Prop
 | .int i,.int j,Q=>Q (.fz (.bool (!decide (i=j))))
 | .list xs,y,Q=>fNeG (.list xs) y Q
 | .tuple xs,y,Q=>fNeG (.tuple xs) y Q
 | .str x,.str y,Q=>Q (.fz (.bool (!decide (x=y))))
 | x,y,Q=>fNeG x y Q
theorem ok_eq{K:Fg}:OpOk K (r2L (rAny rEq (rEqD K false))) (o2 fEq):=ok2 λG F σ H ρ x y d e Q Qd R h1 h2 w k=>by
 have gen:fEqG d e Qd->rAny rEq (rEqD K false) x y H Q:=λ⟨p1,p2,p3,p4,p5,w⟩=>.inr ⟨d,e,h1.is R.sub p1,h2.is R.sub p2,p3,p4,p5,k _ H F (.fz _) (Sub.refl _) R (Da.bl _) w⟩
 unfold fEq at w
 split at w
 ·rename_i i j
  cases h1.int
  cases h2.int
  refine .inl ⟨rfl,k _ H F (.fz _) (Sub.refl _) R (Da.bl _) ?_⟩
  have e:decide (V.int i=V.int j)=decide (i=j):=by rw[dec_int,v5]
  rw[e];exact w
 ·exact gen w
 ·exact gen w
 ·rename_i i j
  cases h1.str
  cases h2.str
  refine .inl ⟨rfl,k _ H F (.fz _) (Sub.refl _) R (Da.bl _) ?_⟩
  have e:decide (V.str i=V.str j)=decide (i=j):=by rw[dec_str,v5]
  rw[e];exact w
 ·exact gen w
theorem ok_ne{K:Fg}:OpOk K (r2L (rAny rNe (rEqD K true))) (o2 fNe):=ok2 λG F σ H ρ x y d e Q Qd R h1 h2 w k=>by
 have gen:fNeG d e Qd->rAny rNe (rEqD K true) x y H Q:=λ⟨p1,p2,p3,p4,p5,w⟩=>.inr ⟨d,e,h1.is R.sub p1,h2.is R.sub p2,p3,p4,p5,k _ H F (.fz _) (Sub.refl _) R (Da.bl _) w⟩
 unfold fNe at w
 split at w
 ·rename_i i j
  cases h1.int
  cases h2.int
  refine .inl ⟨rfl,k _ H F (.fz _) (Sub.refl _) R (Da.bl _) ?_⟩
  have e:decide (V.int i=V.int j)=decide (i=j):=by rw[dec_int,v5]
  rw[e];exact w
 ·exact gen w
 ·exact gen w
 ·rename_i i j
  cases h1.str
  cases h2.str
  refine .inl ⟨rfl,k _ H F (.fz _) (Sub.refl _) R (Da.bl _) ?_⟩
  have e:decide (V.str i=V.str j)=decide (i=j):=by rw[dec_str,v5]
  rw[e];exact w
 ·exact gen w
theorem op_eqE{X:Cx}{K:Fg}(hK:X.K=K)(hu:X.A.units+64 < cLine):OpR X (compareOp .Eq) (rAny rEq (rEqD K false)):=op_eq.or (op_eqDK hK hu)
theorem op_neE{X:Cx}{K:Fg}(hK:X.K=K)(hu:X.A.units+64 < cLine):OpR X (compareOp .NotEq) (rAny rNe (rEqD K true)):=op_ne.or (op_neDK hK hu)
section
variable {P:Program}{w:World}{K:Fg}{mg:Str->Option Value}{base:Heap}
theorem dfn{x qual:Str}{st:Stmt}{f:Addr}{fd:FuncData}{N ps:List Str}{k:Nat}{con:Con}{ts:TDS}(F:Fun K x qual st f fd)(S:FnScope N ps (defScope st))
  (hb:∀(cdv:Value) (A:Around) (outer:List Env) (s:Shared) (H:Hp) (E:XK),Room k (A.deeper (envOfC qual (defScope st) s.heap.objs.size f cdv))->PSs (cxOf CX0 P w K mg base N qual (defScope st) f cdv A outer s H E).nox (defBody st) (liftS K ts))
  (hl:∀args Qd,con args Qd->args.length=ps.length) (hc:∀args Qd,con args Qd->(∀s∈args,∀d,s≠.ow d)/\ts (endsOf args Qd) (startE N.length args)):FnOk P w K mg base CX0 (k+1) f fd ps (conSp K con):=by
 refine F.ok S (λvs H Q E h=>?_) (λcdv A outer s H vs Q E hr h=>⟨_,hb cdv A outer s H E hr,l_def hc h⟩)
 obtain⟨G,F',args,Qd,R,w',_⟩:=h
 have h1:=hl args Qd w'
 have h2:=R.len
 rw[A0,A0]at h2
 rw[h2,h1]
end
noncomputable def noOw:List Sl->Bool
 | []=>true
 | .ow _ :: _=>false
 | _ :: as=>noOw as
theorem noOw_of:∀{as:List Sl},noOw as=true->∀s∈as,∀d,s≠.ow d
 | .fz _ :: as,h,s,hs,d,z=>by
  rcases B1.mp hs with e|e
  ·subst e;cases z
  ·exact noOw_of (as:=as) h s e d z
 | .io _ :: as,h,s,hs,d,z=>by
  rcases B1.mp hs with e|e
  ·subst e;cases z
  ·exact noOw_of (as:=as) h s e d z
noncomputable def rSum(K:Fg):List V->Hp->VK->Prop:=λxs H Q=>∃(a:Addr) (ns:List Int),xs=[.ref a]/\(SqL K H a (ns.map V.int)\/SqT K H a (ns.map V.int))/\Q (.int ns.sum) H
theorem call_sumK{X:Cx}{K:Fg}(hK:X.K=K)(hc:X.calm=true):CallR X (.builtin "sum") (rSum K):=by
 subst hK
 intro pins s σ H xs us Q I r h
 obtain⟨a,ns,rfl,hq,q⟩:=h
 obtain⟨u,rfl,ru⟩:=vals1 r
 cases ru
 have hh:=I.ok.hd hc
 rcases hq with hq|hq
 ·obtain⟨its,rv,p,hz⟩:=I.list hq
  have hi:IntsAre its ns:=intsAre_of rv
  obtain⟨zs,hx⟩:=hi.allInts.items
  have hl':s.heap.IsList a (intItems zs):=hx ▸ p.isList
  refine sum_intListG hh hl' λh' tk t' hk=>?_
  have e1:ns=zs.toList.map (·.1):=by
   rw[<- nums_intItems,<- hx]
   exact (show numsOf its.toArray.toList=ns from hi.numsOf).symm
  have e2:preSum (numAt zs) zs.size=ns.sum:=by
   rw[preSum_eq,E2 (by simp),e1]
  rw[e2]
  exact ⟨.int ns.sum,H,I.kept hk,⟨t',rfl⟩,q⟩
 ·obtain⟨its,rv,p,hz⟩:=I.tuple hq
  have hi:IntsAre its ns:=intsAre_of rv
  obtain⟨zs,hx⟩:=hi.allInts.items
  have hl':s.heap.IsTuple a (intItems zs):=hx ▸ p
  refine PySem.W.ktm_sumG hh hl' λh' tk t' hk=>?_
  have e1:ns=zs.toList.map (·.1):=by
   rw[<- nums_intItems,<- hx]
   exact (show numsOf its.toArray.toList=ns from hi.numsOf).symm
  have e2:preSum (numAt zs) zs.size=ns.sum:=by
   rw[preSum_eq,E2 (by simp),e1]
  rw[e2]
  exact ⟨.int ns.sum,H,I.kept hk,⟨t',rfl⟩,q⟩
noncomputable def fSum:D->(Sl->Prop)->Prop
 | .list ds,Q=>∃ns:List Int,ds=ns.map q0/\Q (.fz (.int ns.sum))
 | .tuple ds,Q=>∃ns:List Int,ds=ns.map q0/\Q (.fz (.int ns.sum))
 | _,_=>False
theorem DaAll.intsV{K:Fg}{F:Hp}:∀{xs:List V}{ns:List Int},DaAll K F xs (ns.map q0)->xs=ns.map V.int
 | [],[],_=>rfl
 | x :: xs,b :: bs,.cons h t=>by cases h;simp[DaAll.intsV t]
theorem ok_sum{K:Fg}:OpOk K (rSum K) (o1 fSum):=ok1 λG F σ H ρ x d Q Qd R h1 w k=>by
 match d,h1,w with
 | .list ds,h1,⟨ns,e,w⟩ =>
  subst e
  obtain⟨a,us,rfl,e1,d1⟩:=h1.list R.sub
  have:=d1.intsV
  subst this
  exact ⟨a,ns,rfl,.inl (SqL.of e1),k _ H F (.fz _) (Sub.refl _) R (Da.int _) w⟩
 | .tuple ds,h1,⟨ns,e,w⟩ =>
  subst e
  obtain⟨a,us,rfl,_,e1,d1⟩:=h1.tuple R.sub
  have:=d1.intsV
  subst this
  exact ⟨a,ns,rfl,.inr (SqT.of e1),k _ H F (.fz _) (Sub.refl _) R (Da.int _) w⟩
noncomputable def clean1(ρ:Ev)(i:Nat):Ev:=match ρ[i]? with
 | some (some (.io _))=>ρ
 | some _=>ρ.set i none
 | none=>ρ
noncomputable def clean(ks:List Nat)(ρ:Ev):Ev:=match ks with
 | []=>ρ
 | i :: r=>clean r (clean1 ρ i)
section
variable {K:Fg}{G:Gh}{F H:Hp}{σ:L2.St}{ρ:Ev}
theorem Rel.drop(R:Rel K G F σ H ρ){i:Nat}(hn:∀d,ρ[i]?≠some (some (Sl.io d))):Rel K G F σ H (ρ.set i none):=by
 refine ⟨by rw[N3];exact R.len,R.sub,R.sub0,R.fn,R.keep,λj d e=>?_,λj t e wt=>?_,λj d b e eb=>?_,λj b e=>?_,λj d e=>?_,λj k t u b e1 w1 e2 w2 e3 e4=>?_⟩
 ·rcases get_set e with⟨rfl,z⟩|⟨n,z⟩
  ·cases z
  ·exact R.fz j d z
 ·rcases get_set e with⟨rfl,z⟩|⟨n,z⟩
  ·cases z
  ·exact R.ow j t z wt
 ·rcases get_set e with⟨rfl,z⟩|⟨n,z⟩
  ·cases z
  ·exact R.new j d b z eb
 ·obtain⟨d',e1,e2⟩:=R.io j b e
  have n:i≠j:=λz=>by subst z;exact hn _ e1
  exact ⟨d',by rw[P0 n];exact e1,e2⟩
 ·rcases get_set e with⟨rfl,z⟩|⟨n,z⟩
  ·cases z
  ·exact R.ioi j d z
 ·rcases get_set e1 with⟨rfl,z⟩|⟨n,z⟩
  ·cases z
  ·rcases get_set e2 with⟨rfl,z'⟩|⟨n',z'⟩
   ·cases z'
   ·exact R.ap j k t u b z w1 z' w2 e3 e4
theorem Rel.clean1(R:Rel K G F σ H ρ)(i:Nat):Rel K G F σ H (clean1 ρ i):=by
 unfold L3.clean1
 split
 ·exact R
 ·rename_i e1 e2
  exact R.drop λd z=>by rw[e2]at z;cases z;exact e1 _ rfl
 ·exact R
theorem Rel.clean(ks:List Nat):∀{ρ:Ev},Rel K G F σ H ρ->Rel K G F σ H (clean ks ρ):=by
 induction ks with
 | nil=>intro ρ R;exact R
 | cons i r ih=>intro ρ R;exact ih (R.clean1 i)
end
noncomputable def dLoopC(ks:List Nat)(g:TDG)(tb:TDS)(E:DE):List D->Ev->Prop
 | [],ρ=>E.nx ρ
 | d :: ds,ρ=>g d ρ λρ'=>tb { nx:=λρ2=>dLoopC ks g tb E ds (clean ks ρ2),rt:=E.rt,bk:=λρ2=>E.nx (clean ks ρ2),ct:=λρ2=>dLoopC ks g tb E ds (clean ks ρ2) } ρ'
noncomputable def dForC(ks:List Nat)(ti:TDI)(g:TDG)(tb:TDS):TDS:=λE ρ=>ti ρ λds ρ'=>dLoopC ks g tb E ds (clean ks ρ')
theorem l_forC{K:Fg}{ks:List Nat}{ti:TDI}{g:TDG}{tb:TDS}{E:Ends}{σ:L2.St}{H:Hp}(h:liftS K (dForC ks ti g tb) E σ H):tFor (liftI K ti) (liftG K g) (liftS K tb) E σ H:=by
 obtain⟨G,F,ρ,D,R,w,n,r,b,c⟩:=h
 refine ⟨G,F,ρ,_,R,w,λJ H1 F1 ds ρ1 s1 R1 wk w1=>?_⟩
 refine ⟨λi m σ H=>m=ds.length - i/\i<=ds.length/\∃F' ρ',Sub F1 F'/\Rel K G F' σ H ρ'/\dLoopC ks g tb D (ds.drop i) ρ',⟨ds.length,rfl,B4 _,F1,_,Sub.refl _,R1.clean ks,w1⟩,?_⟩
 rintro i m σ H ⟨rfl,hi,F',ρ',s',R',w'⟩
 obtain⟨hgo,hst⟩:=wk i H F' s' R'.sub
 cases e:ds[i]? with
 | none =>
  have hl:ds.length<=i:=J3.mp e
  refine .inl ⟨hst (by omega),?_⟩
  rw[O2 hl]at w'
  exact n σ H F' ρ' (s1.trans s') R' w'
 | some d =>
  obtain⟨go,yl⟩:=hgo d e
  have hl:=lt_of_get e
  rw[drop_get e]at w'
  refine .inr ⟨go,λσ2 H2=>∃F2 ρ2,Sub F1 F2/\Rel K G F2 σ2 H2 ρ2/\dLoopC ks g tb D (ds.drop (i+1)) ρ2,λσ2 H2 ⟨F2,ρ2,z1,z2,z3⟩=>⟨ds.length - (i+1),by omega,rfl,hl,F2,ρ2,z1,z2,z3⟩,λx H2 y=>?_⟩
  obtain⟨F2,t1,t2,t3,t4,t5⟩:=yl x H2 y
  have R2:=R'.turn t1 t2 t3 t4
  refine ⟨G,F2,ρ',d,_,R2,t5,w',λσ3 ρ3 R3 w3=>?_⟩
  refine ⟨G,F2,ρ3,_,R3,w3,λσ4 H4 F4 ρ4 s4 R4 q=>?_,λv σ4 H4 F4 x4 ρ4 s4 R4 r4 q=>?_,λσ4 H4 F4 ρ4 s4 R4 q=>?_,λσ4 H4 F4 ρ4 s4 R4 q=>?_⟩
  ·exact ⟨F4,_,s'.trans (t1.trans s4),R4.clean ks,q⟩
  ·exact r v σ4 H4 F4 x4 ρ4 (s1.trans (s'.trans (t1.trans s4))) R4 r4 q
  ·exact n σ4 H4 F4 _ (s1.trans (s'.trans (t1.trans s4))) (R4.clean ks) q
  ·exact ⟨F4,_,s'.trans (t1.trans s4),R4.clean ks,q⟩
theorem cs_forC{X:Cx}{K:Fg}{st:Stmt}{t:TDS}(ks:List Nat){ti:TDI}{g:TDG}(h:PS X st (tFor (liftI K ti) (liftG K g) (liftS K t))):PS X st (liftS K (dForC ks ti g t)):=psM h l_forC
theorem loopC{ks:List Nat}{g:TDG}{tb:TDS}{E:DE}(J:List D->Ev->Prop)
  (hs:∀d ds ρ,J (d :: ds) ρ->∀N:Ev->Prop,(∀ρ2,J ds ρ2->N ρ2)->g d ρ λρ'=>tb { nx:=λρ2=>N (clean ks ρ2),rt:=E.rt,bk:=λρ2=>E.nx (clean ks ρ2),ct:=λρ2=>N (clean ks ρ2) } ρ')
  (hd:∀ρ,J [] ρ->E.nx ρ):∀{ds:List D}{ρ:Ev},J ds ρ->dLoopC ks g tb E ds ρ
 | [],ρ,h=>hd ρ h
 | d :: ds,ρ,h=>hs d ds ρ h _ λρ2 h2=>loopC J hs hd h2
noncomputable def dCompLC(n:Nat)(g:TDG)(tc:TTD)(te:TD):List D->List D->Ev->(List D->Ev->Prop)->Prop
 | [],acc,τ,Q=>Q acc τ
 | d :: ds,acc,τ,Q=>g d τ λτ1=>tc τ1 λb τ2=>if b=true then te τ2 λr τ3=>dCompLC n g tc te ds (acc++[r.d]) (clean (A2 n) τ3) Q else dCompLC n g tc te ds acc (clean (A2 n) τ2) Q
noncomputable def dCompC(ti:TDI)(own:List Str)(fr:List Nat)(g:TDG)(tc:TTD)(te:TD):TD:=λρ Q=>ti ρ λds ρ1=>ds.length<=sizeLine/\dCompLC own.length g tc te ds [] (innerE own fr ρ1) λys τ=>Q (.ow (.list ys)) (wbGo fr (τ.drop own.length) 0 ρ1)
theorem l_compC{K:Fg}{ti:TDI}{own:List Str}{fr:List Nat}{g:TDG}{tc:TTD}{te:TD}(nd:fr.Nodup){σ:L2.St}{H:Hp}{Q:VK}(h:lift K (dCompC ti own fr g tc te) σ H Q):tCompW (liftI K ti) own fr (liftG K g) (liftT K tc) (lift K te) σ H Q:=by
 obtain⟨G,F,ρ,Qd,R,w,k⟩:=h
 refine ⟨G,F,ρ,_,R,w,λJ H1 F1 ds ρ1 s1 R1 wk ⟨hz,w1⟩=>?_⟩
 have Ri:=R1.inner (own:=own) nd
 refine ⟨λi m ys τ H=>m=ds.length - i/\i<=ds.length/\∃F' ρ' acc,Rel K (ghC own fr F1 H1 σ ρ1) F' τ H ρ'/\DaAll K F' ys acc/\acc.length<=i/\dCompLC own.length g tc te (ds.drop i) acc ρ' (λys τ=>Qd (.ow (.list ys)) (wbGo fr (τ.drop own.length) 0 ρ1)),
   ⟨ds.length,rfl,B4 _,F1,_,[],Ri,.nil,B4 _,w1⟩,?_⟩
 rintro i m ys τ H' ⟨rfl,hi,F',ρ',acc,R',da,hl,w'⟩
 obtain⟨hgo,hst⟩:=wk i H' F' R'.sub0 R'.sub
 cases e:ds[i]? with
 | none =>
  have hl':ds.length<=i:=J3.mp e
  refine .inl ⟨hst (by omega),λDd hD=>?_⟩
  rw[O2 hl']at w'
  have Ro:=R1.outer R' nd
  obtain⟨Rn,rn⟩:=Ro.newOw (o:=.lst ys) (d:=.list acc) hD da
  exact k _ _ F' _ _ (s1.trans R'.sub0) Rn rn w'
 | some d =>
  obtain⟨go,yl⟩:=hgo d e
  have hlt:=lt_of_get e
  rw[drop_get e]at w'
  refine .inr ⟨go,by rw[da.length];omega,λys2 τ2 H2=>∃F2 ρ2 acc2,Rel K (ghC own fr F1 H1 σ ρ1) F2 τ2 H2 ρ2/\DaAll K F2 ys2 acc2/\acc2.length<=i+1/\dCompLC own.length g tc te (ds.drop (i+1)) acc2 ρ2 (λys τ=>Qd (.ow (.list ys)) (wbGo fr (τ.drop own.length) 0 ρ1)),
    λys2 τ2 H2 ⟨F2,ρ2,acc2,z1,z2,z3,z4⟩=>⟨ds.length - (i+1),by omega,rfl,hlt,F2,ρ2,acc2,z1,z2,z3,z4⟩,λx H2 y=>?_⟩
  obtain⟨F2,t1,t2,t3,t4,t5⟩:=yl x H2 y
  have R2:=R'.turn t1 t2 t3 t4
  refine ⟨_,F2,ρ',d,_,R2,t5,w',λτ3 ρ3 R3 w3=>?_⟩
  refine ⟨_,F2,ρ3,_,R3,w3,λb H4 F4 ρ4 s4 R4 w4=>?_⟩
  cases b with
  | false=>exact ⟨F4,_,acc,R4.clean _,da.mono (t1.trans s4),by omega,w4⟩
  | true =>
   refine ⟨_,F4,ρ4,_,R4,w4,λv H5 F5 r ρ5 s5 R5 r5 w5=>?_⟩
   obtain⟨F6,s6,R6,d6⟩:=r5.frz R5
   exact ⟨F6,_,acc++[r.d],R6.clean _,(da.mono (t1.trans (s4.trans (s5.trans s6)))).append (.cons d6 .nil),by simp;omega,w5⟩
section
variable {X:Cx}{K:Fg}{e:Expr}{st:Stmt}{ti:TDI}{own:List Str}{fr:List Nat}{g:TDG}{tc:TTD}{te:TD}
theorem cv_compC(nd:fr.Nodup)(h:PE X e (tCompW (liftI K ti) own fr (liftG K g) (liftT K tc) (lift K te))):PE X e (lift K (dCompC ti own fr g tc te)):=peM h (l_compC nd)
theorem cs_setCC{i:Nat}(nd:fr.Nodup)(h:PS X st (tAsg (tCompW (liftI K ti) own fr (liftG K g) (liftT K tc) (lift K te)) (gName i))):PS X st (liftS K (dSet i (dCompC ti own fr g tc te))):=psM h λq=>l_compC nd (l_set q)
end
theorem compC{n:Nat}{g:TDG}{tc:TTD}{te:TD}{Q:List D->Ev->Prop}(J:List D->List D->Ev->Prop)
  (hs:∀d ds acc τ,J (d :: ds) acc τ->∀N:List D->Ev->Prop,(∀acc2 τ2,J ds acc2 τ2->N acc2 τ2)->g d τ λτ1=>tc τ1 λb τ2=>if b=true then te τ2 λr τ3=>N (acc++[r.d]) (clean (A2 n) τ3) else N acc (clean (A2 n) τ2))
  (hd:∀acc τ,J [] acc τ->Q acc τ):∀{ds acc:List D}{τ:Ev},J ds acc τ->dCompLC n g tc te ds acc τ Q
 | [],acc,τ,h=>hd acc τ h
 | d :: ds,acc,τ,h=>hs d ds acc τ h _ λacc2 τ2 h2=>compC J hs hd h2
theorem compN{n:Nat}{g:TDG}{te:TD}{Q:List D->Ev->Prop}(J:List D->List D->Ev->Prop)
  (hs:∀d ds acc τ,J (d :: ds) acc τ->∀N:List D->Ev->Prop,(∀acc2 τ2,J ds acc2 τ2->N acc2 τ2)->g d τ λτ1=>te τ1 λr τ3=>N (acc++[r.d]) (clean (A2 n) τ3))
  (hd:∀acc τ,J [] acc τ->Q acc τ) {ds acc:List D}{τ:Ev} (h:J ds acc τ):dCompLC n g dYes te ds acc τ Q :=
 compC J (λd ds acc τ h N hN=>by
   have q:=hs d ds acc τ h N hN
   have e:(λτ1=>te τ1 λr τ3=>N (acc++[r.d]) (clean (A2 n) τ3))=λτ1=>dYes τ1 λb τ2=>if b=true then te τ2 (λr τ3=>N (acc++[r.d]) (clean (A2 n) τ3)) else N acc (clean (A2 n) τ2):=by
     funext τ1
     show _=(if true=true then te τ1 (λr τ3=>N (acc++[r.d]) (clean (A2 n) τ3)) else N acc (clean (A2 n) τ1))
     rw[if_pos rfl]
   rw[<- e]
   exact q) hd h
theorem mapC{n:Nat}{g:TDG}{te:TD}{Q:List D->Ev->Prop}(f:D->D){τ:Ev}{ds:List D}
  (hs:∀d∈ds,∀N:D->Ev->Prop,N (f d) τ->g d τ λτ1=>te τ1 λr τ3=>N r.d (clean (A2 n) τ3))
  (hd:Q (ds.map f) τ):dCompLC n g dYes te ds [] τ Q:=by
 refine compN (λrest acc τ'=>τ'=τ/\∃pre,ds=pre++rest/\acc=pre.map f) ?_ ?_ ⟨rfl,[],rfl,rfl⟩
 ·rintro d ds' acc τ' ⟨rfl,pre,e,rfl⟩ N hN
  exact hs d (by rw[e];simp) (λx τ3=>N (pre.map f++[x]) τ3) (hN _ _ ⟨rfl,pre++[d],by rw[e];simp,by simp⟩)
 ·rintro acc τ' ⟨rfl,pre,e,rfl⟩
  rw[S3]at e
  subst e
  exact hd
theorem filC{n:Nat}{g:TDG}{tc:TTD}{te:TD}{Q:List D->Ev->Prop}(p:D->Bool)(f:D->D){τ:Ev}{ds:List D}
  (hs:∀d∈ds,∀(N:D->Ev->Prop) (M:Ev->Prop),(p d=true->N (f d) τ)->(p d=false->M τ)->g d τ λτ1=>tc τ1 λb τ2=>if b=true then te τ2 λr τ3=>N r.d (clean (A2 n) τ3) else M (clean (A2 n) τ2))
  (hd:Q ((ds.filter p).map f) τ):dCompLC n g tc te ds [] τ Q:=by
 refine compC (λrest acc τ'=>τ'=τ/\∃pre,ds=pre++rest/\acc=(pre.filter p).map f) ?_ ?_ ⟨rfl,[],rfl,rfl⟩
 ·rintro d ds' acc τ' ⟨rfl,pre,e,rfl⟩ N hN
  exact hs d (by rw[e];simp) (λx τ3=>N ((pre.filter p).map f++[x]) τ3) (λτ3=>N ((pre.filter p).map f) τ3) (λhp=>hN _ _ ⟨rfl,pre++[d],by rw[e];simp,by simp[hp]⟩)
   (λhp=>hN _ _ ⟨rfl,pre++[d],by rw[e];simp,by simp[hp]⟩)
 ·rintro acc τ' ⟨rfl,pre,e,rfl⟩
  rw[S3]at e
  subst e
  exact hd
noncomputable def rRepr(K:Fg):List V->Hp->VK->Prop:=λxs H Q=>∃(x:V) (d:PyData),xs=[x]/\Is K H x d/\d.showable=true/\d.hasDict=false/\d.depth+1<=64/\d.shown.length<=sizeLine/\Q (.str d.shown) H
theorem call_reprK{X:Cx}{K:Fg}{k:Nat}(hK:X.K=K)(hr:Room k X.A):CallR X (.builtin "repr") (rRepr K):=by
 subst hK
 intro pins s σ H xs us Q I r h
 obtain⟨x,d,rfl,hd,hs,hn,hz,hl,q⟩:=h
 obtain⟨u,rfl,ru⟩:=vals1 r
 obtain⟨as,ra⟩:=hd.reads I ru
 have hu:=hr.units
 cases hd with
 | non=>cases ru;exact PySem.P.repr_of_none ⟨.str _,H,I.tok _,⟨_,rfl⟩,q⟩
 | bl b=>cases ru;exact PySem.P.repr_of_bool ⟨.str _,H,I.tok _,⟨_,rfl⟩,by cases b<;>exact q⟩
 | int i =>
  obtain⟨t,rfl⟩:=ru
  exact PySem.P.repr_of_int (by simpa [PyData.showable]using hs) ⟨.str _,H,I.tok _,⟨_,rfl⟩,q⟩
 | str x =>
  obtain⟨t,rfl⟩:=ru
  exact PySem.P.repr_of_str ⟨.str _,H,I.tok _,⟨_,rfl⟩,q⟩ hl
 | lst _ _ =>
  cases ru
  exact repr_of_reads' ra hs (λz=>by rw[hn]at z;cases z) hr.gd (by omega) (λ_ _ e=>e) (λh' u tk hk=>⟨.str _,H,I.kept hk,⟨u,rfl⟩,q⟩) hl
 | tup _ _ =>
  cases ru
  exact repr_of_reads' ra hs (λz=>by rw[hn]at z;cases z) hr.gd (by omega) (λ_ _ e=>e) (λh' u tk hk=>⟨.str _,H,I.kept hk,⟨u,rfl⟩,q⟩) hl
noncomputable def fRepr(d:D)(Q:Sl->Prop):Prop:=plainD d=true/\d.showable=true/\d.depth+1<=64/\d.shown.length<=sizeLine/\Q (.fz (.str d.shown))
mutual
theorem plain_noDict:∀{d:D},plainD d=true->d.hasDict=false
 | .none,_=>rfl
 | .bool _,_=>rfl
 | .int _,_=>rfl
 | .str _,_=>rfl
 | .list xs,h=>by
  have:=plainAll_noDict (xs:=xs) (by simpa [plainD]using h)
  simpa [PyData.hasDict]using this
 | .tuple xs,h=>by
  have:=plainAll_noDict (xs:=xs) (by simpa [plainD]using h)
  simpa [PyData.hasDict]using this
 | .dict _,h=>by simp[plainD]at h
theorem plainAll_noDict:∀{xs:List D},plainAll xs=true->u8 xs=false
 | [],_=>rfl
 | x :: xs,h=>by
  simp[plainAll]at h
  simp[u8,plain_noDict h.1,plainAll_noDict h.2]
end
theorem ok_repr{K:Fg}:OpOk K (rRepr K) (o1 fRepr):=ok1 λG F σ H ρ x d Q Qd R h1 w k=>by
 obtain⟨p1,p2,p3,p4,w⟩:=w
 exact ⟨x,d,rfl,h1.is R.sub p1,p2,plain_noDict p1,p3,p4,k _ H F (.fz _) (Sub.refl _) R (Da.str _) w⟩
structure WE(X:Cx)(e:Expr)(t:TE):Prop where
 h:PE X e t
structure WA(X:Cx)(es:List Expr)(t:TA):Prop where
 h:PA X es t
structure WT(X:Cx)(e:Expr)(t:TT):Prop where
 h:PT X e t
structure WW(X:Cx)(e:Expr)(t:TT):Prop where
 h:PW X e t
structure WS(X:Cx)(s:Stmt)(t:TS):Prop where
 h:PS X s t
structure WSs(X:Cx)(s:List Stmt)(t:TS):Prop where
 h:PSs X s t
structure WG(X:Cx)(e:Expr)(t:TG):Prop where
 h:PG X e t
structure WGs(X:Cx)(es:List Expr)(t:TGs):Prop where
 h:PGs X es t
structure WI(X:Cx)(g e:Expr)(t:TI):Prop where
 h:PI X g e t
structure WIf(X:Cx)(es:List Expr)(t:TT):Prop where
 h:PIf X es t
section
variable {X:Cx}{K:Fg}{e e1 e2 e3:Expr}{es:List Expr}{a b c:AD}{as:List AD}{td te tf:TD}{tc tc':TTD}{st:Stmt}{sts:List Stmt}{t u:TDS}{p pos pos' p2 apos cpos tpos:Pos}{x:Str}{tg:Expr}
theorem wn(i:Nat)(hN:X.N[i]?=some x:=by rfl)(hv:Vis X.env.scope x:=by first|exact Or.inl rfl|exact Or.inr (Or.inl rfl)|exact Or.inr (Or.inr rfl))(hd:(x==("__debug__":Str))=false:=by decide)
  (hcd:(x==("__classdict__":Str))=false:=by decide):WE X (.Name x pos) (argT K (.inl i)):=⟨pe_var hN hv hd hcd⟩
theorem wv(i:Nat)(hN:X.N[i]?=some x:=by rfl)(hv:Vis X.env.scope x:=by first|exact Or.inl rfl|exact Or.inr (Or.inl rfl)|exact Or.inr (Or.inr rfl))(hd:(x==("__debug__":Str))=false:=by decide)
  (hcd:(x==("__classdict__":Str))=false:=by decide):WE X (.Name x pos) (lift K (dVar i)):=⟨cv_var (pe_var hN hv hd hcd)⟩
theorem wx(h:WE X e (lift K td)):WE X e (argT K (.inr td)):=⟨h.h⟩
theorem wa_nil:WA X [] (tArgs (([]:List AD).map (argT K))):=⟨pa_nil⟩
theorem wa_cons(ha:WE X e (argT K a))(hr:WA X es (tArgs (as.map (argT K))))(hs:notStar e=true:=by rfl):WA X (e :: es) (tArgs ((a :: as).map (argT K))):=⟨da_cons ha.h hr.h (starEach_of hs)⟩
theorem w_int{i:Int}{k:Nat}:WE X (.Constant (.int i) k pos) (lift K (dC (.int i))):=⟨cv_c (λ_=>.int _) pe_int⟩
theorem w_bl{b:Bool}{k:Nat}:WE X (.Constant (.bool b) k pos) (lift K (dC (.bool b))):=⟨cv_c (λ_=>.bl _) pe_bl⟩
theorem w_str{z:Str}{k:Nat}:WE X (.Constant (.str z) k pos) (lift K (dC (.str z))):=⟨cv_c (λ_=>.str _) pe_str⟩
theorem w_bin{op:Operator}{r:R2}{f:D->D->(Sl->Prop)->Prop}(ok:OpOk K (r2L r) (o2 f))(ho:OpR X (binaryOp op) r)(ha:WE X e1 (argT K a))(hb:WE X e2 (argT K b)):WE X (.BinOp e1 op e2 pos) (lift K (dOp [a,b] (o2 f))):=⟨cv2 ok (pe_op ho ha.h hb.h)⟩
theorem w_neg(ha:WE X e1 (argT K a)):WE X (.UnaryOp .USub e1 pos) (lift K (dOp [a] (o1 fNeg))):=⟨cvu ok_neg (pe_un un_neg ha.h)⟩
theorem w_cmp{op:CmpOp}{r:R2}{f:D->D->(Sl->Prop)->Prop}(ok:OpOk K (r2L r) (o2 f))(ho:OpR X (compareOp op) r)(ha:WE X e1 (argT K a))(hb:WE X e2 (argT K b))(hm:op≠.In:=by decide)(hm2:op≠.NotIn:=by decide):WE X (.Compare e1 [op] [e2] pos) (lift K (dOp [a,b] (o2 f))):=⟨cv2 ok (pe_cmpR ho ha.h hb.h (nomark _ hm hm2))⟩
theorem w_chain{op op':CmpOp}{p q:Int->Int->Bool}(ho:OpR X (compareOp op) (rI0 λi j=>.bl (p i j)))(ho':OpR X (compareOp op') (rI0 λi j=>.bl (q i j)))(ha:WE X e1 (argT K a))(hb:WE X e2 (argT K b))(hc:WE X e3 (argT K c))
  (hm:lastMarks [op,op'] [e2,e3]=false:=by with_unfolding_all rfl):WE X (.Compare e1 [op,op'] [e2,e3] pos) (lift K (dChain p q a b c)):=⟨cv_chain (pe_chain ho ho' ha.h hb.h hc.h hm)⟩
theorem w_one{op:BoolOp}{tr:TE}(h:WE X e tr):WE X (.BoolOp op [e] pos) tr:=⟨pe_one h.h⟩
theorem w_and{rest:List Expr}(ha:WE X e1 (lift K td))(hb:WE X (.BoolOp .And (e2 :: rest) pos) (lift K te)):WE X (.BoolOp .And (e1 :: e2 :: rest) pos) (lift K (dAndV td te)):=⟨cv_and (pe_and ha.h hb.h)⟩
theorem w_or{rest:List Expr}(ha:WE X e1 (lift K td))(hb:WE X (.BoolOp .Or (e2 :: rest) pos) (lift K te)):WE X (.BoolOp .Or (e1 :: e2 :: rest) pos) (lift K (dOrV td te)):=⟨cv_or (pe_or ha.h hb.h)⟩
theorem w_not(ha:WE X e1 (lift K td)):WE X (.UnaryOp .Not e1 pos) (lift K (dNotV td)):=⟨cv_not (pe_not ha.h)⟩
theorem w_ifE(hc:WT X e1 (liftT K tc))(ha:WE X e2 (lift K td))(hb:WE X e3 (lift K te)):WE X (.IfExp e1 e2 e3 pos) (lift K (dIf tc td te)):=⟨cv_if (pe_ifExp hc.h ha.h hb.h)⟩
theorem w_fn{k:Nat}{ps:List Str}{con:Con}(C:Cal X.prog X.w X.K X.mg X.base k x ps (conSp K con))(hr:Room k X.A)(ha:WA X (e :: es) (tArgs (as.map (argT K))))(hg:Gl X x:=by rfl)(hdb:(x==("__debug__":Str))=false:=by decide)
  (he:notStar e=true:=by rfl) (hpl:es.all notStar=true:=by rfl):WE X (.Call (.Name x p) (e :: es) [] pos) (lift K (dCall con as)):=⟨cv_fn (pe_fn C hr ha.h hg hdb (starEach_of he) (plain_of hpl))⟩
theorem w_fnI{k i:Nat}{ps:List Str}{con:Con}(C:Cal X.prog X.w X.K X.mg X.base k x ps (conSp K con))(hr:Room k X.A)(ha:WA X (e :: es) (tArgs ((Sum.inl i :: as).map (argT K))))(hg:Gl X x:=by rfl)(hdb:(x==("__debug__":Str))=false:=by decide)
  (he:notStar e=true:=by rfl) (hpl:es.all notStar=true:=by rfl):WE X (.Call (.Name x p) (e :: es) [] pos) (lift K (dCallI con i as)):=⟨cv_fnI (pe_fn C hr ha.h hg hdb (starEach_of he) (plain_of hpl))⟩
theorem w_callB{id:String}{r:List V->Hp->VK->Prop}{f:List D->(Sl->Prop)->Prop}(ok:OpOk K r f)(hc:CallR X (.builtin id) r)(hm:X.mg x=none)(hv:bootBuiltins x=some (.builtin id))(ha:WA X (e :: es) (tArgs (as.map (argT K))))(hg:Gl X x:=by rfl)(hn:x ≠ "__name__":=by decide)(hdb:(x==("__debug__":Str))=false:=by decide)
  (he:notStar e=true:=by rfl) (hpl:es.all notStar=true:=by rfl):WE X (.Call (.Name x p) (e :: es) [] pos) (lift K (dOp as f)):=⟨cvB ok (pe_callB hc hg hm hv ha.h hn hdb (starEach_of he) (plain_of hpl))⟩
theorem w_callT{T:String}{r:List V->Hp->VK->Prop}{f:List D->(Sl->Prop)->Prop}(ok:OpOk K r f)(hc:CallR X (.type T) r)(hm:X.mg x=none)(hv:bootBuiltins x=some (.type T))(ha:WA X (e :: es) (tArgs (as.map (argT K))))(hg:Gl X x:=by rfl)(hn:x ≠ "__name__":=by decide)(hdb:(x==("__debug__":Str))=false:=by decide)
  (he:notStar e=true:=by rfl) (hpl:es.all notStar=true:=by rfl):WE X (.Call (.Name x p) (e :: es) [] pos) (lift K (dOp as f)):=⟨cvB ok (pe_callTy hc hg hm hv ha.h hn hdb (starEach_of he) (plain_of hpl))⟩
theorem w_ix(hK:X.K=K)(ha:WE X e1 (argT K a))(hb:WE X e2 (argT K b))(hs:PlainIx e2:=by exact λ_ _=>rfl):WE X (.Subscript e1 e2 pos) (lift K (dOp [a,b] (o2 fIx))):=⟨cv2 ok_ix (pe_ix (ix_seqD hK) ha.h hb.h hs)⟩
theorem w_tup{k:Nat}(h:WA X es (tArgs (as.map (argT K))))(hl:as.length<=1000:=by decide):WE X (.Tuple es k pos) (lift K (dOpF as fTupD)):=⟨cv_tup hl (pe_tup h.h)⟩
theorem w_lst(h:WA X es (tArgs (as.map (argT K))))(hl:as.length<=1000:=by decide):WE X (.List es pos) (lift K (dOpF as fLstD)):=⟨cv_lst hl (pe_lst h.h)⟩
theorem w_comp{elt iter:Expr}{ifs:List Expr}{sc:Scope}{own:List Str}{fr:List Nat}{ti:TDI}{g:TDG}(hc:X.calm=true)(S:compOk X.env.scope X.N fr sc=true)(hi:WI X tg iter (liftI K ti))(hg:∀C s H ex,WG (cxComp X own fr sc C s H ex) tg (liftG K g))
  (hif:∀C s H ex,WIf (cxComp X own fr sc C s H ex) ifs (liftT K tc)) (he:∀C s H ex,WE (cxComp X own fr sc C s H ex) elt (lift K te)) (nd:fr.Nodup:=by decide) (hs:notSet iter=true:=by rfl):WE X (.ListComp elt [⟨tg,iter,ifs,0⟩] sc pos) (lift K (dCompC ti own fr g tc te)) :=
 ⟨cv_compC nd (pe_compW hc (compSc_of S) hi.h (λC s H ex=>(hg C s H ex).h) (λC s H ex=>(hif C s H ex).h) (λC s H ex=>(he C s H ex).h) (folded_of hs))⟩
theorem w_m{name:Str}{id:String}{i:Nat}{r:V->List V->Hp->VK->Prop}{f:List D->List D->(D->D->Prop)->Prop}(ok:MOk K r f)(hK:X.K=K)(slot:Slot "list" name id)(hty:typeOf (.builtin id)=pure (.type "method_descriptor"))(hm:MtR X id r)(ho:WE X (.Name x p) (argT K (.inl i)))(ha:WA X (e :: es) (tArgs (as.map (argT K))))
  (hbase:attributeBase (.Name x p) name X.env (eval (.Name x p) X.env)=eval (.Name x p) X.env:=by rfl)
  (hfew:((backTo cpos (starEach (e :: es) X.env)).all (λx=>!x.1)&&(backToKw cpos (keywordEach [] X.env)).all (λx=>x.1.isSome)&&decide ((e :: es).length+([]:List Keyword).length+(if ([]:List Keyword).isEmpty then 0 else 1) < 30))=true:=by rfl)
  (hline:(apos.endLine==cpos.line)=true:=by rfl) (he:notStar e=true:=by rfl) (hpl:es.all notStar=true:=by rfl):WE X (.Call (.Attribute (.Name x p) name apos) (e :: es) [] cpos) (lift K (dMeth i as f)):=by
 subst hK
 exact ⟨cv_m ok (pe_bm PySem.F.plainAttrs_list slot hty hm ho.h ha.h hbase hfew hline (starEach_of he) (plain_of hpl))⟩
theorem w_m0{name:Str}{id:String}{i:Nat}{r:V->List V->Hp->VK->Prop}{f:List D->List D->(D->D->Prop)->Prop}(ok:MOk K r f)(hK:X.K=K)(slot:Slot "list" name id)(hty:typeOf (.builtin id)=pure (.type "method_descriptor"))(hm:MtR X id r)(ho:WE X (.Name x p) (argT K (.inl i)))
  (hbase:attributeBase (.Name x p) name X.env (eval (.Name x p) X.env)=eval (.Name x p) X.env:=by rfl) (hline:(apos.endLine==cpos.line)=true:=by rfl):WE X (.Call (.Attribute (.Name x p) name apos) [] [] cpos) (lift K (dMeth i [] f)):=by
 subst hK
 exact ⟨cv_m0 ok (pe_bm0 PySem.F.plainAttrs_list slot hty hm ho.h hbase hline)⟩
theorem t_cmp{op:CmpOp}{r:R2}{f:D->D->(Sl->Prop)->Prop}(ok:OpOk K (r2L r) (o2 f))(ho:OpR X (compareOp op) r)(ha:WE X e1 (argT K a))(hb:WE X e2 (argT K b))(hm:op≠.In:=by decide)(hm2:op≠.NotIn:=by decide):WT X (.Compare e1 [op] [e2] pos) (liftT K (dTst (dOp [a,b] (o2 f)))):=⟨ct2 ok (pt_cmpR ho ha.h hb.h (nomark _ hm hm2))⟩
theorem t_chain{op op':CmpOp}{p q:Int->Int->Bool}(ho:OpR X (compareOp op) (rI0 λi j=>.bl (p i j)))(ho':OpR X (compareOp op') (rI0 λi j=>.bl (q i j)))(ha:WE X e1 (argT K a))(hb:WE X e2 (argT K b))(hc:WE X e3 (argT K c))
  (hm:lastMarks [op,op'] [e2,e3]=false:=by with_unfolding_all rfl):WT X (.Compare e1 [op,op'] [e2,e3] pos) (liftT K (dTst (dChain p q a b c))):=⟨ct_chain (pt_chain ho ho' ha.h hb.h hc.h hm)⟩
theorem t_not(h:WT X e (liftT K tc)):WT X (.UnaryOp .Not e pos) (liftT K (dNot tc)):=⟨ct_not (pt_not h.h)⟩
theorem t_and1(h:WT X e (liftT K tc)):WW X (.BoolOp .And [e] pos) (liftT K tc):=⟨pw_and1 h.h⟩
theorem t_or1(h:WT X e (liftT K tc)):WW X (.BoolOp .Or [e] pos) (liftT K tc):=⟨pw_or1 h.h⟩
theorem t_and{rest:List Expr}(ha:WT X e1 (liftT K tc))(hb:WW X (.BoolOp .And (e2 :: rest) pos) (liftT K tc')):WW X (.BoolOp .And (e1 :: e2 :: rest) pos) (liftT K (dAnd tc tc')):=⟨cw_and (pw_and ha.h hb.h)⟩
theorem t_or{rest:List Expr}(ha:WT X e1 (liftT K tc))(hb:WW X (.BoolOp .Or (e2 :: rest) pos) (liftT K tc')):WW X (.BoolOp .Or (e1 :: e2 :: rest) pos) (liftT K (dOr tc tc')):=⟨cw_or (pw_or ha.h hb.h)⟩
theorem t_w{tt:TT}(h:WW X e tt):WT X e tt:=⟨h.h.pt⟩
theorem t_val(h:WE X e (lift K td))(he:∀whole,isTrue e X.env whole=(do let v<-whole;standAt e.pos;holding [v] (truthy v)):=by intro _;rfl):WT X e (liftT K (dTst td)):=⟨ct_val (pt_val h.h he)⟩
theorem g_name{i:Nat}(hN:X.N.Nodup)(hi:X.N[i]?=some x)(hx:Loc X.env.scope x)(hf:X.fn x=true\/X.env.scope.names.lookup x=some .local:=by first|exact .inl rfl|exact .inr rfl|assumption):WG X (.Name x pos) (liftG K (dGN i)):=⟨cg_name (pg_name hN hi hx hf)⟩
theorem gs_nil:WGs X [] (gAll (([]:List TDG).map (liftG K))):=⟨pgs_nil⟩
theorem gs_cons{g:TDG}{gs:List TDG}(h1:WG X e (liftG K g))(h2:WGs X es (gAll (gs.map (liftG K))))(hs:(assignEach (e :: es) X.env).map (·.2)=assign e X.env :: (assignEach es X.env).map (·.2):=by rfl):WGs X (e :: es) (gAll ((g :: gs).map (liftG K))):=⟨cgs_cons h1.h h2.h hs⟩
theorem g_tup{gs:List TDG}{k:Nat}(hK:X.K=K)(hc:X.calm=true)(hh:WGs X es (gAll (gs.map (liftG K))))(hn:(assignEach es X.env).length=gs.length:=by rfl)(hst:(assignEach es X.env).findIdx? (·.1)=none:=by rfl):WG X (.Tuple es k pos) (liftG K (dGT gs)):=⟨cg_tup (pg_tupK hK hc hh.h hn hst) rfl⟩
theorem if0:WIf X [] (liftT K dYes):=⟨cif_nil⟩
theorem if1(h:WT X e (liftT K tc)):WIf X [e] (liftT K tc):=⟨if_one h.h⟩
theorem i_seq(hK:X.K=K)(hl:WE X e (lift K td)):WI X tg e (liftI K (dISeq td)):=⟨ci_seq hK hl.h⟩
theorem i_rng1(hm:X.mg "range"=none)(ha:WA X [e1] (tArgs ([a].map (argT K))))(hg:Gl X "range":=by rfl)(he:notStar e1=true:=by rfl):WI X tg (.Call (.Name "range" p) [e1] [] pos) (liftI K (dIRng1 a)):=⟨ci_rng1 (pi_range1 hg hm ha.h (by rw[starEach_of he];rfl))⟩
theorem i_zip2{ts:List Expr}{kk:Nat}(hK:X.K=K)(hm:X.mg "zip"=none)(ha:WA X [e1,e2] (tArgs ([a,b].map (argT K))))(hg:Gl X "zip":=by rfl)(he:notStar e1=true:=by rfl)(hpl:[e2].all notStar=true:=by rfl):WI X (.Tuple ts kk tpos) (.Call (.Name "zip" p) [e1,e2] [] pos) (liftI K (dIZip2 a b)):=⟨ci_zip2 (pi_zip2K hK hg hm ha.h (starEach_of he) (plain_of hpl))⟩
theorem i_zip3{ts:List Expr}{kk:Nat}(hK:X.K=K)(hm:X.mg "zip"=none)(ha:WA X [e1,e2,e3] (tArgs ([a,b,c].map (argT K))))(hg:Gl X "zip":=by rfl)(he:notStar e1=true:=by rfl)(hpl:[e2,e3].all notStar=true:=by rfl):WI X (.Tuple ts kk tpos) (.Call (.Name "zip" p) [e1,e2,e3] [] pos) (liftI K (dIZip3 a b c)):=⟨ci_zip3 (pi_zip3K hK hg hm ha.h (starEach_of he) (plain_of hpl))⟩
theorem s_nil:WSs X [] (liftS K dNext):=⟨cs_next pss_nil⟩
theorem s_one{tr:TS}(h:WS X st tr):WSs X [st] tr:=⟨pss_one h.h⟩
theorem s_cons(h:WS X st (liftS K t))(h2:WSs X sts (liftS K u)):WSs X (st :: sts) (liftS K (dSeq t u)):=⟨cs_seq (pss_cons h.h h2.h)⟩
theorem s_ret(h:WE X e (lift K td)):WS X (.Return (some e) pos) (liftS K (dRet td)):=⟨cs_ret (ps_ret h.h)⟩
theorem s_retV{i:Nat}(h:WE X e (argT K (.inl i))):WS X (.Return (some e) pos) (liftS K (dRetV i)):=⟨cs_retV (ps_ret h.h)⟩
theorem s_expr(h:WE X e (lift K td))(hs:notComp e=true:=by rfl):WS X (.Expr e pos) (liftS K (dDrop td)):=⟨cs_drop (ps_expr h.h (swaps_of hs))⟩
theorem s_if{sa sb:List Stmt}(hc:WT X e (liftT K tc))(ha:WSs X sa (liftS K t))(hb:WSs X sb (liftS K u)):WS X (.If e sa sb pos) (liftS K (dIfS tc t u)):=⟨cs_if (ps_if hc.h ha.h hb.h)⟩
theorem s_for{iter:Expr}{body:List Stmt}(ks:List Nat){ti:TDI}{g:TDG}(hp:PassesOwn (model X.prog X.w) X.A X.env X.xe)(hc:X.calm=true)(hi:WI X tg iter (liftI K ti))(hg:WG X tg (liftG K g))(hb:WSs X body (liftS K t))(hs:notSet iter=true:=by rfl):WS X (.For tg iter body [] pos) (liftS K (dForC ks ti g t)):=⟨cs_forC ks (ps_for hp hc hi.h hg.h hb.h (folded_of hs))⟩
theorem s_while{body:List Stmt}(hp:PassesOwn (model X.prog X.w) X.A X.env X.xe)(hc:WT X e (liftT K tc))(hb:WSs X body (liftS K t)):WS X (.While e body [] pos) (liftS K (dWhile tc t)):=⟨cs_while (ps_while hp hc.h hb.h)⟩
theorem s_set{i:Nat}(hN:X.N.Nodup)(hi:X.N[i]?=some x)(hx:Loc X.env.scope x)(he:WE X e (lift K td))(hs:notComp e=true:=by rfl)(hf:X.fn x=true\/X.env.scope.names.lookup x=some .local:=by first|exact .inl rfl|exact .inr rfl|assumption):WS X (.Assign [.Name x pos'] e pos) (liftS K (dSet i td)):=⟨cs_set (ps_set hN hi hx he.h (swaps_of hs) hf)⟩
theorem s_move{i j:Nat}(hN:X.N.Nodup)(hi:X.N[i]?=some x)(hx:Loc X.env.scope x)(he:WE X e (argT K (.inl j)))(hs:notComp e=true:=by rfl)(hf:X.fn x=true\/X.env.scope.names.lookup x=some .local:=by first|exact .inl rfl|exact .inr rfl|assumption):WS X (.Assign [.Name x pos'] e pos) (liftS K (dMove i j)):=⟨cs_move (ps_set hN hi hx he.h (swaps_of hs) hf)⟩
theorem s_setC{elt iter:Expr}{ifs:List Expr}{sc:Scope}{own:List Str}{fr:List Nat}{ti:TDI}{g:TDG}{i:Nat}(hN:X.N.Nodup)(hy:X.N[i]?=some x)(hl:X.env.scope.names.lookup x=some .local)(hc:X.calm=true)(S:compOk X.env.scope X.N fr sc=true)(hi:WI X tg iter (liftI K ti))(hg:∀C s H ex,WG (cxComp X own fr sc C s H ex) tg (liftG K g))
  (hif:∀C s H ex,WIf (cxComp X own fr sc C s H ex) ifs (liftT K tc)) (he:∀C s H ex,WE (cxComp X own fr sc C s H ex) elt (lift K te)) (nd:fr.Nodup:=by decide) (hs:notSet iter=true:=by rfl) (hsw:swapsWith (.ListComp elt [⟨tg,iter,ifs,0⟩] sc p) (some (.Name x pos')) pos.line X.env=pure true:=by rfl) :
  WS X (.Assign [.Name x pos'] (.ListComp elt [⟨tg,iter,ifs,0⟩] sc p) pos) (liftS K (dSet i (dCompC ti own fr g tc te))) :=
 ⟨cs_setCC nd (ps_setCompW hN hy hl hc (compSc_of S) hi.h (λC s H ex=>(hg C s H ex).h) (λC s H ex=>(hif C s H ex).h) (λC s H ex=>(he C s H ex).h) hsw (folded_of hs))⟩
theorem s_ix{j:Nat}(he:WE X e (lift K td))(ho:WE X e1 (argT K (.inl j)))(hi:WE X e2 (argT K a))(hs:swapsWithSole [.Subscript e1 e2 pos'] e pos.line X.env=pure false:=by rfl)(hw:swappedStores [.Subscript e1 e2 pos'] e X.env=pure none:=by rfl)
  (ha:∀v,assign (.Subscript e1 e2 pos') X.env v=(do
    let ov<-holding [v] (eval e1 X.env)
    let iv<-holding [v,ov] (eval e2 X.env)
    standAt pos'
    holding [v,ov,iv] (setItem ov iv v)
    release [v,ov,iv] []):=by intro _;rfl) (h1:(assignEach [.Subscript e1 e2 pos'] X.env).map (·.2)=[assign (.Subscript e1 e2 pos') X.env]:=by rfl):WS X (.Assign [.Subscript e1 e2 pos'] e pos) (liftS K (dSetIx j a td)):=⟨cs_ix (ps_asg he.h (pg_sub ho.h hi.h set_list ha) hs hw h1)⟩
theorem s_asgG{g:TDG}(he:WE X e (lift K td))(hg:WG X tg (liftG K g))(hs:swapsWithSole [tg] e pos.line X.env=pure false:=by rfl)(hw:swappedStores [tg] e X.env=pure none:=by rfl)(h1:(assignEach [tg] X.env).map (·.2)=[assign tg X.env]:=by rfl):WS X (.Assign [tg] e pos) (liftS K (dAsgG g td)):=⟨cs_asgG (ps_asg he.h hg.h hs hw h1)⟩
end
section
variable {P:Program}{w:World}{K:Fg}{mg:Str->Option Value}{base:Heap}
theorem wfn{x qual:Str}{st:Stmt}{f:Addr}{fd:FuncData}{N ps:List Str}{k:Nat}{con:Con}{ts:TDS}(F:Fun K x qual st f fd)(S:FnScope N ps (defScope st))
  (hb:∀(cdv:Value) (A:Around) (outer:List Env) (s:Shared) (H:Hp) (E:XK),Room k (A.deeper (envOfC qual (defScope st) s.heap.objs.size f cdv))->WSs (cxOf CX0 P w K mg base N qual (defScope st) f cdv A outer s H E).nox (defBody st) (liftS K ts))
  (hl:∀args Qd,con args Qd->args.length=ps.length) (hc:∀args Qd,con args Qd->(∀s∈args,∀d,s≠.ow d)/\ts (endsOf args Qd) (startE N.length args)):FnOk P w K mg base CX0 (k+1) f fd ps (conSp K con) :=
 dfn F S (λcdv A outer s H E hr=>(hb cdv A outer s H E hr).h) hl hc
end
end L3
namespace L2
open PySem PySem.Spec PyProof.Rows
theorem Vals.getV:∀{xs:List V}{us:List Value}{i:Nat}{u:Value},Vals xs us->us[i]?=some u->∃x,xs[i]?=some x/\RelV x u
 | _,_,0,_,.cons r _,e=>⟨_,rfl,by cases e;exact r⟩
 | _,_,i+1,_,.cons _ t,e=>Vals.getV (i:=i) t e
section
variable {X:Cx}
end
noncomputable abbrev IsZipH(h:Heap)(z TI TO T:Addr)(fl:Bool):Prop :=
 h.get? z=some { cls:=.type "zip",dict:=none,data:=.fields #[rawInt T,.bool fl,.bool false,.ref TI,.ref TO],slots:=#[] }
section
variable {prog:Program}{w:World}{A:Around}{E:Value->Shared->Prop}{s:Shared}
theorem alive{a:Addr}{o:Obj}{Q:Option Obj->Shared->Prop}(ho:s.heap.get? a=some o)(h:Q (some o) s):wpAny (model prog w) A (loadIfAlive a) Q E s:=λΓ p _=>by
 show Sem.wp _ Γ (.loadIfAlive a λx=>.pure x) _ _ p s
 rw[Sem.wp_loadIfAlive,ho]
 exact h
theorem notFree{z TI TO T:Addr}{fl:Bool}{ot:Obj}{Q:Bool->Shared->Prop}(hz:IsZipH s.heap z TI TO T fl)(hT:s.heap.get? T=some ot)
  (h:∀h₁,IsZipH h₁ z TI TO T true->Y4 z s.heap h₁->Q false { s with heap:=h₁ }):wpAny (model prog w) A (V0 (.ref z)) Q E s:=by
 unfold V0
 refine wpAny_bind (wpAny_field hz rfl (x:=rawInt T) rfl ?_)
 show wpAny _ _ (loadIfAlive T >>= _) _ _ _
 refine wpAny_bind (alive hT ?_)
 rw[if_neg (show ¬((some ot).isNone=true) from T0)]
 refine wpAny_bind (wpAny_field hz rfl (x:=.bool fl) rfl ?_)
 cases fl with
 | true =>
  rw[if_neg (by decide)]
  exact wpAny_pure (h s.heap hz ⟨rfl,λ_ _=>rfl⟩)
 | false =>
  rw[if_pos (by decide)]
  exact wpAny_bind (wpAny_setField_rec hz (by simp) λh₁ hz₁ hs₁=>wpAny_pure (h h₁ hz₁ hs₁))
theorem zipn_kept2{z TI TO T i1 i2 l1 l2:Addr}{fl:Bool}{k:Nat}{k1:Kd}{k2:Kd}{xs1 xs2:Array Value}{ot:Obj}{x1 x2:Value}{Q:Value->Shared->Prop}(D:ZAp2 z TI TO i1 i2 l1 l2)
  (hz:IsZipH s.heap z TI TO T fl) (hTI:IsTup2 s.heap TI (.ref i1) (.ref i2)) (hT:s.heap.get? T=some ot)
  (h1:ItAt k1 s.heap i1 l1 k) (h2:ItAt k2 s.heap i2 l2 k) (hl1:SqAt k1 s.heap l1 xs1) (hl2:SqAt k2 s.heap l2 xs2) (hx1:xs1[k]?=some x1) (hx2:xs2[k]?=some x2)
  (hQ:∀h',IsZipH h' z TI TO T true->ItAt k1 h' i1 l1 (k+1)->ItAt k2 h' i2 l2 (k+1)->IsTup2 h' s.heap.objs.size x1 x2->h'.objs.size=s.heap.objs.size+1 ->
    (∀c o,c≠z->c≠i1->c≠i2->s.heap.get? c=some o->h'.get? c=some o)->Q (.ref s.heap.objs.size) { s with heap:=h' }) :
  wpAny (model prog w) A (Builtin.«zip.__next__» ⟨[.ref z],[]⟩) (λfin s'=>∃v,fin=.done (.ret v)/\Q v s') E s:=by
 show wpAny _ _ (field (.ref z) 2 >>= _) _ _ _
 refine wpAny_bind (wpAny_field hz rfl (x:=.bool false) rfl ?_)
 show wpAny _ _ (field (.ref z) 3 >>= _) _ _ _
 refine wpAny_bind (wpAny_field hz rfl (x:=.ref TI) rfl ?_)
 refine wpAny_bind (wpAny_seqItems hTI rfl ?_)
 show wpAny _ _ (V0 (.ref z) >>= _) _ _ _
 refine wpAny_bind (notFree hz hT λh₁ hz₁ hs₁=>?_)
 simp only[X2,if_false]
 rw[g8]
 simp only[j4,G4]
 refine wpAny_bind (wpAny_bind (wpAny_bind (wpAny_holding ?_)))
 show wpAny _ _ (R0 (.ref i1) >>= _) _ _ _
 refine wpAny_bind (nextOf_item (h1.at λo e=>hs₁.extBut _ o D.i1z e) (hl1.at λo e=>hs₁.extBut _ o D.l1z e) hx1 λha1 hi1 hsa1=>wpAny_pure (wpAny_pure ?_))
 refine wpAny_bind (wpAny_bind (wpAny_holding ?_))
 show wpAny _ _ (R0 (.ref i2) >>= _) _ _ _
 refine wpAny_bind (nextOf_item ((h2.at λo e=>hs₁.extBut _ o D.i2z e).at λo e=>hsa1.extBut _ o D.i2i1 e) ((hl2.at λo e=>hs₁.extBut _ o D.l2z e).at λo e=>hsa1.extBut _ o D.l2i1 e) hx2 λha2 hi2 hsa2=>wpAny_pure (wpAny_pure (wpAny_pure ?_)))
 refine wpAny_bind (wpAny_newTuple (hsz:=by show 2<=sizeLine;decide) ?_)
 have hsz:ha2.objs.size=s.heap.objs.size:=by rw[hsa2.1,hsa1.1,hs₁.1]
 have hzG:IsZipH ha2 z TI TO T true:=hsa2.extBut _ _ D.i2z.symm (hsa1.extBut _ _ D.i1z.symm hz₁)
 refine wpAny_pure ⟨_,rfl,?_⟩
 show Q (.ref ha2.objs.size) _
 rw[hsz]
 refine hQ _ (i0 _ hzG) ((hi1.at λo e=>hsa2.extBut _ o D.i2i1.symm e).at λo e=>i0 _ e) (hi2.at λo e=>i0 _ e) ?_ ?_ λc o c1 d1 d2 e=>i0 _ (hsa2.extBut _ _ d2 (hsa1.extBut _ _ d1 (hs₁.extBut _ _ c1 e)))
 ·rw[<- hsz];exact K0 _ rfl
 ·rw[L1,hsz]
theorem zipn_keptEnd2{z TI TO T i1 i2 l1 l2:Addr}{fl:Bool}{k:Nat}{k1:Kd}{k2:Kd}{xs1 xs2:Array Value}{ot:Obj}{Q:Fin->Shared->Prop}(hh:A.handled=none)(D:ZAp2 z TI TO i1 i2 l1 l2)
  (hz:IsZipH s.heap z TI TO T fl) (hTI:IsTup2 s.heap TI (.ref i1) (.ref i2)) (hT:s.heap.get? T=some ot)
  (h1:ItAt k1 s.heap i1 l1 k) (h2:ItAt k2 s.heap i2 l2 k) (hl1:SqAt k1 s.heap l1 xs1) (hl2:SqAt k2 s.heap l2 xs2) (hend:xs1[k]?=none\/xs2[k]?=none)
  (hE:∀h' e,(∀c o,c≠z->c≠i1->c≠i2->s.heap.get? c=some o->h'.get? c=some o)->(∃o,h'.get? e=some o/\o.cls=.type "StopIteration")->E (.ref e) { s with heap:=h' }) :
  wpAny (model prog w) A (Builtin.«zip.__next__» ⟨[.ref z],[]⟩) Q E s:=by
 show wpAny _ _ (field (.ref z) 2 >>= _) _ _ _
 refine wpAny_bind (wpAny_field hz rfl (x:=.bool false) rfl ?_)
 show wpAny _ _ (field (.ref z) 3 >>= _) _ _ _
 refine wpAny_bind (wpAny_field hz rfl (x:=.ref TI) rfl ?_)
 refine wpAny_bind (wpAny_seqItems hTI rfl ?_)
 show wpAny _ _ (V0 (.ref z) >>= _) _ _ _
 refine wpAny_bind (notFree hz hT λh₁ hz₁ hs₁=>?_)
 simp only[X2,if_false]
 rw[g8]
 simp only[j4,G4]
 refine wpAny_bind (wpAny_bind (wpAny_bind (wpAny_holding ?_)))
 show wpAny _ _ (R0 (.ref i1) >>= _) _ _ _
 cases hx1:xs1[k]? with
 | none =>
  exact wpAny_bind (nextOf_end hh (h1.at λo e=>hs₁.extBut _ o D.i1z e) (hl1.at λo e=>hs₁.extBut _ o D.l1z e) hx1 λhq e hsq he=>hE hq e (λc o c1 d1 d2 x=>hsq _ _ d1 (hs₁.extBut _ _ c1 x)) he)
 | some x1 =>
  have hx2:xs2[k]?=none:=by
   rcases hend with h|h
   ·rw[hx1]at h;cases h
   ·exact h
  refine wpAny_bind (nextOf_item (h1.at λo e=>hs₁.extBut _ o D.i1z e) (hl1.at λo e=>hs₁.extBut _ o D.l1z e) hx1 λha1 hi1 hsa1=>wpAny_pure (wpAny_pure ?_))
  refine wpAny_bind (wpAny_bind (wpAny_holding ?_))
  show wpAny _ _ (R0 (.ref i2) >>= _) _ _ _
  exact wpAny_bind (nextOf_end hh ((h2.at λo e=>hs₁.extBut _ o D.i2z e).at λo e=>hsa1.extBut _ o D.i2i1 e) ((hl2.at λo e=>hs₁.extBut _ o D.l2z e).at λo e=>hsa1.extBut _ o D.l2i1 e) hx2 λhq e hsq he=>hE hq e (λc o c1 d1 d2 x=>hsq _ _ d2 (hsa1.extBut _ _ d1 (hs₁.extBut _ _ c1 x))) he)
end
section
variable {prog:Program}{w:World}{A:Around}{E:Value->Shared->Prop}{s:Shared}
noncomputable def ZSt(h:Heap)(z TI TO S i1 i2 l1 l2:Addr)(k1 k2:Kd)(i:Nat):Prop :=
 IsTup2 h TI (.ref i1) (.ref i2)/\ItAt k1 h i1 l1 i/\ItAt k2 h i2 l2 i /\
  ((IsZip h z TI TO .none/\∃a1 a2,IsTup2 h TO a1 a2)\/∃T fl ot,IsZipH h z TI TO T fl/\h.get? T=some ot/\T≠z/\T≠i1/\T≠i2/\T≠S)
theorem next_kept2{z TI TO S i1 i2 l1 l2:Addr}{k:Nat}{k1 k2:Kd}{xs1 xs2:Array Value}{x1 x2:Value}{Q:Option Value->Shared->Prop}(D:ZAp2 z TI TO i1 i2 l1 l2)(hS:S < s.heap.objs.size)
  (st:ZSt s.heap z TI TO S i1 i2 l1 l2 k1 k2 k) (hl1:SqAt k1 s.heap l1 xs1) (hl2:SqAt k2 s.heap l2 xs2) (hx1:xs1[k]?=some x1) (hx2:xs2[k]?=some x2)
  (hQ:∀h',ZSt h' z TI TO S i1 i2 l1 l2 k1 k2 (k+1)->IsTup2 h' s.heap.objs.size x1 x2->h'.objs.size=s.heap.objs.size+1 ->
    (∀c o,c≠z->c≠TO->c≠i1->c≠i2->s.heap.get? c=some o->h'.get? c=some o)->Q (some (.ref s.heap.objs.size)) { s with heap:=h' }) :
  wpAny (model prog w) A (pyNext (.ref z)) Q E s:=by
 obtain⟨hTI,h1,h2,hz⟩:=st
 have gz:∀{b:Addr}{o:Obj},s.heap.get? b=some o->s.heap.objs.size≠b:=λe=>j1 (B0 e)
 obtain⟨o1,g1,_⟩:=h1.obj
 obtain⟨o2,g2,_⟩:=h2.obj
 rcases hz with⟨hz,a1,a2,hTO⟩|⟨T,fl,ot,hz,hT,t1,t2,t3,t4⟩
 ·refine next_zip_item2 D hz hTI hTO h1 h2 hl1 hl2 hx1 hx2 λh' b1 b2 c1 c2 b5 b6 b7=>hQ h' ⟨b7 TI _ D.TIz (J1 D.TOTI) (J1 D.i1TI) (J1 D.i2TI) hTI,c1,c2,.inr ⟨s.heap.objs.size,false,_,b1,b5,gz hz,gz g1,gz g2,j1 hS⟩⟩ b5 b6 b7
 ·have hTy:s.TypeIs (.ref z) "zip":=⟨_,hz,rfl⟩
  unfold pyNext
  exact wpAny_bind (wpAny_attempt (wpAny_callSpecial?_slot (name:=Str.ofString "__next__") hTy F.slot_zip_next
    (wpAny_call_entry F.slot_zip_next hTy F.entry_zip_next (wpAny_mono (zipn_kept2 (Q:=λv s'=>Q (some v) s') D hz hTI hT h1 h2 hl1 hl2 hx1 hx2 λh' b1 c1 c2 b5 b6 b7=>hQ h' ⟨b7 TI _ D.TIz (J1 D.i1TI) (J1 D.i2TI) hTI,c1,c2,.inr ⟨T,true,ot,b1,b7 T _ t1 t2 t3 hT,t1,t2,t3,t4⟩⟩ b5 b6 λc o d1 _ d3 d4 e=>b7 c o d1 d3 d4 e) (λfin s' z=>by obtain⟨v,rfl,z⟩:=z;exact ⟨_,rfl,wpAny_pure z⟩) λ_ _ z=>z) (F.args_zip_next_1 _))))
theorem next_keptEnd2{z TI TO S i1 i2 l1 l2:Addr}{k:Nat}{k1 k2:Kd}{xs1 xs2:Array Value}{Q:Option Value->Shared->Prop}(hh:A.handled=none)(D:ZAp2 z TI TO i1 i2 l1 l2)
  (st:ZSt s.heap z TI TO S i1 i2 l1 l2 k1 k2 k) (hl1:SqAt k1 s.heap l1 xs1) (hl2:SqAt k2 s.heap l2 xs2) (hend:xs1[k]?=none\/xs2[k]?=none)
  (hQ:∀h',(∀c o,c≠z->c≠TO->c≠i1->c≠i2->s.heap.get? c=some o->h'.get? c=some o)->Q none { s with heap:=h' }):wpAny (model prog w) A (pyNext (.ref z)) Q E s:=by
 obtain⟨hTI,h1,h2,hz⟩:=st
 rcases hz with⟨hz,a1,a2,hTO⟩|⟨T,fl,ot,hz,hT,t1,t2,t3,t4⟩
 ·exact next_zip_end2 hh D hz hTI hTO h1 h2 hl1 hl2 hend hQ
 ·have hTy:s.TypeIs (.ref z) "zip":=⟨_,hz,rfl⟩
  unfold pyNext
  refine wpAny_bind (wpAny_attempt (wpAny_callSpecial?_slot (name:=Str.ofString "__next__") hTy F.slot_zip_next
    (wpAny_call_entry F.slot_zip_next hTy F.entry_zip_next (zipn_keptEnd2 hh D hz hTI hT h1 h2 hl1 hl2 hend λh' e hk he=>?_) (F.args_zip_next_1 _))))
  obtain⟨o,ho,hc⟩:=he
  refine wpAny_bind (wpAny_isInstance (T:="StopIteration") (b:=true) ⟨o,ho,hc⟩ isSubtype_stop ?_)
  exact wpAny_pure (hQ _ λc o d1 _ d3 d4 e=>hk c o d1 d3 d4 e)
theorem ZSt.keep{h h':Heap}{z TI TO S i1 i2 l1 l2:Addr}{k1 k2:Kd}{i:Nat}(x:ZSt h z TI TO S i1 i2 l1 l2 k1 k2 i)(hk:∀b o,b≠S->h.get? b=some o->h'.get? b=some o)(n1:z≠S)(n2:TI≠S)(n3:TO≠S)(n4:i1≠S)(n5:i2≠S) :
  ZSt h' z TI TO S i1 i2 l1 l2 k1 k2 i:=by
 obtain⟨hTI,h1,h2,hz⟩:=x
 refine ⟨hk _ _ n2 hTI,h1.at λo e=>hk _ _ n4 e,h2.at λo e=>hk _ _ n5 e,?_⟩
 rcases hz with⟨hz,a1,a2,hTO⟩|⟨T,fl,ot,hz,hT,t1,t2,t3,t4⟩
 ·exact .inl ⟨hk _ _ n1 hz,a1,a2,hk _ _ n3 hTO⟩
 ·exact .inr ⟨T,fl,ot,hk _ _ n1 hz,hk _ _ t4 hT,t1,t2,t3,t4⟩
end
structure ZG(xs1 xs2:Array Value)(lo:Addr)(h:Heap)(as:List Addr):Prop where
 rise:as.Pairwise (· < ·)
 above:∀a∈as,lo < a
 pairs:∀(j:Nat) (a:Addr),as[j]?=some a->∃x y,xs1[j]?=some x/\xs2[j]?=some y/\IsTup2 h a x y
theorem ZG.there{xs1 xs2:Array Value}{lo:Addr}{h:Heap}{as:List Addr}(g:ZG xs1 xs2 lo h as){a:Addr}(ha:a∈as):a < h.objs.size:=by
 obtain⟨j,hj⟩:=J4.mp ha
 obtain⟨_,_,_,_,e⟩:=g.pairs j a hj
 exact B0 e
section
variable {prog:Program}{w:World}{A:Around}{s:Shared}{R:Result->Shared->Prop}
theorem zip_loop{z TI TO S i1 i2 l1 l2:Addr}{k1 k2:Kd}{xs1 xs2:Array Value}{n:Nat}(hh:A.handled=none)(D:ZAp2 z TI TO i1 i2 l1 l2)(n1:z < S)(n2:TI < S)(n3:TO < S)(n4:i1 < S)(n5:i2 < S)(n6:l1≠S)(n7:l2≠S)
  (hn1:n<=xs1.size) (hn2:n<=xs2.size) (hend:xs1[n]?=none\/xs2[n]?=none) (hn:n<=sizeLine) (res:Value) {h₁:Heap}
  (hR:∀h' tk acc c as,(∀b o,b≠S->b≠z->b≠TO->b≠i1->b≠i2->h₁.get? b=some o->h'.get? b=some o)->h'.get? S=some { cls:=.type "list",dict:=none,data:=.seq acc c,slots:=#[] }->as.length=n->ZG xs1 xs2 S h' as ->
    acc.toList=as.map G2->R (.ok (.ret res)) { s with heap:=h',toks:=tk }) :
  ∀(k i:Nat) (h:Heap) (tk c:Nat) (acc:Array Value) (as:List Addr),n - i=k->i<=n->ZSt h z TI TO S i1 i2 l1 l2 k1 k2 i->SqAt k1 h l1 xs1->SqAt k2 h l2 xs2->(∀b o,b≠S->b≠z->b≠TO->b≠i1->b≠i2->h₁.get? b=some o->h.get? b=some o) ->
   h.get? S=some { cls:=.type "list",dict:=none,data:=.seq acc c,slots:=#[] }->acc.toList=as.map G2->as.length=i->ZG xs1 xs2 S h as ->
   codeAny (model prog w) A (.builtin "list.extend.loop" ⟨[.ref S,.ref z,res],[]⟩) R { s with heap:=h,toks:=tk }:=by
 have m1:z≠S:=S0 n1
 have m2:TI≠S:=S0 n2
 have m3:TO≠S:=S0 n3
 have m4:i1≠S:=S0 n4
 have m5:i2≠S:=S0 n5
 have far:∀{a:Addr},S < a->a≠S/\a≠z/\a≠TO/\a≠i1/\a≠i2:=λh=>⟨j1 h,j1 (J5 n1 h),j1 (J5 n3 h),j1 (J5 n4 h),j1 (J5 n5 h)⟩
 intro k
 induction k with
 | zero =>
  intro i h tk c acc as hk hi hst q1 q2 hkeep hS hacc hal hG
  have hin:i=n:=by omega
  subst hin
  refine codeAny_builtin PySem.F.entry_extend_loop ?_
  rw[Around.under_plainId PySem.F.plain_extend_loop _]
  show wpAny _ A.in1 (pyNext (.ref z) >>= _) _ _ _
  refine wpAny_bind (next_keptEnd2 (s:={ s with heap:=h,toks:=tk }) (A:=A.in1) hh D hst q1 q2 hend λh' he=>?_)
  refine wpAny_pure (hR h' tk acc c as (λb o c1 c2 c3 c4 c5 e=>he b o c2 c3 c4 c5 (hkeep b o c1 c2 c3 c4 c5 e)) (he S _ (J1 m1) (J1 m3) (J1 m4) (J1 m5) hS) hal ⟨hG.rise,hG.above,λj a hj=>?_⟩ hacc)
  obtain⟨x,y,e1,e2,e3⟩:=hG.pairs j a hj
  obtain⟨_,f2,f3,f4,f5⟩:=far (hG.above a (Q1 hj))
  exact ⟨x,y,e1,e2,he a _ f2 f3 f4 f5 e3⟩
 | succ k ih =>
  intro i h tk c acc as hk hi hst q1 q2 hkeep hS hacc hal hG
  have hlt:i < n:=by omega
  obtain⟨x,hx⟩:∃p,xs1[i]?=some p:=⟨xs1[i],T6 (by omega)⟩
  obtain⟨y,hy⟩:∃p,xs2[i]?=some p:=⟨xs2[i],T6 (by omega)⟩
  have hsz:acc.size=i:=by rw[<- W1,hacc,A0,hal]
  have hSl:S < h.objs.size:=B0 hS
  refine codeAny_builtin PySem.F.entry_extend_loop ?_
  rw[Around.under_plainId PySem.F.plain_extend_loop _]
  show wpAny _ A.in1 (pyNext (.ref z) >>= _) _ _ _
  refine wpAny_bind (next_kept2 (s:={ s with heap:=h,toks:=tk }) (S:=S) D hSl hst q1 q2 hx hy λh' hst' ht hz hkp=>?_)
  dsimp only at ht hz hkp ⊢
  have hS':=hkp S _ (J1 m1) (J1 m3) (J1 m4) (J1 m5) hS
  have up:∀b o,b≠S->h'.get? b=some o->(h'.update S (S1 (·.push (G2 h.objs.size)))).get? b=some o:=λb o hb e=>(Y1 _ _ (J1 hb)).trans e
  show wpAny _ A.in1 (updateSeq S (·.push (G2 h.objs.size)) >>= _) _ _ _
  refine wpAny_bind ?_
  refine wpAny_updateSeq hS' rfl (wpAny_pure ⟨plainId_quiet PySem.F.plain_extend_loop _,ih (i+1) _ tk _ (acc.push (G2 h.objs.size)) (as++[h.objs.size]) (by omega) hlt (hst'.keep up m1 m2 m3 m4 m5)
    (q1.at λo e=>up _ o n6 (hkp _ o D.l1z D.l1TO D.l1i1 D.l1i2 e)) (q2.at λo e=>up _ o n7 (hkp _ o D.l2z D.l2TO D.l2i1 D.l2i2 e))
    (λb o c1 c2 c3 c4 c5 e=>up b o c1 (hkp b o c2 c3 c4 c5 (hkeep b o c1 c2 c3 c4 c5 e))) (J2 _ hS' rfl) (by rw[v8,hacc,j2];rfl) (by rw[Z0,hal];rfl) ⟨?_,?_,?_⟩⟩) (by rw[hsz];omega) (by show (acc.push (G2 h.objs.size)).size<=sizeLine+1;rw[Array.size_push,hsz];omega)
  ·refine List.pairwise_append.mpr ⟨hG.rise,Z3 _ _,λa ha b hb=>?_⟩
   rw[A1.mp hb]
   exact hG.there ha
  ·intro a ha
   rcases Z2.mp ha with ha|ha
   ·exact hG.above a ha
   ·rw[A1.mp ha];exact hSl
  ·intro j b hj
   rcases Nat.lt_trichotomy j as.length with g|g|g
   ·rw[W2 g]at hj
    obtain⟨x',y',e1,e2,e3⟩:=hG.pairs j b hj
    obtain⟨f1,f2,f3,f4,f5⟩:=far (hG.above b (Q1 hj))
    exact ⟨x',y',e1,e2,up b _ f1 (hkp b _ f2 f3 f4 f5 e3)⟩
   ·subst g
    have hb:h.objs.size=b:=by simpa using hj
    subst hb
    exact ⟨x,y,by rw[hal];exact hx,by rw[hal];exact hy,up _ _ (j1 hSl) ht⟩
   ·have hnone:(as++[h.objs.size])[j]?=none:=List.getElem?_eq_none (by rw[Z0,A3];omega)
    rw[hnone]at hj;cases hj
end
theorem zip_no_len:typeLookup (.type "zip") "__len__"=pure none:=by rw[typeLookup_type,builtinLookup_eq_fast];kernel_rfl
theorem zip_no_hint:typeLookup (.type "zip") "__length_hint__"=pure none:=by rw[typeLookup_type,builtinLookup_eq_fast];kernel_rfl
section
variable {prog:Program}{w:World}{A:Around}{s:Shared}{R:Result->Shared->Prop}
theorem zip_extend{z TI TO S i1 i2 l1 l2:Addr}{k1 k2:Kd}{xs1 xs2:Array Value}{n:Nat}(hh:A.handled=none)(D:ZAp2 z TI TO i1 i2 l1 l2)(n1:z < S)(n2:TI < S)(n3:TO < S)(n4:i1 < S)(n5:i2 < S)(n6:l1≠S)(n7:l2≠S)
  (hn1:n<=xs1.size) (hn2:n<=xs2.size) (hend:xs1[n]?=none\/xs2[n]?=none) (hn:n<=sizeLine) (res:Value) (c₀:Nat) {a1 a2:Value}
  (hz:IsZip s.heap z TI TO .none) (hTI:IsTup2 s.heap TI (.ref i1) (.ref i2)) (hTO:IsTup2 s.heap TO a1 a2) (h1:ItAt k1 s.heap i1 l1 0) (h2:ItAt k2 s.heap i2 l2 0) (hl1:SqAt k1 s.heap l1 xs1) (hl2:SqAt k2 s.heap l2 xs2)
  (hS:s.heap.get? S=some { cls:=.type "list",data:=.seq #[] c₀ })
  (hR:∀h' tk acc c as,(∀b o,b≠S->b≠z->b≠TO->b≠i1->b≠i2->s.heap.get? b=some o->h'.get? b=some o)->h'.get? S=some { cls:=.type "list",dict:=none,data:=.seq acc c,slots:=#[] }->as.length=n->ZG xs1 xs2 S h' as ->
    acc.toList=as.map G2->R (.ok (.ret res)) { s with heap:=h',toks:=tk }) :
  wpAny (model prog w) A.in1 (A4 (.ref S) (.ref z) res)
   (λfin s'=>match fin with | .done f=>R (.ok f) s' | .again c'=>c'.quiet=true/\codeAny (model prog w) A c' R s') (λe s'=>R (.error e) s') s:=by
 have m1:z≠S:=S0 n1
 have hTy:s.TypeIs (.ref z) "zip":=⟨_,hz,rfl⟩
 unfold A4
 refine wpAny_bind (wpAny_typeOf hTy ?_)
 have e1:h7 (.ref S) (.ref z)=false:=by simp[h7,J1 m1]
 have e2:(Z5 "zip"==Z5 "list")=false:=by decide
 have e3:(Z5 "zip"==Z5 "tuple")=false:=by decide
 simp only[e1,e2,e3,Bool.or_false,X2,if_false]
 refine wpAny_bind (wpAny_pyIter_zip hz ?_)
 refine wpAny_bind (wpAny_holding ?_)
 unfold Builtin.List.listLengthHint
 refine wpAny_bind (wpAny_specialOf hTy zip_no_len ?_)
 show wpAny _ A.in1 (specialOf (G2 z) (Str.ofString "__length_hint__") >>= _) _ _ _
 refine wpAny_bind (wpAny_specialOf hTy zip_no_hint ?_)
 refine wpAny_pure ?_
 show wpAny _ A.in1 (rule "list.extend.makes-room" >>= λ_=>Builtin.List.listTouch (.ref S) >>= λ_ =>
   again (.builtin "list.extend.loop" ⟨[.ref S,.ref z,res],[]⟩)) _ _ _
 refine wpAny_bind (wpAny_rule ?_)
 refine wpAny_bind ?_
 show wpAny _ A.in1 (updateSeq S (·.push .none) >>= λ_=>updateSeq S (·.pop)) _ _ _
 refine wpAny_bind (wpAny_updateSeq hS rfl ?_)
 have hS₂:=J2 (S1 (·.push A5)) hS rfl
 refine wpAny_updateSeq (hz:=by seq_fits) hS₂ rfl ?_
 have hS₃:=J2 (S1 (·.pop)) hS₂ rfl
 have oth:∀b o,b≠S->s.heap.get? b=some o->((s.heap.update S (S1 (·.push A5))).update S (S1 (·.pop))).get? b=some o :=
  λb o hb e=>(Y1 _ _ (J1 hb)).trans ((Y1 _ _ (J1 hb)).trans e)
 refine wpAny_pure ⟨plainId_quiet F.plain_extend_loop _,zip_loop (s:=s) (h₁:=s.heap) hh D n1 n2 n3 n4 n5 n6 n7 hn1 hn2 hend hn res hR n 0 _ s.toks _ #[] [] rfl (B4 _)
   ⟨oth _ _ (S0 n2) hTI,h1.at λo e=>oth _ _ (S0 n4) e,h2.at λo e=>oth _ _ (S0 n5) e,.inl ⟨oth _ _ m1 hz,a1,a2,oth _ _ (S0 n3) hTO⟩⟩
   (hl1.at λo e=>oth _ _ n6 e) (hl2.at λo e=>oth _ _ n7 e) (λb o c1 _ _ _ _ e=>oth b o c1 e) hS₃ rfl rfl ⟨List.Pairwise.nil,(λ_ ha=>nomatch ha),(λj a hj=>by simp at hj)⟩⟩
end
section
variable {prog:Program}{w:World}{A:Around}{E:Value->Shared->Prop}{s:Shared}
theorem call_list_zip2{z TI TO i1 i2 l1 l2:Addr}{k1 k2:Kd}{xs1 xs2:Array Value}{n:Nat}{Q:Value->Shared->Prop}(hh:A.handled=none)(D:ZAp2 z TI TO i1 i2 l1 l2)
  (hn1:n<=xs1.size) (hn2:n<=xs2.size) (hend:xs1[n]?=none\/xs2[n]?=none) (hn:n<=sizeLine) {a1 a2:Value}
  (hz:IsZip s.heap z TI TO .none) (hTI:IsTup2 s.heap TI (.ref i1) (.ref i2)) (hTO:IsTup2 s.heap TO a1 a2) (h1:ItAt k1 s.heap i1 l1 0) (h2:ItAt k2 s.heap i2 l2 0) (hl1:SqAt k1 s.heap l1 xs1) (hl2:SqAt k2 s.heap l2 xs2)
  (b1:l1 < s.heap.objs.size) (b2:l2 < s.heap.objs.size)
  (hQ:∀h' tk acc c as,(∀b o,b≠z->b≠TO->b≠i1->b≠i2->s.heap.get? b=some o->h'.get? b=some o)->h'.get? s.heap.objs.size=some { cls:=.type "list",dict:=none,data:=.seq acc c,slots:=#[] }->as.length=n->ZG xs1 xs2 s.heap.objs.size h' as ->
    acc.toList=as.map G2->Q (.ref s.heap.objs.size) { s with heap:=h',toks:=tk }) :
  wpAny (model prog w) A (call (.type "list") [.ref z]) Q E s:=by
 refine callType_codes (Q₁:=λobj s₁=>obj=.ref s.heap.objs.size/\s₁={ s with heap:=s.heap.push { cls:=.type "list",data:=.seq #[] } }) PySem.F.called_list (PySem.F.typeCall_list_1 _) PySem.F.entry_list_init
  (code_list_new _ ⟨rfl,rfl⟩) λobj s₁ h₁=>?_
 obtain⟨rfl,rfl⟩:=h₁
 have hS:(s.heap.push { cls:=.type "list",data:=.seq #[] }).get? s.heap.objs.size=some { cls:=.type "list",data:=.seq #[] }:=K0 _ rfl
 refine ⟨⟨_,hS,rfl⟩,PySem.F.args_list_init_2 _ _,?_⟩
 show wpAny _ _ (do let old<-A7 (.ref s.heap.objs.size);Builtin.List.listUpdate (.ref s.heap.objs.size) (λ_=>#[]);letGo old.toList.reverse;A4 (.ref s.heap.objs.size) (.ref z) .none) _ _ _
 refine wpAny_bind ?_
 unfold A7
 refine wpAny_bind (wpAny_seqItems hS rfl (wpAny_pure ?_))
 show wpAny _ _ (updateSeq s.heap.objs.size (λ_=>#[]) >>= λ_=>letGo (#[]:Array Value).toList.reverse >>= λ_=>A4 (.ref s.heap.objs.size) (.ref z) .none) _ _ _
 refine wpAny_bind (wpAny_updateSeq hS rfl ?_)
 have hS₂:=J2 (S1 (λ_=>(#[]:Array Value))) hS rfl
 have oth:∀b o,s.heap.get? b=some o->((s.heap.push { cls:=.type "list",data:=.seq #[] }).update s.heap.objs.size (S1 (λ_=>(#[]:Array Value)))).get? b=some o :=
  λb o e=>(Y1 _ _ (j1 (B0 e))).trans (i0 _ e)
 refine wpAny_bind (wpAny_letGo ?_)
 obtain⟨o1,g1,_⟩:=h1.obj
 obtain⟨o2,g2,_⟩:=h2.obj
 refine zip_extend (A:=A.in1) hh D (B0 hz) (B0 hTI) (B0 hTO) (B0 g1) (B0 g2) (S0 b1) (S0 b2) hn1 hn2 hend hn .none _ (oth _ _ hz) (oth _ _ hTI) (oth _ _ hTO) (h1.at λo e=>oth _ _ e) (h2.at λo e=>oth _ _ e) (hl1.at λo e=>oth _ _ e) (hl2.at λo e=>oth _ _ e) hS₂ λh' tk acc c as hk hS' hl hG hacc=>?_
 exact ⟨rfl,hQ h' tk acc c as (λb o c2 c3 c4 c5 e=>hk b o (S0 (B0 e)) c2 c3 c4 c5 (oth b o e)) hS' hl hG hacc⟩
end
noncomputable def layT:Hp->List (Addr×List V)->Hp
 | H,[]=>H
 | H,(a,xs) :: r=>layT (upd H a (.tup xs)) r
theorem layT_sub:∀{ps:List (Addr×List V)}{H:Hp}{b:Addr}{o:HO},(ps.map (·.1)).Nodup->(∀p∈ps,H p.1=none)->H b=some o->layT H ps b=some o
 | [],_,_,_,_,_,e=>e
 | (a,xs) :: r,H,b,o,nd,hn,e=>by
  have nd:=M4.mp nd
  show layT (upd H a (.tup xs)) r b=some o
  refine layT_sub nd.2 (λp hp=>?_) ?_
  ·rw[upd_ne (λq=>nd.1 (U0.mpr ⟨p,hp,q⟩))]
   exact hn p (G0 _ hp)
  ·rw[upd_ne (ne_of_none e (hn _ (.head _)))];exact e
theorem layT_inv:∀{ps:List (Addr×List V)}{H:Hp}{b:Addr}{o:HO},layT H ps b=some o->H b=some o\/∃xs,(b,xs)∈ps/\o=.tup xs
 | [],_,_,_,e=>.inl e
 | (a,xs) :: r,H,b,o,e=>by
  rcases layT_inv (ps:=r) e with e|⟨ys,m,q⟩
  ·by_cases hb:b=a
   ·subst hb
    rw[upd_same]at e
    cases e
    exact .inr ⟨xs,.head _,rfl⟩
   ·rw[upd_ne hb]at e
    exact .inl e
  ·exact .inr ⟨ys,G0 _ m,q⟩
section
variable {X:Cx}{pins:List (Addr×Obj)}{σ:St}{H H':Hp}{s:Shared}{h':Heap}
theorem Inv.lays{t':Nat}(I:Inv X pins σ H s)(k:∀b u,s.heap.get? b=some u->h'.get? b=some u)(sub:∀b o,H b=some o->H' b=some o)
  (new:∀b o,H' b=some o->H b=some o\/(s.heap.objs.size<=b/\ObjOk X.prog X.w H' h' b o)):Inv X pins σ H' { s with heap:=h',toks:=t' }:=by
 refine I.un ⟨λb u q _ _ _=>k b u q,λb u q _ _ _=>⟨u.slots,k b u q⟩,λb u q n _=>?_,λb u q _=>⟨u,k b u q⟩,λb xs q=>sub _ _ q,λb u xs q=>sub _ _ q,λb ps q=>⟨#[],by rw[sub _ _ q];simp⟩⟩ λb o e=>?_
 ·cases e:H' b with
  | none=>rfl
  | some o =>
   rcases new b o e with z|⟨z,_⟩
   ·rw[n]at z;cases z
   ·exact absurd (O0 (B0 q) z) (X1 _)
 ·rcases new b o e with z|⟨_,z⟩
  ·exact (I.hok b o z).stay (λc v _ q=>k c v q) (λc q=>sub _ _ q) λc xs q=>sub _ _ q
  ·exact z
end
noncomputable def pair2:List V->List V->List (List V)
 | x :: xs,y :: ys=>[x,y] :: pair2 xs ys
 | _,_=>[]
theorem pair2_len:∀(xs ys:List V),(pair2 xs ys).length=min xs.length ys.length
 | [],_=>by simp[pair2]
 | _ :: _,[]=>by simp[pair2]
 | _ :: xs,_ :: ys=>by simp only[pair2,Z1,pair2_len xs ys];omega
theorem pair2_get:∀{xs ys:List V}{j:Nat}{x y:V},xs[j]?=some x->ys[j]?=some y->(pair2 xs ys)[j]?=some [x,y]
 | _ :: _,_ :: _,0,_,_,e,q=>by cases e;cases q;rfl
 | _ :: xs,_ :: ys,j+1,_,_,e,q=>pair2_get (xs:=xs) (ys:=ys) (j:=j) e q
 | [],_,_,_,_,e,_=>by simp at e
 | _ :: _,[],_,_,_,_,q=>by simp at q
noncomputable def tLZ(K:j0)(ta:TA):TE:=λσ H Q=>ta σ H λvs H1=>∃(k1:Kd) (l1:Addr) (ys1:List V) (k2:Kd) (l2:Addr) (ys2:List V),vs=[.ref l1,.ref l2]/\Sq k1 K H1 l1 ys1/\Sq k2 K H1 l2 ys2 /\
 ∀(ps:List (Addr×List V)) (S:Addr),(ps.map (·.1)).Nodup->(∀p∈ps,H1 p.1=none)->H1 S=none->S∉ps.map (·.1)->ps.map (·.2)=pair2 ys1 ys2->Q (.ref S) (upd (layT H1 ps) S (.lst (ps.map λp=>V.ref p.1)))
theorem pe_LZ{X:Cx}{a b:Expr}{ta:TA}{p pos p0 pos0:Pos}(hcm:X.calm=true)(hg0:Gl X "list")(hm0:X.mg "list"=none)(hg:Gl X "zip")(hm:X.mg "zip"=none)(ha:PA X [a,b] ta)
  (hs:starEach [a,b] X.env=(false,eval a X.env) :: starEach [b] X.env:=by rfl) (hpl:(backTo pos (starEach [b] X.env)).any (·.1)=false:=by rfl)
  (hs0:starEach [.Call (.Name "zip" p) [a,b] [] pos] X.env=(false,eval (.Call (.Name "zip" p) [a,b] [] pos) X.env) :: starEach [] X.env:=by rfl) (hpl0:(backTo pos0 (starEach [] X.env)).any (·.1)=false:=by rfl) :
  PE X (.Call (.Name "list" p0) [.Call (.Name "zip" p) [a,b] [] pos] [] pos0) (tLZ X.K ta):=by
 intro pins s σ H Q I h
 refine wpAny_Call_Name_kw (ld_blt I hg0 hm0 boot_list ?_ (by decide) (by decide))
 refine Q2 ?_ hs0 hpl0
 rw[hs0]
 show wpAny _ _ (spliced ((false,eval (.Call (.Name "zip" p) [a,b] [] pos) X.env) :: backTo pos0 (starEach [] X.env))) _ _ s
 refine Calls.spliced_cons ?_
 refine Call_ (ld_blt I hg hm boot_zip (Q2 (thn (ha pos pins s σ H _ I h) λus s1 ⟨vs,H1,I1,r1,q1⟩=>?_) hs hpl))
 obtain⟨k1,l1,ys1,k2,l2,ys2,e,q1,q2,q⟩:=q1
 subst e
 obtain rfl:us=[.ref l1,.ref l2]:=by
  cases r1 with|cons r rr=>cases r;cases rr with|cons r rr=>cases r;cases rr;rfl
 obtain⟨its1,rv1,p1,z1⟩:=I1.sq q1
 obtain⟨its2,rv2,p2,z2⟩:=I1.sq q2
 have lt:∀{k:Kd}{l:Addr}{xs:Array Value},SqAt k s1.heap l xs->l < s1.heap.objs.size:=λ{k l xs} p=>by
  cases k with
  | l=>obtain⟨o,e,_⟩:=p;exact B0 e
  | t=>obtain⟨o,e,_⟩:=p;exact B0 e
 refine callType_new F.called_zip (by decide) (F.typeCall_zip_2 _ _) (F.newCall_zip_2 _ _) (λobj=>F.args_object_init_3 obj _ _) F.entry_zip_new (zip_new2 k1 k2 l1 l2 its1.toArray its2.toArray) ⟨p1,p2,?_⟩
 have zI:(zh2I s1.heap k1 k2 l1 l2).objs.size=s1.heap.objs.size+2:=by simp[L1]
 have zT:(zh2T s1.heap k1 k2 l1 l2).objs.size=s1.heap.objs.size+3:=by simp[L1]
 have zO:(zh2O s1.heap k1 k2 l1 l2).objs.size=s1.heap.objs.size+4:=by simp[L1]
 have zZ:(zh2Z s1.heap k1 k2 l1 l2).objs.size=s1.heap.objs.size+5:=by simp[L1]
 have gZ:(zh2Z s1.heap k1 k2 l1 l2).get? (zh2O s1.heap k1 k2 l1 l2).objs.size=some _:=K0 _ rfl
 have gO:(zh2Z s1.heap k1 k2 l1 l2).get? (zh2T s1.heap k1 k2 l1 l2).objs.size=some _:=i0 _ (K0 _ rfl)
 have gT:(zh2Z s1.heap k1 k2 l1 l2).get? (zh2I s1.heap k1 k2 l1 l2).objs.size=some _:=i0 _ (i0 _ (K0 _ rfl))
 have g1:(zh2Z s1.heap k1 k2 l1 l2).get? s1.heap.objs.size=some (itObj k1 l1):=i0 _ (i0 _ (i0 _ (i0 _ (K0 _ (by cases k1<;>rfl)))))
 have g2:(zh2Z s1.heap k1 k2 l1 l2).get? (s1.heap.push (itObj k1 l1)).objs.size=some (itObj k2 l2):=i0 _ (i0 _ (i0 _ (K0 _ (by cases k2<;>rfl))))
 have zz2:(s1.heap.push (itObj k1 l1)).objs.size=s1.heap.objs.size+1:=by simp[L1]
 rw[zO,zT,zI]at gZ
 rw[zI,zz2]at gT
 rw[zT]at gO
 rw[zz2]at g2
 show _/\_
 rw[zO]
 have kp:∀b o,s1.heap.get? b=some o->(zh2Z s1.heap k1 k2 l1 l2).get? b=some o:=λb o e=>i0 _ (i0 _ (i0 _ (i0 _ (i0 _ (e)))))
 refine ⟨⟨_,gZ,rfl⟩,Calls.spliced_nil ?_⟩
 have len1:=rv1.length
 have len2:=rv2.length
 have D:=zap2 s1.heap.objs.size l1 l2 (lt p1) (lt p2)
 refine call_list_zip2 (s:={ s1 with heap:=zh2Z s1.heap k1 k2 l1 l2 }) (xs1:=its1.toArray) (xs2:=its2.toArray) (n:=min ys1.length ys2.length) (I1.ok.hd hcm) D (by simp only[L0];omega) (by simp only[L0];omega) ?_ (by omega) gZ gT gO (ItAt.new k1 g1) (ItAt.new k2 g2)
  (p1.at λo e=>kp _ _ e) (p2.at λo e=>kp _ _ e) (by show l1 < (zh2Z s1.heap k1 k2 l1 l2).objs.size;rw[zZ];exact O0 (lt p1) (j3 _ _)) (by show l2 < (zh2Z s1.heap k1 k2 l1 l2).objs.size;rw[zZ];exact O0 (lt p2) (j3 _ _)) ?_
 ·rcases Nat.le_total ys1.length ys2.length with g|g
  ·exact .inl (by rw[P4 g];simp;omega)
  ·exact .inr (by rw[i6 g];simp;omega)
 intro h' tk acc c as hk hS hl hG hacc
 dsimp only at hk hS hG ⊢
 rw[zZ]at hS hG ⊢
 have hk':∀b o,s1.heap.get? b=some o->h'.get? b=some o:=λb o e=>by
  have hb:=B0 e
  exact hk b o (S0 (O0 hb (j3 _ _))) (S0 (O0 hb (j3 _ _))) (S0 hb) (S0 (O0 hb (j3 _ _))) (kp b o e)
 have hps:as.length=(pair2 ys1 ys2).length:=by rw[pair2_len];exact hl
 have ps1:(as.zip (pair2 ys1 ys2)).map (·.1)=as:=List.map_fst_zip (by omega)
 have ps2:(as.zip (pair2 ys1 ys2)).map (·.2)=pair2 ys1 ys2:=List.map_snd_zip (by omega)
 have nd:as.Nodup:=hG.rise.imp λh=>S0 h
 have ab:∀a∈as,s1.heap.objs.size<=a:=λa m=>G5 (E3 (j3 _ 5) (hG.above a m))
 have hn:∀p∈as.zip (pair2 ys1 ys2),H1 p.1=none:=λp m=>I1.hok.fresh (ab _ (N4 (a:=p.1) (b:=p.2) m).1)
 have nd':((as.zip (pair2 ys1 ys2)).map (·.1)).Nodup:=by rw[ps1];exact nd
 have hSn:H1 (s1.heap.objs.size+5)=none:=I1.hok.fresh (j3 _ _)
 have hSa:s1.heap.objs.size+5∉(as.zip (pair2 ys1 ys2)).map (·.1):=by rw[ps1];exact λm=>X1 _ (hG.above _ m)
 refine ⟨.ref (s1.heap.objs.size+5),_,?_,rfl,q (as.zip (pair2 ys1 ys2)) _ nd' hn hSn hSa ps2⟩
 have hLS:layT H1 (as.zip (pair2 ys1 ys2)) (s1.heap.objs.size+5)=none:=by
  cases e:layT H1 (as.zip (pair2 ys1 ys2)) (s1.heap.objs.size+5) with
  | none=>rfl
  | some o =>
   rcases layT_inv e with z|⟨xs,m,_⟩
   ·rw[hSn]at z;cases z
   ·exact absurd (U0.mpr ⟨_,m,rfl⟩) hSa
 have sub:∀b o,H1 b=some o->upd (layT H1 (as.zip (pair2 ys1 ys2))) (s1.heap.objs.size+5) (.lst ((as.zip (pair2 ys1 ys2)).map λp=>V.ref p.1)) b=some o:=λb o e=>by
  rw[upd_ne (ne_of_none e hSn)]
  exact layT_sub nd' hn e
 refine I1.lays (t':=tk) hk' sub λb o e=>?_
 by_cases hb:b=s1.heap.objs.size+5
 ·subst hb
  rw[upd_same]at e
  cases e
  refine .inr ⟨j3 _ _,?_,acc.toList,c,?_,by simpa using hS⟩
  ·rw[A0,<- A0 (f:=(·.1)),ps1];omega
  ·have hV:((as.zip (pair2 ys1 ys2)).map λp=>V.ref p.1)=as.map V.ref:=by
    have e:((as.zip (pair2 ys1 ys2)).map λp=>V.ref p.1)=((as.zip (pair2 ys1 ys2)).map (·.1)).map V.ref:=by rw[T1];rfl
    rw[e,ps1]
   rw[hacc,hV]
   have:∀l:List Addr,Vals (l.map V.ref) (l.map G2):=λl=>by
    induction l with
    | nil=>exact .nil
    | cons a l ih=>exact .cons rfl ih
   exact this as
 ·rw[upd_ne hb]at e
  rcases layT_inv e with z|⟨xs,m,rfl⟩
  ·exact .inl z
  ·obtain⟨j,hj⟩:=J4.mp m
   obtain⟨ha',hp'⟩:=U3.mp hj
   obtain⟨x,y,e1,e2,e3⟩:=hG.pairs j b ha'
   obtain⟨x',f1,r1'⟩:=rv1.getV (by simpa using e1)
   obtain⟨y',f2,r2'⟩:=rv2.getV (by simpa using e2)
   have:=pair2_get f1 f2
   rw[hp']at this
   cases this
   exact .inr ⟨ab _ (Q1 ha'),by show 2<=sizeLine;decide,[x,y],.cons r1' (.cons r2' .nil),_,e3,rfl,_,rfl,rfl⟩
end L2
namespace L3
open PySem PySem.Spec L2
theorem hu2_of{A:Around}{k:Nat}(hr:Room k A):A.units+2 < cLine:=E3 (Nat.add_le_add_left (by decide:2<=64) _) hr.units
noncomputable def sqD:D->Option (List D)
 | .list ds=>some ds
 | .tuple ds=>some ds
 | _=>none
section
variable {K:Fg}{F H:Hp}
theorem At.seq{v:V}{d:D}{ds:List D}(s:Sub F H)(h:At K F H v d)(e:sqD d=some ds):∃k a xs,v=.ref a/\Sq k K H a xs/\DaAll K F xs ds:=by
 cases d<;>first|cases e|skip
 ·obtain⟨a,xs,rfl,e1,d1⟩:=h.list s
  exact ⟨.l,a,xs,rfl,SqL.of e1,d1⟩
 ·obtain⟨a,xs,rfl,_,e1,d1⟩:=h.tuple s
  exact ⟨.t,a,xs,rfl,SqT.of e1,d1⟩
theorem layT_rel{G:Gh}{σ:St}{ρ:Ev}:∀{ps:List (Addr×List V)}{ys1 ys2:List V}{ds es:List D}{F H:Hp},Rel K G F σ H ρ->(ps.map (·.1)).Nodup->(∀p∈ps,H p.1=none)->ps.map (·.2)=pair2 ys1 ys2->DaAll K F ys1 ds->DaAll K F ys2 es ->
  ∃F',Sub F F'/\Rel K G F' σ (layT H ps) ρ/\DaAll K F' (ps.map λp=>V.ref p.1) ((ds.zip es).map λp=>K2 [p.1,p.2])
 | [],ys1,ys2,ds,es,F,H,R,_,_,e,d1,d2=>by
  refine ⟨F,Sub.refl _,R,?_⟩
  have:(ds.zip es)=[]:=by
   cases d1 with
   | nil=>rfl
   | cons _ _=>cases d2 with
    | nil=>simp
    | cons _ _=>simp[pair2]at e
  rw[this]
  exact .nil
 | (a,xs) :: r,ys1,ys2,ds,es,F,H,R,nd,hn,e,d1,d2=>by
  cases d1 with
  | nil=>simp[pair2]at e
  | @cons x ys1 d ds h1 t1 =>
   cases d2 with
   | nil=>simp[pair2]at e
   | @cons y ys2 d' es h2 t2 =>
    simp only[pair2,K1,List.cons.injEq]at e
    obtain⟨e0,e⟩:=e
    have e0:xs=[x,y]:=e0
    subst e0
    have nd:=M4.mp nd
    obtain⟨sb,R1,da⟩:=R.newTup (a:=a) (xs:=[x,y]) (ds:=[d,d']) (hn _ (.head _)) (.cons h1 (.cons h2 .nil))
    obtain⟨F',sb',R',da'⟩:=layT_rel (ps:=r) R1 nd.2 (λp hp=>by
      rw[upd_ne (λq=>nd.1 (U0.mpr ⟨p,hp,q⟩))]
      exact hn p (G0 _ hp)) e (t1.mono sb) (t2.mono sb)
    exact ⟨F',sb.trans sb',R',.cons (da.mono sb') da'⟩
end
noncomputable def rLZ(K:Fg):List V->Hp->VK->Prop:=λvs H1 Q=>∃(k1:Kd) (l1:Addr) (ys1:List V) (k2:Kd) (l2:Addr) (ys2:List V),vs=[.ref l1,.ref l2]/\Sq k1 K H1 l1 ys1/\Sq k2 K H1 l2 ys2 /\
 ∀(ps:List (Addr×List V)) (S:Addr),(ps.map (·.1)).Nodup->(∀p∈ps,H1 p.1=none)->H1 S=none->S∉ps.map (·.1)->ps.map (·.2)=pair2 ys1 ys2->Q (.ref S) (upd (layT H1 ps) S (.lst (ps.map λp=>V.ref p.1)))
noncomputable def fLZ:D->D->(Sl->Prop)->Prop:=λd e Q=>∃ds es,sqD d=some ds/\sqD e=some es/\Q (.ow (.list ((ds.zip es).map λp=>K2 [p.1,p.2])))
theorem ok_LZ{K:Fg}:OpOk K (rLZ K) (o2 fLZ):=by
 intro G F σ H ρ vs ds Q Qd R ha w k
 rcases ds with _|⟨d,_|⟨e,_|⟨e3,ds⟩⟩⟩<;>first|exact w.elim|skip
 ·obtain⟨v1,v2,rfl,h1,h2⟩:=ha.two
  obtain⟨ds,es,e1,e2,w⟩:=w
  obtain⟨k1,l1,ys1,rfl,q1,d1⟩:=h1.seq R.sub e1
  obtain⟨k2,l2,ys2,rfl,q2,d2⟩:=h2.seq R.sub e2
  refine ⟨k1,l1,ys1,k2,l2,ys2,rfl,q1,q2,λps S nd hn hS hSp hp=>?_⟩
  obtain⟨F',sb,R',da⟩:=layT_rel R nd hn hp d1 d2
  have hS':layT H ps S=none:=by
   cases e:layT H ps S with
   | none=>rfl
   | some o =>
    rcases layT_inv e with z|⟨xs,m,_⟩
    ·rw[hS]at z;cases z
    ·exact absurd (U0.mpr ⟨_,m,rfl⟩) hSp
  obtain⟨R2,r2⟩:=R'.newOw (o:=.lst _) (d:=.list _) hS' da
  exact k _ _ F' _ sb R2 r2 w
section
variable {X:Cx}{K:Fg}{e e1 e2:Expr}{a b:AD}{p pos pos' p2:Pos}
theorem w_LZ(hK:X.K=K)(hc:X.calm=true)(hm:X.mg "list"=none)(hm2:X.mg "zip"=none)(ha:WA X [e1,e2] (tArgs ([a,b].map (argT K))))(hg:Gl X "list":=by rfl)(hg2:Gl X "zip":=by rfl)(he:notStar e1=true:=by rfl)(he2:notStar e2=true:=by rfl) :
  WE X (.Call (.Name "list" p) [.Call (.Name "zip" p2) [e1,e2] [] pos'] [] pos) (lift K (dOp [a,b] (o2 fLZ))):=by
 subst hK
 exact ⟨peM (pe_LZ hc hg hm hg2 hm2 ha.h (starEach_of he) (plain_of (by simp[he2])) (starEach_of rfl) (plain_of rfl)) λq=>l_op ok_LZ q⟩
end
mutual
theorem noMix_self:∀d:D,plainD d=true->SeqAt.noMix d d=true
 | .none,_=>by simp[SeqAt.noMix]
 | .bool _,_=>by simp[SeqAt.noMix]
 | .int _,_=>by simp[SeqAt.noMix]
 | .str _,_=>by simp[SeqAt.noMix]
 | .list xs,h=>by simp[SeqAt.noMix];exact noMixAll_self xs (by simpa [plainD]using h)
 | .tuple xs,h=>by simp[SeqAt.noMix];exact noMixAll_self xs (by simpa [plainD]using h)
 | .dict _,h=>by simp[plainD]at h
theorem noMixAll_self:∀xs:List D,plainAll xs=true->SeqAt.noMixAll xs xs=true
 | [],_=>by simp[SeqAt.noMixAll]
 | x :: xs,h=>by
  simp[plainAll]at h
  simp[SeqAt.noMixAll]
  exact ⟨noMix_self x h.1,noMixAll_self xs h.2⟩
end
structure Nice(n:Nat)(d:D):Prop where
 p:plainD d=true
 c:d.canLay0=true
 d:d.depth<=n
theorem Nice.mono{n m:Nat}{d:D}(h:Nice n d)(k:n<=m):Nice m d:=⟨h.p,h.c,O1 h.d k⟩
theorem Nice.int(n:Nat)(i:Int):Nice n (.int i):=⟨rfl,by simp[L6],by simp[v7]⟩
theorem nice_all{n:Nat}:∀{l:List D},(∀d∈l,Nice n d)->plainAll l=true/\Y6 l=true/\G7 l<=n
 | [],_=>⟨rfl,by simp[Y6],by simp[G7]⟩
 | x :: l,h=>by
  have h1:=h x M0
  have h2:=nice_all (l:=l) λd hd=>h d (G0 _ hd)
  refine ⟨by simp[plainAll,h1.p,h2.1],by simp[Y6,h1.c,h2.2.1],?_⟩
  have:=h1.d
  have:=h2.2.2
  simp[G7]
  omega
theorem Nice.list{n:Nat}{l:List D}(h:∀d∈l,Nice n d):Nice (n+1) (.list l):=by
 obtain⟨a,b,c⟩:=nice_all h
 exact ⟨by simp[plainD,a],by simp[L6,b],by simp[v7];omega⟩
theorem Nice.tuple{n:Nat}{l:List D}(h:∀d∈l,Nice n d):Nice (n+1) (.tuple l):=by
 obtain⟨a,b,c⟩:=nice_all h
 exact ⟨by simp[plainD,a],by simp[L6,b],by simp[v7];omega⟩
theorem Nice.ints(l:List Int):Nice 1 (.list (l.map q0)):=.list λd hd=>by
 obtain⟨i,_,rfl⟩:=U0.mp hd
 exact .int 0 i
theorem Nice.tup(l:List Int):Nice 1 (.tuple (l.map q0)):=.tuple λd hd=>by
 obtain⟨i,_,rfl⟩:=U0.mp hd
 exact .int 0 i
theorem Nice.sh{n:Nat}{d:D}(h:Nice n d)(k:n<=64):SeqAt.shaped d=true:=by
 have:=h.d
 unfold SeqAt.shaped
 rw[h.c]
 simp
 omega
end L3
namespace L2
open PySem PySem.Spec PyProof.Rows
noncomputable def rIsi2(K:j0):List V->Hp->VK->Prop:=λxs H Q=>∃(x:V) (k:Ki) (T:Ki),xs=[x,.ty T.nm]/\(KiOf K H x k\/∃a,x=.ref a/\k=.dct/\IsD H a)/\Q (.bl (k.sub T)) H
theorem call_isi2{X:Cx}:CallR X (.builtin "isinstance") (rIsi2 X.K):=by
 intro pins s σ H xs us Q I r h
 obtain⟨x,k,T,rfl,hk,q⟩:=h
 rcases hk with hk|⟨a,rfl,rfl,hd⟩
 ·exact call_isi pins s σ H _ us Q I r ⟨x,k,T,rfl,hk,q⟩
 ·obtain⟨u,w',rfl,ru,rw'⟩:=vals2 r
  obtain rfl:w'=.type T.nm:=rw'
  cases ru
  have ht:s.TypeIs (.ref a) Ki.dct.nm:=(isD_at I hd).1
  cases hs:Ki.dct.sub T with
  | true =>
   rw[hs]at q
   exact call_isinstance (isinstance_true (Tx:=Ki.dct.nm) (ki_meta T) (by rw[ki_sub,hs])) ⟨ht,.bl true,H,I,rfl,q⟩
  | false =>
   rw[hs]at q
   have hsub:isSubtype (.type Ki.dct.nm) (.type T.nm)=pure false:=by rw[ki_sub,hs]
   have hne:=ki_ne Ki.dct T hs
   have fin:EP X pins σ Q (.bool false) { s with toks:=s.toks+1 }:=⟨.bl false,H,I.tok _,rfl,q⟩
   exact call_isinstance (isinstance_false_dict hne (ki_meta T) hsub) ⟨ht,fin⟩
inductive PrsT (H:Hp):List (V×V)->List (List Key×V)->Prop
 | nil:PrsT H [] []
 | cons {b ks v ps kvs}:H b=some (.tup (ks.map kV))->PrsT H ps kvs->PrsT H ((.ref b,v) :: ps) ((ks,v) :: kvs)
section
variable {X:Cx}{pins:List (Addr×Obj)}{σ:St}{a:Addr}{E:Value->Shared->Prop}
end
end L2
namespace L3
open PySem PySem.Spec PyProof.Rows L2
noncomputable def notScr:List (D×D)->Bool
 | (.none,_) :: _=>false
 | (.bool _,_) :: _=>false
 | _=>true
noncomputable def dNever:TDS:=λ_ _=>False
noncomputable def fIsiA(T:Ki):D->(Sl->Prop)->Prop
 | .dict es,Q=>notScr es=true/\Q (.fz (.bool (Ki.dct.sub T)))
 | d,Q=>Q (.fz (.bool ((kiD d).sub T)))
theorem At.isD{K:Fg}{F H:Hp}{v:V}{es:List (D×D)}(s:Sub F H)(h:At K F H v (.dict es))(hn:notScr es=true):∃a,v=.ref a/\IsD H a:=by
 rcases h with h|⟨a,o,rfl,_,e,h⟩
 ·cases h with
  | dk r t=>exact ⟨_,rfl,.inl ⟨_,s.rd r⟩⟩
  | dt r t=>exact ⟨_,rfl,.inr ⟨_,s.rd r⟩⟩
  | scr q=>simp[notScr]at hn
  | exc q=>simp[notScr]at hn
  | opq q=>simp[notScr]at hn
  | pd q t=>simp[notScr]at hn
  | bd q t=>simp[notScr]at hn
 ·cases o with
  | ext φ=>obtain⟨a',ep,xs,ps,z,z2,t⟩:=h.ext;injection z2 with z2;rw[z2]at hn;simp[notScr]at hn
  | _=>first|exact h.elim|exact ⟨_,rfl,.inl ⟨_,.inl e⟩⟩|exact ⟨_,rfl,.inr ⟨_,.inl e⟩⟩
theorem ok_isiA{K:Fg}{T:Ki}:OpOk K (λvs H Q=>∃x,vs=[x]/\rIsi2 K [x,.ty T.nm] H Q) (o1 (fIsiA T)):=ok1 λG F σ H ρ x d Q Qd R h1 w k=>by
 have go:∀(ki:Ki),KiOf K H x ki->Qd (.fz (.bool (ki.sub T)))->∃x',[x]=[x']/\rIsi2 K [x',.ty T.nm] H Q:=λki h w=>⟨x,rfl,x,ki,T,rfl,.inl h,k _ H F (.fz _) (Sub.refl _) R (Da.bl _) w⟩
 match d,h1,w with
 | .none,h1,w=>cases h1.none;exact go .non rfl w
 | .bool b,h1,w=>cases h1.bool;exact go .bl rfl w
 | .int i,h1,w=>cases h1.int;exact go .int rfl w
 | .str z,h1,w=>cases h1.str;exact go .str rfl w
 | .list ds,h1,w =>
  obtain⟨a,us,rfl,e1,d1⟩:=h1.list R.sub
  exact go .lst (.inl ⟨rfl,us,SqL.of e1⟩) w
 | .tuple ds,h1,w =>
  obtain⟨a,us,rfl,_,e1,d1⟩:=h1.tuple R.sub
  exact go .tup (.inr (.inl ⟨rfl,us,SqT.of e1⟩)) w
 | .dict es,h1,w =>
  obtain⟨a,rfl,hd⟩:=h1.isD R.sub w.1
  exact ⟨_,rfl,_,.dct,T,rfl,.inr ⟨a,rfl,rfl,hd⟩,k _ H F (.fz _) (Sub.refl _) R (Da.bl _) w.2⟩
section
variable {X:Cx}{K:Fg}{e e1 e2:Expr}{a b:AD}{ta tb:TD}{st:Stmt}{p pos p2 pos' px py pt:Pos}{x y:Str}
theorem s_never:WS X st (liftS K dNever):=⟨λpins s σ H D I h=>by obtain⟨G,F,ρ,E,R,w,_⟩:=h;exact w.elim⟩
theorem w_isiA(T:Ki)(hK:X.K=K)(hm:X.mg "isinstance"=none){y:Str}(hm2:X.mg y=none)(hv2:bootBuiltins y=some (.type T.nm))(ha:WE X e1 (argT K a))(hg:Gl X "isinstance":=by rfl)(hg2:Gl X y:=by rfl)(hy:y ≠ "__name__":=by decide)(hy2:(y==("__debug__":Str))=false:=by decide)(he:notStar e1=true:=by rfl) :
  WE X (.Call (.Name "isinstance" p) [e1,.Name y p2] [] pos) (lift K (dOp [a] (o1 (fIsiA T)))):=by
 subst hK
 exact ⟨peM (pe_callB call_isi2 hg hm boot_isinstance (pa_cons ha.h (pa_cons (pe_bltn hg2 hm2 hv2 (v:=.ty T.nm) rfl hy hy2) pa_nil (starEach_of rfl)) (starEach_of he)) (by decide) (by decide) (starEach_of he) (plain_of rfl)) λq=>arg1 (P:=λx H1=>rIsi2 X.K [x,.ty T.nm] H1 _) (l_op ok_isiA q)⟩
end
end L3
namespace L2
open PySem PySem.Spec PyProof.Rows
section
variable {X:Cx}
theorem op_isnotB:OpR X (compareOp .IsNot) (λx y H Q=>∃c d,x=.bl c/\y=.bl d/\Q (.bl (!(c==d))) H):=by
 intro pins s σ H x y v u Q I rx ry h
 obtain⟨c,d,rfl,rfl,q⟩:=h
 cases rx
 cases ry
 exact isnot_bool ⟨.bl _,H,I,rfl,q⟩
end
end L2
namespace L3
open PySem PySem.Spec PyProof.Rows L2
noncomputable def fIsB:D->D->(Sl->Prop)->Prop
 | .bool c,.bool d,Q=>Q (.fz (.bool (c==d)))
 | _,_,_=>False
noncomputable def fIsnB:D->D->(Sl->Prop)->Prop
 | .bool c,.bool d,Q=>Q (.fz (.bool (!(c==d))))
 | _,_,_=>False
theorem ok_isnB{K:Fg}:OpOk K (r2L λx y H Q=>∃c d,x=.bl c/\y=.bl d/\Q (.bl (!(c==d))) H) (o2 fIsnB):=ok2 λG F σ H ρ x y d e Q Qd R h1 h2 w k=>by
 cases d<;>first|exact w.elim|skip
 cases e<;>first|exact w.elim|skip
 case bool.bool c d =>
  cases h1.bool
  cases h2.bool
  exact ⟨c,d,rfl,rfl,k _ H F (.fz _) (Sub.refl _) R (Da.bl _) w⟩
section
variable {X:Cx}{K:Fg}{x:Str}{pos:Pos}
theorem w_gint{n:Int}(hm:∃t,X.mg x=some (.int n t))(hg:Gl X x:=by rfl)(hd:(x==("__debug__":Str))=false:=by decide):WE X (.Name x pos) (lift K (dC (.int n))):=by
 obtain⟨t,hm⟩:=hm
 exact ⟨cv_c (λ_=>.int _) (pe_glob hg hm ⟨t,rfl⟩ hd)⟩
end
end L3
namespace L2
open PySem PySem.Spec PyProof.Rows
noncomputable def tyLT:Obj:={ cls:=.type "tuple",data:=.seq #[.type "list",.type "tuple"] }
noncomputable def tTyT:TE:=λ_ H Q=>∀p,H p=none->Q (.ref p) (upd H p (.frz tyLT (.tup [.ty "list",.ty "tuple"])))
theorem pe_tyT{X:Cx}{p2 p3 pos:Pos}{k:Nat}(hm1:X.mg "list"=none)(hm2:X.mg "tuple"=none)(hg1:Gl X "list")(hg2:Gl X "tuple"):PE X (.Tuple [.Name "list" p2,.Name "tuple" p3] k pos) tTyT:=by
 intro pins s σ H Q I hq
 have h:PA X [.Name "list" p2,.Name "tuple" p3] (tCons (tC (.ty "list")) (tCons (tC (.ty "tuple")) tNil)) :=
  pa_cons (pe_bltn hg1 hm1 boot_list (v:=.ty "list") rfl) (pa_cons (pe_bltn hg2 hm2 boot_tuple (v:=.ty "tuple") rfl) pa_nil (L3.starEach_of rfl)) (L3.starEach_of rfl)
 refine wpAny_Tuple_spliced (thn (h pos pins s σ H (λxs H1=>xs=[.ty "list",.ty "tuple"]/\H1=H) I ⟨rfl,rfl⟩) λus s1 ⟨xs,H1,I1,r,ex,eH⟩=>?_)
 subst ex eH
 have r0:=r
 obtain⟨u1,u2,rfl,r1,r2⟩:=vals2 r
 obtain rfl:u1=.type "list":=r1
 obtain rfl:u2=.type "tuple":=r2
 have z:([V.ty "list",V.ty "tuple"]:List V).length<=sizeLine:=by show 2<=sizeLine;decide
 refine ⟨by show 2<=sizeLine;decide,?_⟩
 have hf:=I1.hok.fresh (N0 s1.heap.objs.size)
 exact ⟨.ref s1.heap.objs.size,upd H1 s1.heap.objs.size (.frz tyLT (.tup [.ty "list",.ty "tuple"])),I1.laid (t':=s1.toks) (λb u e=>i0 _ e) (N0 _) ⟨K0 _ rfl,z,_,r0,⟨_,K0 _ rfl,rfl,_,rfl,rfl⟩⟩,rfl,hq _ hf⟩
end L2
namespace L3
open PySem PySem.Spec PyProof.Rows L2
section
variable {X:Cx}{K:Fg}{e1:Expr}{a:AD}{p pos p2 p3 p4:Pos}
end
theorem len_ofString(s:String):(Str.ofString s).length=s.length:=by
 rw[Str.ofString_eq_toList]
 simp only[Str.length,L0,A0]
 first|rfl|exact String.length_toList|exact String.length_toList _|simp
theorem shown_int{i:Int}{k:Nat}(hk:0 < k)(h:i.natAbs < 10 ^ k):(q0 i).shown.length<=k+1:=by
 show (Str.ofString (toString i)).length<=k+1
 rw[len_ofString]
 cases i with
 | ofNat n =>
  show (Nat.repr n).length<=k+1
  have:=(B7 (n:=n) hk).mpr h
  omega
 | negSucc m =>
  show ("-"++Nat.repr (m+1)).length<=k+1
  have h1:m+1 < 10 ^ k:=by simpa using h
  have:=(B7 (n:=m+1) hk).mpr h1
  rw[String.length_append]
  have e:("-":String).length=1:=by decide
  omega
theorem join_len(sep:Str)(b:Nat):∀ts:List Str,(∀t∈ts,t.length<=b)->(Str.join sep ts).length<=ts.length * (b+sep.length)
 | [],_=>by simp[Str.join,Str.length,Str.empty]
 | [x],h=>by
  have:=h x M0
  show x.length<=_
  simp
  omega
 | x :: y :: r,h=>by
  have h1:=h x M0
  have h2:=join_len sep b (y :: r) λt ht=>h t (G0 _ ht)
  show (x++sep++Str.join sep (y :: r)).length<=_
  rw[Str.length_append,Str.length_append,Z1,E6]
  omega
theorem shownAll_map:∀l:List D,P5 l=l.map Z4
 | []=>rfl
 | x :: l=>by simp[P5,shownAll_map l]
theorem shown_tuple{b:Nat}{l:List D}(h:∀d∈l,d.shown.length<=b):(K2 l).shown.length<=l.length * (b+2)+3:=by
 show (tupleText (P5 l)).length<=_
 rw[shownAll_map]
 have hj:=join_len (Str.ofString ", ") b (l.map Z4) λt ht=>by
  obtain⟨d,hd,rfl⟩:=U0.mp ht
  exact h d hd
 rw[A0,len_ofString]at hj
 have e2:(", ":String).length=2:=by decide
 rw[e2]at hj
 unfold tupleText
 rw[Str.length_append,Str.length_append,len_ofString,len_ofString]
 have e1:("(":String).length=1:=by decide
 have e3:(if (((l.map Z4).length==1)=true) then ",)" else ")":String).length<=2:=by split<;>decide
 omega
theorem shown_list{b:Nat}{l:List D}(h:∀d∈l,d.shown.length<=b):(Q3 l).shown.length<=l.length * (b+2)+3:=by
 have gen:∀(ts:List Str) (k:Nat) (acc:Str),(∀t∈ts,t.length<=b)->(textFrom k acc ts).length<=acc.length+ts.length * (b+2):=by
  intro ts
  induction ts with
  | nil=>intro k acc _;simp[textFrom]
  | cons t ts ih =>
   intro k acc ht
   have h1:=ht t M0
   have h2:=ih (k+1) (acc++Str.ofString (if k > 0 then ", " else "")++t) λx hx=>ht x (G0 _ hx)
   rw[Str.length_append,Str.length_append,len_ofString]at h2
   have e3:(if k > 0 then ", " else "":String).length<=2:=by split<;>decide
   show (textFrom (k+1) (acc++Str.ofString (if k > 0 then ", " else "")++t) ts).length<=_
   rw[Z1,E6]
   omega
 show (listText (P5 l)).length<=_
 rw[shownAll_map]
 have hg:=gen (l.map Z4) 0 (Str.ofString "[") λt ht=>by
  obtain⟨d,hd,rfl⟩:=U0.mp ht
  exact h d hd
 unfold listText
 rw[Str.length_append,len_ofString]
 rw[len_ofString,A0]at hg
 have e1:("[":String).length=1:=by decide
 have e2:("]":String).length=1:=by decide
 omega
theorem showableAll_of:∀{l:List D},(∀d∈l,d.showable=true)->h8 l=true
 | [],_=>rfl
 | x :: l,h=>by
  simp[h8,h x M0]
  exact showableAll_of λd hd=>h d (G0 _ hd)
theorem showable_int{i:Int}{k:Nat}(h:i.natAbs < 2 ^ k)(hk:k<=1920):(q0 i).showable=true:=by
 show decide (i.natAbs.log2 < 1920)=true
 refine decide_eq_true ?_
 by_cases h0:i.natAbs=0
 ·rw[h0];decide
 ·exact O0 ((Nat.log2_lt h0).mpr h) hk
end L3
namespace L2
open PySem PySem.Spec PyProof.Rows
noncomputable def unV:V->Int
 | .int i=>i
 | _=>0
theorem unV_ints(l:List Int):(l.map V.int).map unV=l:=by rw[T1];exact y8 l
theorem ints_inj{l m:List Int}(e:l.map V.int=m.map V.int):l=m:=by rw[<- unV_ints l,<- unV_ints m,e]
noncomputable def evT(H:Hp)(p:List Int)(y:Value):Bool:=@decide (∃c,y=.ref c/\H c=some (.tup (p.map V.int))) (Classical.propDecidable _)
theorem vals_intsAt{ns:List Int}{us:List Value}(r:Vals (ns.map V.int) us){k:Nat}(h:k < us.length):∃t,us[k]=.int (ns.getD k 0) t:=by
 have hl:=r.length
 rw[A0]at hl
 have hk:k < ns.length:=by omega
 obtain⟨u,hu,ru⟩:=r.get (i:=k) (x:=.int ns[k]) (by rw[W0,J0 hk];rfl)
 obtain⟨t,e⟩:=ru
 rw[J0 h]at hu
 have hu:=V1 hu
 refine ⟨t,?_⟩
 rw[hu,e,Q0,J0 hk]
 rfl
end L2
namespace L3
open PySem PySem.Spec PyProof.Rows L2
theorem DaAll.ints_of{K:Fg}{F:Hp}{ys:List V}{p:List Int}(h:DaAll K F ys (p.map q0)):ys=p.map V.int:=by
 have e:p.map q0=(p.map λn=>(.inl n:Key)).map keyD:=by rw[T1];rfl
 rw[e]at h
 have:=h.keys
 rw[this,T1];rfl
noncomputable def rSlHiL(K:Fg):R2:=λx y H Q=>∃j,y=.int j/\rSlL K x none (some j) H Q
noncomputable def rSlLoL(K:Fg):R2:=λx y H Q=>∃j,y=.int j/\rSlL K x (some j) none H Q
noncomputable def fSlHiL:D->D->(Sl->Prop)->Prop
 | .list ds,.int j,Q=>Q (.ow (.list (ds.take (if j < 0 then (j+ds.length).toNat else j.toNat))))
 | _,_,_=>False
noncomputable def fSlLoL:D->D->(Sl->Prop)->Prop
 | .list ds,.int j,Q=>Q (.ow (.list (ds.drop (if j < 0 then (j+ds.length).toNat else j.toNat))))
 | _,_,_=>False
theorem sIx_take{α:Type}(us:List α)(j:Int):us.take (HT.sIx us.length us.length (some j))=us.take (if j < 0 then (j+us.length).toNat else j.toNat):=by
 show us.take (if j < 0 then (j+(us.length:Int)).toNat else min j.toNat us.length)=_
 split
 ·rfl
 ·by_cases h:j.toNat<=us.length
  ·rw[P4 h]
  ·rw[E2 (by omega),E2 (by omega)]
theorem ok_slHiL{K:Fg}:OpOk K (r2L (rSlHiL K)) (o2 fSlHiL):=ok2 λG F σ H ρ x y d e Q Qd R h1 h2 w k=>by
 match d,e,h1,h2,w with
 | .list ds,.int j,h1,h2,w =>
  cases h2.int
  obtain⟨a,us,rfl,e1,d1⟩:=h1.list R.sub
  refine ⟨j,rfl,a,us,rfl,SqL.of e1,λp hp=>?_⟩
  have e3:cutV us none (some j)=us.take (if j < 0 then (j+ds.length).toNat else j.toNat):=by
   rw[<- d1.length,<- sIx_take]
   rfl
  rw[e3]
  obtain⟨R',r'⟩:=R.newOw (o:=.lst (us.take (if j < 0 then (j+ds.length).toNat else j.toNat))) (d:=.list (ds.take (if j < 0 then (j+ds.length).toNat else j.toNat))) hp (d1.take _)
  exact k _ _ F _ (Sub.refl _) R' r' w
theorem ok_slLoL{K:Fg}:OpOk K (r2L (rSlLoL K)) (o2 fSlLoL):=ok2 λG F σ H ρ x y d e Q Qd R h1 h2 w k=>by
 match d,e,h1,h2,w with
 | .list ds,.int j,h1,h2,w =>
  cases h2.int
  obtain⟨a,us,rfl,e1,d1⟩:=h1.list R.sub
  refine ⟨j,rfl,a,us,rfl,SqL.of e1,λp hp=>?_⟩
  have hl:=d1.length
  have e3:cutV us (some j) none=us.drop (if j < 0 then (j+ds.length).toNat else j.toNat):=by
   unfold cutV
   show (us.drop (if j < 0 then (j+(us.length:Int)).toNat else min j.toNat us.length)).take (us.length - (if j < 0 then (j+(us.length:Int)).toNat else min j.toNat us.length))=_
   rw[E2 (by rw[W4];omega),hl]
   split
   ·rfl
   ·by_cases h:j.toNat<=us.length
    ·rw[P4 (by omega)]
    ·rw[O2 (by omega),O2 (by omega)]
  rw[e3]
  obtain⟨R',r'⟩:=R.newOw (o:=.lst (us.drop (if j < 0 then (j+ds.length).toNat else j.toNat))) (d:=.list (ds.drop (if j < 0 then (j+ds.length).toNat else j.toNat))) hp (d1.drop _)
  exact k _ _ F _ (Sub.refl _) R' r' w
section
variable {X:Cx}{K:Fg}{e1 e2:Expr}{a b:AD}{pos p2:Pos}
theorem w_slHiL(hK:X.K=K)(ha:WE X e1 (argT K a))(hb:WE X e2 (argT K b)):WE X (.Subscript e1 (.Slice none (some e2) none p2) pos) (lift K (dOp [a,b] (o2 fSlHiL))):=by
 subst hK
 exact ⟨peM (pe_slice sl_list ha.h po_none (po_some hb.h)) λq=>arg2 (P:=λx y H=>rSlHiL X.K x y H _) (l_op ok_slHiL q)⟩
theorem w_slLoL(hK:X.K=K)(ha:WE X e1 (argT K a))(hb:WE X e2 (argT K b)):WE X (.Subscript e1 (.Slice (some e2) none none p2) pos) (lift K (dOp [a,b] (o2 fSlLoL))):=by
 subst hK
 exact ⟨peM (pe_slice sl_list ha.h (po_some hb.h) po_none) λq=>arg2 (P:=λx y H=>rSlLoL X.K x y H _) (l_op ok_slLoL q)⟩
end
end L3
namespace L2
open PySem PySem.Spec PyProof.Rows
noncomputable def rSortI(K:j0):List V->Hp->VK->Prop:=λxs H Q=>∃(a:Addr) (ns:List Int),xs=[.ref a]/\SqL K H a (ns.map V.int)/\ns.length < 64 /\
 ∀(p:Addr) (ns':List Int),H p=none->ns'.Perm ns->ns'.Pairwise (·<=·)->Q (.ref p) (upd H p (.lst (ns'.map V.int)))
theorem vals_of_ints:∀{vs:List Value}{ns:List Int},IntsAre vs ns->Vals (ns.map V.int) vs
 | _,_,.nil=>.nil
 | _,_,.cons n t r=>.cons ⟨t,rfl⟩ (vals_of_ints r)
theorem call_sortI{X:Cx}:CallR X (.builtin "sorted") (rSortI X.K):=by
 intro pins s σ H xs us Q I r h
 obtain⟨a,ns,rfl,hs,h64,q⟩:=h
 obtain⟨u,rfl,ru⟩:=vals1 r
 cases ru
 obtain⟨its,rv,⟨o,n,e,c,d1,d2⟩,hz⟩:=I.list hs
 have hl:=rv.length
 rw[A0]at hl
 refine sorted_ints (vs:=its) (ns:=ns) ⟨o,e,c,n,by first|exact d2|exact d1⟩ (intsAre_of rv) (by omega) λout ns' hI hp hw=>?_
 obtain⟨ep,he⟩:=sortedAll_at s.heap its out
 have hn:H (s.heap.objs.size+1)=none:=I.hok.fresh (V6 _)
 have hl2:ns'.length=ns.length:=hp.length_eq
 refine ⟨.ref (s.heap.objs.size+1),upd H (s.heap.objs.size+1) (.lst (ns'.map V.int)),I.laid (t':=s.toks) (λb u e=>sortedAll_old e) (V6 _) ?_,rfl,q _ ns' hn hp hw⟩
 exact ⟨by rw[A0,sizeLine_eq];omega,out.toList,ep,vals_of_ints hI,by rw[he]⟩
end L2
namespace L3
open PySem PySem.Spec PyProof.Rows L2
noncomputable def fSortI:D->(Sl->Prop)->Prop
 | .list ds,Q=>∃ns:List Int,ds=ns.map q0/\ns.length < 64/\∀ns':List Int,ns'.Perm ns->ns'.Pairwise (·<=·)->Q (.ow (.list (ns'.map q0)))
 | _,_=>False
theorem ok_sortI{K:Fg}:OpOk K (rSortI K) (o1 fSortI):=ok1 λG F σ H ρ x d Q Qd R h1 w k=>by
 match d,h1,w with
 | .list ds,h1,⟨ns,e,h64,w⟩ =>
  subst e
  obtain⟨a,us,rfl,e1,d1⟩:=h1.list R.sub
  have:=d1.ints_of
  subst this
  refine ⟨a,ns,rfl,SqL.of e1,h64,λp ns' hp h2 h3=>?_⟩
  obtain⟨R',r'⟩:=R.newOw (o:=.lst (ns'.map V.int)) (d:=.list (ns'.map q0)) hp (DaAll.ints ns')
  exact k _ _ F _ (Sub.refl _) R' r' (w ns' h2 h3)
theorem call_sortIK{X:Cx}{K:Fg}(h:X.K=K):CallR X (.builtin "sorted") (rSortI K):=by subst h;exact call_sortI
end L3
namespace L2
open PySem PySem.Spec PyProof.Rows
section
variable {prog:Program}{w:World}{A:Around}{E:Value->Shared->Prop}{s:Shared}
theorem min_tupD{l:Addr}{xs:Array (Int×Tok)}{Q:Value->Shared->Prop}(hh:A.handled=none)(ht:s.heap.IsTuple l (intItems xs))(hne:0 < xs.size)
  (h:∀v h' tk,(intItems xs)[argBest (λi j=>decide (numAt xs i < numAt xs j)) (xs.size - 1)]?=some v->(∀b o,s.heap.get? b=some o->h'.get? b=some o)->Q v { s with heap:=h',toks:=tk }) :
  wpAny (model prog w) A (call (.builtin "min") [.ref l]) Q E s:=by
 obtain⟨o,ho,hc,n,hd⟩:=id ht
 have hn:l≠s.heap.objs.size:=S0 (B0 ho)
 refine call_min_walk (wpAny_pyIter_tuple ht ?_)
 refine ⟨s.heap.objs.size,_,_,_,_,_,_,rfl,Walks.tuple (A:=A.in1) hh _ l hn (intItems xs),⟨⟨_,K0 _ rfl,rfl,rfl⟩,ht.push _⟩,λb hb=>?_,by simpa [intItems]using hne,CmpOf.ints_lt (numAt xs) (λ_ _=>intItems_at),λv h' tk hP hk=>?_⟩
 ·rcases B1.mp hb with rfl|hb
  ·exact B0 (K0 _ rfl)
  ·obtain rfl:=A1.mp hb
   exact B0 (i0 _ ho)
 ·exact h v h' tk (by simpa [intItems]using hP) λb o e=>hk b o (λhb=>absurd (B0 e) ((A1.mp hb) ▸ X1 _)) (i0 _ e)
theorem max_tupD{l:Addr}{xs:Array (Int×Tok)}{Q:Value->Shared->Prop}(hh:A.handled=none)(ht:s.heap.IsTuple l (intItems xs))(hne:0 < xs.size)
  (h:∀v h' tk,(intItems xs)[argBest (λi j=>decide (numAt xs i > numAt xs j)) (xs.size - 1)]?=some v->(∀b o,s.heap.get? b=some o->h'.get? b=some o)->Q v { s with heap:=h',toks:=tk }) :
  wpAny (model prog w) A (call (.builtin "max") [.ref l]) Q E s:=by
 obtain⟨o,ho,hc,n,hd⟩:=id ht
 have hn:l≠s.heap.objs.size:=S0 (B0 ho)
 refine call_max_walk (wpAny_pyIter_tuple ht ?_)
 refine ⟨s.heap.objs.size,_,_,_,_,_,_,rfl,Walks.tuple (A:=A.in1) hh _ l hn (intItems xs),⟨⟨_,K0 _ rfl,rfl,rfl⟩,ht.push _⟩,λb hb=>?_,by simpa [intItems]using hne,CmpOf.ints_gt (numAt xs) (λ_ _=>intItems_at),λv h' tk hP hk=>?_⟩
 ·rcases B1.mp hb with rfl|hb
  ·exact B0 (K0 _ rfl)
  ·obtain rfl:=A1.mp hb
   exact B0 (i0 _ ho)
 ·exact h v h' tk (by simpa [intItems]using hP) λb o e=>hk b o (λhb=>absurd (B0 e) ((A1.mp hb) ▸ X1 _)) (i0 _ e)
end
noncomputable def rMnI(K:j0):List V->Hp->VK->Prop:=λxs H Q=>∃(a:Addr) (ns:List Int),xs=[.ref a]/\(SqL K H a (ns.map V.int)\/SqT K H a (ns.map V.int))/\0 < ns.length/\∀M,M∈ns->(∀y∈ns,M<=y)->Q (.int M) H
noncomputable def rMxI(K:j0):List V->Hp->VK->Prop:=λxs H Q=>∃(a:Addr) (ns:List Int),xs=[.ref a]/\(SqL K H a (ns.map V.int)\/SqT K H a (ns.map V.int))/\0 < ns.length/\∀M,M∈ns->(∀y∈ns,y<=M)->Q (.int M) H
theorem call_mnI{X:Cx}{K:j0}(hK:X.K=K)(hc:X.calm=true):CallR X (.builtin "min") (rMnI K):=by
 subst hK
 intro pins s σ H xs us Q I r h
 obtain⟨a,ns,rfl,hq,hp,q⟩:=h
 obtain⟨u,rfl,ru⟩:=vals1 r
 cases ru
 have hh:=I.ok.hd hc
 have fin:∀{its:List Value}{zs:Array (Int×Tok)},Vals (ns.map V.int) its->its.toArray=intItems zs->0 < zs.size/\∀(v:Value) (h':Heap) (tk:Nat),(intItems zs)[argBest (λi j=>decide (numAt zs i < numAt zs j)) (zs.size - 1)]?=some v->(∀b o,s.heap.get? b=some o->h'.get? b=some o)->EP X pins σ Q v { s with heap:=h',toks:=tk }:=by
  intro its zs rv e
  have hi:IntsAre its ns:=intsAre_of rv
  have hns:ns=zs.toList.map (·.1):=by rw[<- nums_intItems,<- e];exact (show numsOf its.toArray.toList=ns from hi.numsOf).symm
  have hsz:0 < zs.size:=by have h3:=hp;rw[hns,A0,W1]at h3;exact h3
  refine ⟨hsz,λv h' tk hv hk=>?_⟩
  obtain⟨t,rfl⟩:=intItems_at hv
  obtain⟨h1,h2⟩:=argBest_lt (numAt zs) (zs.size - 1)
  refine ⟨.int _,H,I.kept hk,⟨t,rfl⟩,q _ ?_ λy hy=>?_⟩
  ·rw[hns,numAt_eq];exact getD_mem (by rw[A0,W1];omega)
  ·rw[hns]at hy
   obtain⟨j,hj,rfl⟩:=mem_getD hy
   rw[A0,W1]at hj
   rw[<- numAt_eq];exact h2 j (by omega)
 rcases hq with hq|hq
 ·obtain⟨its,rv,p,hz⟩:=I.list hq
  obtain⟨zs,hx⟩:=(intsAre_of rv).allInts.items
  obtain⟨hs,f⟩:=fin rv hx
  exact min_intList hh (hx ▸ p.isList) hs f
 ·obtain⟨its,rv,p,hz⟩:=I.tuple hq
  obtain⟨zs,hx⟩:=(intsAre_of rv).allInts.items
  obtain⟨hs,f⟩:=fin rv hx
  exact min_tupD hh (show s.heap.IsTuple a (intItems zs) from hx ▸ p) hs f
theorem call_mxI{X:Cx}{K:j0}(hK:X.K=K)(hc:X.calm=true):CallR X (.builtin "max") (rMxI K):=by
 subst hK
 intro pins s σ H xs us Q I r h
 obtain⟨a,ns,rfl,hq,hp,q⟩:=h
 obtain⟨u,rfl,ru⟩:=vals1 r
 cases ru
 have hh:=I.ok.hd hc
 have fin:∀{its:List Value}{zs:Array (Int×Tok)},Vals (ns.map V.int) its->its.toArray=intItems zs->0 < zs.size/\∀(v:Value) (h':Heap) (tk:Nat),(intItems zs)[argBest (λi j=>decide (numAt zs i > numAt zs j)) (zs.size - 1)]?=some v->(∀b o,s.heap.get? b=some o->h'.get? b=some o)->EP X pins σ Q v { s with heap:=h',toks:=tk }:=by
  intro its zs rv e
  have hi:IntsAre its ns:=intsAre_of rv
  have hns:ns=zs.toList.map (·.1):=by rw[<- nums_intItems,<- e];exact (show numsOf its.toArray.toList=ns from hi.numsOf).symm
  have hsz:0 < zs.size:=by have h3:=hp;rw[hns,A0,W1]at h3;exact h3
  refine ⟨hsz,λv h' tk hv hk=>?_⟩
  obtain⟨t,rfl⟩:=intItems_at hv
  obtain⟨h1,h2⟩:=argBest_gt (numAt zs) (zs.size - 1)
  refine ⟨.int _,H,I.kept hk,⟨t,rfl⟩,q _ ?_ λy hy=>?_⟩
  ·rw[hns,numAt_eq];exact getD_mem (by rw[A0,W1];omega)
  ·rw[hns]at hy
   obtain⟨j,hj,rfl⟩:=mem_getD hy
   rw[A0,W1]at hj
   rw[<- numAt_eq];exact h2 j (by omega)
 rcases hq with hq|hq
 ·obtain⟨its,rv,p,hz⟩:=I.list hq
  obtain⟨zs,hx⟩:=(intsAre_of rv).allInts.items
  obtain⟨hs,f⟩:=fin rv hx
  exact max_intList hh (hx ▸ p.isList) hs f
 ·obtain⟨its,rv,p,hz⟩:=I.tuple hq
  obtain⟨zs,hx⟩:=(intsAre_of rv).allInts.items
  obtain⟨hs,f⟩:=fin rv hx
  exact max_tupD hh (show s.heap.IsTuple a (intItems zs) from hx ▸ p) hs f
end L2
namespace L3
open PySem PySem.Spec PyProof.Rows L2
section
variable {K:Fg}{σ:L2.St}{H:Hp}{v:V}{Q:L2.St->Hp->Prop}
end
noncomputable def fMnI:D->(Sl->Prop)->Prop
 | .list ds,Q=>∃ns:List Int,ds=ns.map q0/\0 < ns.length/\∀M,M∈ns->(∀y∈ns,M<=y)->Q (.fz (.int M))
 | .tuple ds,Q=>∃ns:List Int,ds=ns.map q0/\0 < ns.length/\∀M,M∈ns->(∀y∈ns,M<=y)->Q (.fz (.int M))
 | _,_=>False
noncomputable def fMxI:D->(Sl->Prop)->Prop
 | .list ds,Q=>∃ns:List Int,ds=ns.map q0/\0 < ns.length/\∀M,M∈ns->(∀y∈ns,y<=M)->Q (.fz (.int M))
 | .tuple ds,Q=>∃ns:List Int,ds=ns.map q0/\0 < ns.length/\∀M,M∈ns->(∀y∈ns,y<=M)->Q (.fz (.int M))
 | _,_=>False
theorem ok_mnI{K:Fg}:OpOk K (rMnI K) (o1 fMnI):=ok1 λG F σ H ρ x d Q Qd R h1 w k=>by
 match d,h1,w with
 | .list ds,h1,⟨ns,e,hp,w⟩ =>
  subst e
  obtain⟨a,us,rfl,e1,d1⟩:=h1.list R.sub
  have:=d1.intsV
  subst this
  exact ⟨a,ns,rfl,.inl (SqL.of e1),hp,λM m1 m2=>k _ H F (.fz _) (Sub.refl _) R (Da.int _) (w M m1 m2)⟩
 | .tuple ds,h1,⟨ns,e,hp,w⟩ =>
  subst e
  obtain⟨a,us,rfl,_,e1,d1⟩:=h1.tuple R.sub
  have:=d1.intsV
  subst this
  exact ⟨a,ns,rfl,.inr (SqT.of e1),hp,λM m1 m2=>k _ H F (.fz _) (Sub.refl _) R (Da.int _) (w M m1 m2)⟩
theorem ok_mxI{K:Fg}:OpOk K (rMxI K) (o1 fMxI):=ok1 λG F σ H ρ x d Q Qd R h1 w k=>by
 match d,h1,w with
 | .list ds,h1,⟨ns,e,hp,w⟩ =>
  subst e
  obtain⟨a,us,rfl,e1,d1⟩:=h1.list R.sub
  have:=d1.intsV
  subst this
  exact ⟨a,ns,rfl,.inl (SqL.of e1),hp,λM m1 m2=>k _ H F (.fz _) (Sub.refl _) R (Da.int _) (w M m1 m2)⟩
 | .tuple ds,h1,⟨ns,e,hp,w⟩ =>
  subst e
  obtain⟨a,us,rfl,_,e1,d1⟩:=h1.tuple R.sub
  have:=d1.intsV
  subst this
  exact ⟨a,ns,rfl,.inr (SqT.of e1),hp,λM m1 m2=>k _ H F (.fz _) (Sub.refl _) R (Da.int _) (w M m1 m2)⟩
open PySem PySem.Spec L2
section
variable {K:Fg}{G:Gh}{F F' H H':Hp}{σ:L2.St}{ρ:Ev}
theorem Rel.grown(R:Rel K G F σ H ρ)(sb:Sub F F')(su:Sub F' H')(fn:∀b o,F' b=some o->F b=some o\/H b=none)(kp:∀b o,H b=some o->H' b=some o):Rel K G F' σ H' ρ:=by
 refine ⟨R.len,su,R.sub0.trans sb,λb o e=>?_,λa o e n=>kp _ _ (R.keep a o e n),λi d e=>?_,λi s e w=>?_,R.new,R.io,R.ioi,R.ap⟩
 ·rcases fn b o e with q|q
  ·exact R.fn b o q
  ·exact .inr (R.h0 q)
 ·obtain⟨v,h1,h2⟩:=R.fz i d e
  exact ⟨v,h1,h2.mono sb⟩
 ·obtain⟨a,o,h1,h2,h3,h4⟩:=R.ow i s e w
  refine ⟨a,o,h1,?_,kp _ _ h3,h4.mono sb⟩
  cases q:F' a with
  | none=>rfl
  | some u =>
   rcases fn a u q with z|z
   ·rw[h2]at z;cases z
   ·rw[h3]at z;cases z
end
section
variable {X:Cx}{K:Fg}{e:Expr}{es:List Expr}{as:List AD}{x:Str}{p pos:Pos}
end
end L3
namespace SG
open PySem PyProof.Rows
section
variable {prog:Program}{w:World}{A:Around}{E:Value->Shared->Prop}{s:Shared}{κ:SortKind}{rk:Keyed->Nat}{S:Keyed->Prop}
noncomputable def Asks(prog:Program)(w:World)(A:Around)(s:Shared)(κ:SortKind)(rk:Keyed->Nat)(S:Keyed->Prop):Prop :=
 ∀x y:Keyed,S x->S y->∀Q:Bool->Shared->Prop,Q (decide (rk x < rk y)) s->wpAny (model prog w) A (keyLt' κ x.1 y.1) Q (λ_ _=>False) s
theorem w_lt(q:Asks prog w A s κ rk S){x y:Keyed}{st:SortSt}{Q:Option Bool->SortSt->Prop}(hk:kindOf st=κ)(hx:S x)(hy:S y)(h:Q (some (decide (rk x < rk y))) st) :
  wpS (model prog w) A E s (lt' x y) Q st:=by
 rw[lt'_eq]
 refine wpS_bind (wpS_get ?_)
 rw[hk]
 refine wpS_bind (wpS_lift (wpAny_attempt (wpAny_mono (q x y hx hy (λb s'=>b=decide (rk x < rk y)/\s'=s) ⟨rfl,rfl⟩) (λb s' e=>?_) λ_ _ e=>e.elim)))
 obtain⟨rfl,rfl⟩:=e
 exact ⟨rfl,wpS_pure h⟩
theorem w_elem{xs:Array Keyed}{i:Nat}{st:SortSt}{Q:Keyed->SortSt->Prop}(hi:i < xs.size)(h:Q xs[i] st):wpS (model prog w) A E s (elem' xs i) Q st:=by
 rw[elem'_eq,getElem?_pos xs i hi]
 exact wpS_pure h
end
noncomputable def KR(rk:Keyed->Nat)(xs:Array Keyed)(i:Nat):Nat:=match xs[i]? with
 | some p=>rk p
 | none=>0
theorem KR_at{rk:Keyed->Nat}{xs:Array Keyed}{i:Nat}(h:i < xs.size):KR rk xs i=rk xs[i]:=by
 unfold KR;rw[getElem?_pos xs i h]
theorem KR_congr{rk:Keyed->Nat}{xs ys:Array Keyed}{i j:Nat}(h:xs[i]?=ys[j]?):KR rk xs i=KR rk ys j:=by unfold KR;rw[h]
theorem KR_mirror{rk:Keyed->Nat}{xs:Array Keyed}{i j:Nat}(hj:j<=xs.size)(k:Nat) :
  KR rk (mirror xs i j ((j - i) / 2)) k=if i<=k/\k < j then KR rk xs (i+j - 1 - k) else KR rk xs k:=by
 have e:=getElem?_mirror_all (i:=i) hj k
 split
 ·rename_i h1;rw[if_pos h1]at e;exact KR_congr e
 ·rename_i h1;rw[if_neg h1]at e;exact KR_congr e
theorem KR_bubble{rk:Keyed->Nat}{xs:Array Keyed}{c d:Nat}(hs:c < xs.size)(hd:d<=c)(k:Nat) :
  KR rk (bubble xs c d) k=if k=c - d then KR rk xs c else if c - d < k/\k<=c then KR rk xs (k - 1) else KR rk xs k:=by
 have e:=getElem?_bubble hs d hd k
 split
 ·rename_i h1;rw[if_pos h1]at e;exact KR_congr e
 ·rename_i h1
  rw[if_neg h1]at e
  split
  ·rename_i h2;rw[if_pos h2]at e;exact KR_congr e
  ·rename_i h2;rw[if_neg h2]at e;exact KR_congr e
noncomputable def Sg(rk:Keyed->Nat)(xs:Array Keyed)(lo n:Nat):Prop:=∀i j,lo<=i->i<=j->j < lo+n->KR rk xs i<=KR rk xs j
noncomputable def Dg(rk:Keyed->Nat)(xs:Array Keyed)(lo n:Nat):Prop:=∀i j,lo<=i->i<=j->j < lo+n->KR rk xs j<=KR rk xs i
structure Bs(κ:SortKind)(st:SortSt)(lo n:Nat)(st':SortSt):Prop where
 perm:(arrOf st').Perm (arrOf st)
 kind:kindOf st'=κ
 failed:failedOf st'=none
 pend:pendingOf st'=pendingOf st
 keep:∀i,i < lo\/lo+n<=i->(arrOf st')[i]?=(arrOf st)[i]?
theorem Bs.size{κ:SortKind}{st st':SortSt}{lo n:Nat}(h:Bs κ st lo n st'):(arrOf st').size=(arrOf st).size:=h.perm.size_eq
theorem Bs.mir{κ:SortKind}{st st':SortSt}{lo n i j:Nat}(h:Bs κ st lo n st')(hj:j<=(arrOf st).size)(h1:lo<=i)(h2:j<=lo+n):Bs κ st lo n (setArr st' (mirror (arrOf st') i j ((j - i) / 2))) :=
 ⟨(mirror_perm _ _ _ _).trans h.perm,h.kind,h.failed,h.pend,λk hk=>by
   show (mirror (arrOf st') i j ((j - i) / 2))[k]?=_
   rw[getElem?_mirror_all (by rw[h.size];exact hj),if_neg (by omega)]
   exact h.keep k hk⟩
section
variable {prog:Program}{w:World}{A:Around}{E:Value->Shared->Prop}{s:Shared}{κ:SortKind}{rk:Keyed->Nat}{S:Keyed->Prop}{st:SortSt}
noncomputable abbrev AllS(S:Keyed->Prop)(xs:Array Keyed):Prop:=∀p,p∈xs.toList->S p
theorem Bs.inS{st':SortSt}{lo n:Nat}(hS:AllS S (arrOf st))(h:Bs κ st lo n st'){i:Nat}(hi:i < (arrOf st').size):S (arrOf st')[i] :=
 hS _ ((E5.mp h.perm).mem_iff.mp (by simp))
theorem w_ltAt(q:Asks prog w A s κ rk S){st':SortSt}{lo n i j:Nat}{Q:Option Bool->SortSt->Prop}(hS:AllS S (arrOf st))(hB:Bs κ st lo n st')(hi:i < (arrOf st).size)(hj:j < (arrOf st).size)
  (h:Q (some (decide (KR rk (arrOf st') i < KR rk (arrOf st') j))) st'):wpS (model prog w) A E s (ltAt' i j) Q st':=by
 have hi':i < (arrOf st').size:=by rw[hB.size];exact hi
 have hj':j < (arrOf st').size:=by rw[hB.size];exact hj
 rw[ltAt'_eq]
 refine wpS_bind (wpS_get ?_)
 refine wpS_bind (w_elem hi' (wpS_bind (w_elem hj' ?_)))
 refine w_lt q hB.kind (hB.inS hS _) (hB.inS hS _) ?_
 rw[KR_at hi',KR_at hj']at h
 exact h
noncomputable def ascL(lo a nrem:Nat):StateT SortSt Sem AscSt :=
 forIn [a:nrem] ((none,a):AscSt) λ_ z=>do
  let some sm<-ltAt' (lo+z.2) (lo+z.2 - 1)|pure (.done (some none,z.2))
  if sm=true then pure (.done (none,z.2)) else pure (.yield (none,z.2+1))
noncomputable def t3L(lo n nrem:Nat):StateT SortSt Sem (Option Nat):=do
 reverseSlice' lo (lo+n)
 let z<-ascL lo n nrem
 match z.1 with
 | some r=>pure r
 | none=>pure (some z.2)
noncomputable def descL(lo n nrem:Nat):StateT SortSt Sem DescSt :=
 forIn [n:nrem] ((none,n,0):DescSt) λ_ z=>do
  let some sm<-ltAt' (lo+z.2.1) (lo+z.2.1 - 1)|pure (.done (some none,z.2.1,z.2.2))
  if sm=true then
   if z.2.2 > 0 then do
    reverseSlice' (lo+z.2.1 - (z.2.2+1)) (lo+z.2.1)
    pure (.yield (none,z.2.1+1,0))
   else pure (.yield (none,z.2.1+1,0))
  else do
   let some la<-ltAt' (lo+z.2.1 - 1) (lo+z.2.1)|pure (.done (some none,z.2.1,z.2.2))
   if la=true then pure (.done (none,z.2.1,z.2.2)) else pure (.yield (none,z.2.1+1,z.2.2+1))
noncomputable def dpL(lo n nrem:Nat):StateT SortSt Sem (Option Nat):=do
 liftM (rule "list.sort.descending-run")
 let z<-descL lo (n+1) nrem
 match z.1 with
 | some r=>pure r
 | none =>
  if z.2.2 > 0 then do
   reverseSlice' (lo+z.2.1 - (z.2.2+1)) (lo+z.2.1)
   t3L lo z.2.1 nrem
  else t3L lo z.2.1 nrem
theorem crL_eq(lo nrem:Nat):countRun' lo nrem=(do
    let z<-ascL lo 1 nrem
    match z.1 with
    | some r=>pure r
    | none =>
      if (z.2==nrem)=true then pure (some z.2)
      else if z.2 > 1 then do
        let some ro<-ltAt' lo (lo+z.2 - 1)|pure none
        if ro=true then pure (some z.2) else do
          reverseSlice' lo (lo+z.2)
          dpL lo z.2 nrem
      else dpL lo z.2 nrem):=by
 have te:∀m,(do
     reverseSlice' lo (lo+m)
     let z<-ascL lo m nrem
     match z.1 with
     | some r=>pure r
     | none=>pure (some z.2))=t3L lo m nrem:=λm=>rfl
 rw[countRun'_eq]
 unfold dpL t3L descL ascL
 refine congr (congrArg bind rfl) (funext λz=>?_)
 obtain⟨r,n⟩:=z
 cases r with
 | some r=>rfl
 | none =>
  dsimp only
  have tl:∀z:AscSt,(match z.1 with|some r=>pure r|none=>pure (some z.2):StateT SortSt Sem (Option Nat))=match z.1 with|some r=>pure r|none=>pure (some z.2):=λz=>rfl
  split
  ·rfl
  ·split
   ·congr 1
    funext x
    cases x with
    | none=>rfl
    | some ro =>
     dsimp only
     split
     ·rfl
     ·congr 1
      funext _
      congr 1
      funext _
      congr 1
      funext z
      obtain⟨r,m,q⟩:=z
      cases r with
      | some r=>rfl
      | none =>
       dsimp only
       split
       ·congr 1;funext _;congr 1;funext _;congr 1;funext z;obtain⟨r,k⟩:=z;cases r<;>rfl
       ·congr 1;funext _;congr 1;funext z;obtain⟨r,k⟩:=z;cases r<;>rfl
   ·congr 1
    funext _
    congr 1
    funext z
    obtain⟨r,m,q⟩:=z
    cases r with
    | some r=>rfl
    | none =>
     dsimp only
     split
     ·congr 1;funext _;congr 1;funext _;congr 1;funext z;obtain⟨r,k⟩:=z;cases r<;>rfl
     ·congr 1;funext _;congr 1;funext z;obtain⟨r,k⟩:=z;cases r<;>rfl
theorem w_rev{i j:Nat}{st':SortSt}{Q:Unit->SortSt->Prop}(h:Q () (setArr st' (mirror (arrOf st') i j ((j - i) / 2)))):wpS (model prog w) A E s (reverseSlice' i j) Q st':=by
 rw[reverseSlice'_eq]
 exact wpS_modify h
theorem w_asc(q:Asks prog w A s κ rk S){st':SortSt}{lo N a nrem:Nat}{Q:AscSt->SortSt->Prop}(hS:AllS S (arrOf st))(hn:lo+nrem<=(arrOf st).size)(ha:1<=a)(han:a<=nrem)(hB:Bs κ st lo N st')(hs:Sg rk (arrOf st') lo a)
  (h:∀n,a<=n->n<=nrem->Sg rk (arrOf st') lo n->(n=nrem\/KR rk (arrOf st') (lo+n) < KR rk (arrOf st') (lo+n - 1))->Q (none,n) st'):wpS (model prog w) A E s (ascL lo a nrem) Q st':=by
 unfold ascL
 refine wpS_forRange (I:=λx c z=>z=st'/\c=(none,x)/\Sg rk (arrOf st') lo x) ?step ?fin ⟨rfl,rfl,hs⟩
 case fin =>
  rintro c z ⟨rfl,rfl,h1⟩
  rw[show max a nrem=nrem by omega]at h1 ⊢
  exact h nrem han (N0 _) h1 (.inl rfl)
 case step =>
  rintro x c z hax hxn ⟨rfl,rfl,h1⟩
  dsimp only
  refine wpS_bind (w_ltAt q hS hB (by omega) (by omega) ?_)
  dsimp only
  by_cases hl:KR rk (arrOf z) (lo+x) < KR rk (arrOf z) (lo+x - 1)
  ·rw[if_pos (by simpa using hl)]
   exact wpS_pure (h x hax (by omega) h1 (.inr hl))
  ·rw[if_neg (by simpa using hl)]
   refine wpS_pure ⟨rfl,rfl,λi j hi hij hj=>?_⟩
   by_cases hjx:j < lo+x
   ·exact h1 i j hi hij hjx
   ·have:j=lo+x:=by omega
    subst this
    by_cases hi':i=lo+x
    ·subst hi';exact N0 _
    ·have:=h1 i (lo+x - 1) hi (by omega) (by omega)
     omega
theorem w_t3(q:Asks prog w A s κ rk S){st':SortSt}{lo n nrem:Nat}{Q:Option Nat->SortSt->Prop}(hS:AllS S (arrOf st))(hn:lo+nrem<=(arrOf st).size)(h1:1<=n)(hnn:n<=nrem)(hB:Bs κ st lo nrem st')(hs:Dg rk (arrOf st') lo n)
  (h:∀m z,Bs κ st lo nrem z->1<=m->m<=nrem->Sg rk (arrOf z) lo m->Q (some m) z):wpS (model prog w) A E s (t3L lo n nrem) Q st':=by
 unfold t3L
 refine wpS_bind (w_rev ?_)
 have hz:lo+n<=(arrOf st').size:=by rw[hB.size];omega
 have hB':=hB.mir (i:=lo) (j:=lo+n) (by omega) (N0 _) (by omega)
 refine wpS_bind (w_asc q hS hn h1 hnn hB' (λi j hi hij hj=>?_) λm m1 m2 hm _=>wpS_pure (h m _ hB' (by omega) m2 hm))
 show KR rk (mirror _ _ _ _) i<=KR rk (mirror _ _ _ _) j
 rw[KR_mirror hz,KR_mirror hz,if_pos (by omega),if_pos (by omega)]
 exact hs _ _ (by omega) (by omega) (by omega)
theorem KR_alike{xs:Array Keyed}{i j:Nat}(hj:j<=xs.size)(he:∀k,i<=k->k < j->KR rk xs k=KR rk xs (j - 1))(k:Nat):KR rk (mirror xs i j ((j - i) / 2)) k=KR rk xs k:=by
 rw[KR_mirror hj]
 split
 ·rw[he _ (by omega) (by omega),he k (by omega) (by omega)]
 ·rfl
theorem w_desc(q:Asks prog w A s κ rk S){st':SortSt}{lo n nrem:Nat}{Q:DescSt->SortSt->Prop}(hS:AllS S (arrOf st))(hn:lo+nrem<=(arrOf st).size)(h1:1<=n)(hnn:n<=nrem)(hB:Bs κ st lo nrem st')(hs:Dg rk (arrOf st') lo n)
  (h:∀m e z,Bs κ st lo nrem z->n<=m->m<=nrem->Dg rk (arrOf z) lo m->e+1<=m->(∀i,lo+m - (e+1)<=i->i < lo+m->KR rk (arrOf z) i=KR rk (arrOf z) (lo+m - 1))->Q (none,m,e) z) :
  wpS (model prog w) A E s (descL lo n nrem) Q st':=by
 unfold descL
 refine wpS_forRange (I:=λx c z=>∃e,c=(none,x,e)/\Bs κ st lo nrem z/\Dg rk (arrOf z) lo x/\e+1<=x/\∀i,lo+x - (e+1)<=i->i < lo+x->KR rk (arrOf z) i=KR rk (arrOf z) (lo+x - 1)) ?step ?fin
  ⟨0,rfl,hB,hs,by omega,λi i1 i2=>by congr 1;omega⟩
 case fin =>
  rintro c z ⟨e,rfl,b,d,e1,e2⟩
  rw[show max n nrem=nrem by omega]at d e1 e2 ⊢
  exact h nrem e z b hnn (N0 _) d e1 e2
 case step =>
  rintro x c z hax hxn ⟨e,rfl,b,d,e1,e2⟩
  dsimp only
  have hz:lo+x<=(arrOf z).size:=by rw[b.size];omega
  refine wpS_bind (w_ltAt q hS b (by omega) (by omega) ?_)
  dsimp only
  by_cases hl:KR rk (arrOf z) (lo+x) < KR rk (arrOf z) (lo+x - 1)
  ·rw[if_pos (by simpa using hl)]
   have st1:∀xs:Array Keyed,(∀k,KR rk xs k=KR rk (arrOf z) k)->Dg rk xs lo (x+1):=λxs hk i j hi hij hj=>by
    rw[hk,hk]
    by_cases hjx:j < lo+x
    ·exact d i j hi hij hjx
    ·have:j=lo+x:=by omega
     subst this
     by_cases hi':i=lo+x
     ·subst hi';exact N0 _
     ·have:=d i (lo+x - 1) hi (by omega) (by omega)
      omega
   by_cases he:e > 0
   ·rw[if_pos he]
    exact wpS_bind (w_rev (wpS_pure ⟨0,rfl,b.mir (by omega) (by omega) (by omega),st1 _ (KR_alike hz e2),by omega,λi i1 i2=>by congr 1;omega⟩))
   ·rw[if_neg he]
    exact wpS_pure ⟨0,rfl,b,st1 _ (λ_=>rfl),by omega,λi i1 i2=>by congr 1;omega⟩
  ·rw[if_neg (by simpa using hl)]
   refine wpS_bind (w_ltAt q hS b (by omega) (by omega) ?_)
   dsimp only
   by_cases hg:KR rk (arrOf z) (lo+x - 1) < KR rk (arrOf z) (lo+x)
   ·rw[if_pos (by simpa using hg)]
    exact wpS_pure (h x e z b hax (by omega) d e1 e2)
   ·rw[if_neg (by simpa using hg)]
    refine wpS_pure ⟨e+1,rfl,b,λi j hi hij hj=>?_,by omega,λi i1 i2=>?_⟩
    ·by_cases hjx:j < lo+x
     ·exact d i j hi hij hjx
     ·have:j=lo+x:=by omega
      subst this
      by_cases hi':i=lo+x
      ·subst hi';exact N0 _
      ·have:=d i (lo+x - 1) hi (by omega) (by omega)
       omega
    ·rw[show lo+(x+1) - 1=lo+x by omega]
     by_cases hix:i=lo+x
     ·subst hix;rfl
     ·have:=e2 i (by omega) (by omega)
      omega
theorem w_dp(q:Asks prog w A s κ rk S){st':SortSt}{lo n nrem:Nat}{Q:Option Nat->SortSt->Prop}(hS:AllS S (arrOf st))(hn:lo+nrem<=(arrOf st).size)(hnn:n+1<=nrem)(hB:Bs κ st lo nrem st')(hs:Dg rk (arrOf st') lo (n+1))
  (h:∀m z,Bs κ st lo nrem z->1<=m->m<=nrem->Sg rk (arrOf z) lo m->Q (some m) z):wpS (model prog w) A E s (dpL lo n nrem) Q st':=by
 unfold dpL
 refine wpS_bind (wpS_lift (wpAny_rule ⟨rfl,?_⟩))
 refine wpS_bind (w_desc q hS hn (by omega) hnn hB hs λm e z b m1 m2 d e1 e2=>?_)
 dsimp only
 have hz:lo+m<=(arrOf z).size:=by rw[b.size];omega
 by_cases he:e > 0
 ·rw[if_pos he]
  refine wpS_bind (w_rev (w_t3 q hS hn (by omega) m2 (b.mir (by omega) (by omega) (by omega)) (λi j hi hij hj=>?_) h))
  show KR rk (mirror _ _ _ _) j<=KR rk (mirror _ _ _ _) i
  rw[KR_alike hz e2,KR_alike hz e2]
  exact d i j hi hij hj
 ·rw[if_neg he]
  exact w_t3 q hS hn (by omega) m2 b d h
theorem w_cr(q:Asks prog w A s κ rk S){lo nrem:Nat}{Q:Option Nat->SortSt->Prop}(hS:AllS S (arrOf st))(hn:lo+nrem<=(arrOf st).size)(h1:1<=nrem)(hB:Bs κ st lo nrem st)
  (h:∀m z,Bs κ st lo nrem z->1<=m->m<=nrem->Sg rk (arrOf z) lo m->Q (some m) z):wpS (model prog w) A E s (countRun' lo nrem) Q st:=by
 rw[crL_eq]
 refine wpS_bind (w_asc q hS hn (N0 1) h1 hB (λi j hi hij hj=>by have:i=j:=(by omega);subst this;exact N0 _) λn n1 n2 sn hor=>?_)
 dsimp only
 by_cases hnn:n=nrem
 ·rw[if_pos (by simpa using hnn)]
  exact wpS_pure (h n st hB n1 n2 sn)
 ·rw[if_neg (by simpa using hnn)]
  have hlt:=hor.resolve_left hnn
  by_cases hgt:n > 1
  ·rw[if_pos hgt]
   refine wpS_bind (w_ltAt q hS hB (by omega) (by omega) ?_)
   dsimp only
   by_cases hr:KR rk (arrOf st) lo < KR rk (arrOf st) (lo+n - 1)
   ·rw[if_pos (by simpa using hr)]
    exact wpS_pure (h n st hB n1 n2 sn)
   ·rw[if_neg (by simpa using hr)]
    have hz:lo+n<=(arrOf st).size:=by omega
    have all:∀k,lo<=k->k < lo+n->KR rk (arrOf st) k=KR rk (arrOf st) (lo+n - 1):=λk k1 k2=>by
     have a1:=sn lo k (by omega) k1 k2
     have a2:=sn k (lo+n - 1) k1 (by omega) (by omega)
     omega
    refine wpS_bind (w_rev (w_dp q hS hn (by omega) (hB.mir (by omega) (by omega) (by omega)) (λi j hi hij hj=>?_) h))
    show KR rk (mirror _ _ _ _) j<=KR rk (mirror _ _ _ _) i
    rw[KR_alike hz all,KR_alike hz all]
    by_cases hjn:j < lo+n
    ·have:=all i hi (by omega)
     have:=all j (by omega) hjn
     omega
    ·have:j=lo+n:=by omega
     subst this
     by_cases hi':i=lo+n
     ·subst hi';exact N0 _
     ·have:=all i hi (by omega)
      omega
  ·rw[if_neg hgt]
   have:n=1:=by omega
   subst this
   refine w_dp q hS hn (by omega) hB (λi j hi hij hj=>?_) h
   by_cases hi':i=j
   ·subst hi';exact N0 _
   ·have e1:i=lo:=by omega
    have e2:j=lo+1:=by omega
    subst e1;subst e2
    exact G5 hlt
theorem w_bins(q:Asks prog w A s κ rk S){st':SortSt}{lo N n ok:Nat}{Q:Bool->SortSt->Prop}(hS:AllS S (arrOf st))(hn:lo+n<=(arrOf st).size)(hnN:n<=N)(hok:ok<=n)(hB:Bs κ st lo N st')(hs:Sg rk (arrOf st') lo ok)
  (h:∀z,Bs κ st lo N z->Sg rk (arrOf z) lo n->Q true z):wpS (model prog w) A E s (binarySort' lo n ok) Q st':=by
 rw[binarySort'_eq]
 refine wpS_bind (wpS_mono (wpS_forRange (I:=λk c z=>c=(none,())/\Bs κ st lo N z/\Sg rk (arrOf z) lo (min k n)) (Q:=λc z=>c=(none,())/\Bs κ st lo N z/\Sg rk (arrOf z) lo n) ?step ?fin ?init) ?post)
 case post =>
  rintro c z ⟨rfl,b,hs'⟩
  exact wpS_pure (h z b hs')
 case init =>
  refine ⟨rfl,hB,λi j hi hij hj=>?_⟩
  by_cases h1:ok=0
  ·have:i=j:=by omega
   subst this;exact N0 _
  ·exact hs i j hi hij (by omega)
 case fin =>
  rintro c z ⟨hc,b,hs'⟩
  refine ⟨hc,b,?_⟩
  rwa [show min (max (max ok 1) n) n=n by omega]at hs'
 case step =>
  rintro k c z hak hkn ⟨rfl,b,hs'⟩
  rw[show min k n=k by omega]at hs'
  refine wpS_bind (wpS_mono (wpS_forRange (I:=λx c z'=>z'=z/\∃l r,c=(none,l,r)/\l<=r/\r<=k/\r - l<=k - x/\(∀i,i < l->KR rk (arrOf z) (lo+i)<=KR rk (arrOf z) (lo+k))/\(∀i,r<=i->i < k->KR rk (arrOf z) (lo+k) < KR rk (arrOf z) (lo+i)))
    (Q:=λc z'=>z'=z/\∃l r,c=(none,l,r)/\l<=k/\(∀i,i < l->KR rk (arrOf z) (lo+i)<=KR rk (arrOf z) (lo+k))/\(∀i,l<=i->i < k->KR rk (arrOf z) (lo+k) < KR rk (arrOf z) (lo+i))) ?istep ?ifin ?iinit) ?ipost)
  case iinit=>exact ⟨rfl,0,k,rfl,by omega,by omega,by omega,λi hi=>by omega,λi h1 h2=>by omega⟩
  case ifin =>
   rintro c z' ⟨rfl,l,r,rfl,hlr,hrk,hm,hlo,hhi⟩
   have:l=r:=by omega
   subst this
   exact ⟨rfl,l,l,rfl,hrk,hlo,hhi⟩
  case istep =>
   rintro x c z' _ hxk ⟨rfl,l,r,rfl,hlr,hrk,hm,hlo,hhi⟩
   dsimp only
   by_cases hge:l ≥ r
   ·rw[if_pos hge]
    have:l=r:=by omega
    subst this
    exact wpS_pure ⟨rfl,l,l,rfl,hrk,hlo,hhi⟩
   ·rw[if_neg hge]
    refine wpS_bind (w_ltAt q hS b (by omega) (by omega) ?_)
    dsimp only
    by_cases hl:KR rk (arrOf z') (lo+k) < KR rk (arrOf z') (lo+(l+r) / 2)
    ·rw[if_pos (by simpa using hl)]
     refine wpS_pure ⟨rfl,l,(l+r) / 2,rfl,by omega,by omega,by omega,hlo,λi h1 h2=>?_⟩
     have:=hs' (lo+(l+r) / 2) (lo+i) (by omega) (by omega) (by omega)
     omega
    ·rw[if_neg (by simpa using hl)]
     refine wpS_pure ⟨rfl,(l+r) / 2+1,r,rfl,by omega,by omega,by omega,λi h1=>?_,hhi⟩
     have:=hs' (lo+i) (lo+(l+r) / 2) (by omega) (by omega) (by omega)
     omega
  case ipost =>
   rintro c z' ⟨rfl,l,r,rfl,hlk,hlo,hhi⟩
   show wpS _ _ _ _ (do moveDown' (lo+k) (lo+l);pure (ForInStep.yield (none,()))) _ _
   rw[moveDown'_eq]
   have hks:lo+k < (arrOf z').size:=by rw[b.size];omega
   refine wpS_bind (wpS_modify (wpS_pure ⟨rfl,⟨(bubble_perm _ _ _).trans b.perm,b.kind,b.failed,b.pend,λi hi=>?_⟩,?_⟩))
   ·show (bubble (arrOf z') _ _)[i]?=_
    rw[getElem?_bubble hks _ (by omega),if_neg (by omega),if_neg (by omega)]
    exact b.keep i hi
   ·rw[show min (k+1) n=k+1 by omega]
    intro i j hi hij hj
    show KR rk (bubble (arrOf z') (lo+k) (lo+k - (lo+l))) i<=KR rk (bubble (arrOf z') (lo+k) (lo+k - (lo+l))) j
    rw[KR_bubble hks (by omega),KR_bubble hks (by omega),show lo+k - (lo+k - (lo+l))=lo+l by omega]
    have hlo':∀i,lo<=i->i < lo+l->KR rk (arrOf z') i<=KR rk (arrOf z') (lo+k):=λi h1 h2=>by
     have:=hlo (i - lo) (by omega)
     rwa [show lo+(i - lo)=i by omega]at this
    have hhi':∀i,lo+l<=i->i < lo+k->KR rk (arrOf z') (lo+k) < KR rk (arrOf z') i:=λi h1 h2=>by
     have:=hhi (i - lo) (by omega) (by omega)
     rwa [show lo+(i - lo)=i by omega]at this
    repeat' split
    all_goals first
     | (exfalso;omega)
     | exact N0 _
     | exact hlo' _ (by omega) (by omega)
     | exact G5 (hhi' _ (by omega) (by omega))
     | exact hs' _ _ (by omega) (by omega) (by omega)
end
noncomputable def Ch(rk:Keyed->Nat)(xs:Array Keyed):List (Nat×Nat×Nat)->Nat->Nat->Prop
 | [],b,e=>b=e
 | p :: l,b,e=>p.1=b/\1<=p.2.1/\Sg rk xs b p.2.1/\Ch rk xs l (b+p.2.1) e
theorem Ch.len{rk:Keyed->Nat}{xs:Array Keyed}:∀{l:List (Nat×Nat×Nat)}{b e:Nat},Ch rk xs l b e->b+l.length<=e
 | [],b,e,h=>by cases h;simp
 | p :: l,b,e,h=>by
  have:=h.2.2.2.len
  have:=h.2.1
  rw[Z1]
  omega
theorem Ch.append{rk:Keyed->Nat}{xs:Array Keyed}:∀{l l':List (Nat×Nat×Nat)}{b e:Nat},Ch rk xs (l++l') b e ↔ ∃m,Ch rk xs l b m/\Ch rk xs l' m e
 | [],l',b,e=>⟨λh=>⟨b,rfl,h⟩,λ⟨m,h1,h2⟩=>by cases h1;exact h2⟩
 | p :: l,l',b,e=>⟨λ⟨h1,h2,h3,h4⟩=>by
     obtain⟨m,h5,h6⟩:=Ch.append.mp h4
     exact ⟨m,⟨h1,h2,h3,h5⟩,h6⟩,λ⟨m,⟨h1,h2,h3,h5⟩,h6⟩=>⟨h1,h2,h3,Ch.append.mpr ⟨m,h5,h6⟩⟩⟩
theorem Ch.congr{rk:Keyed->Nat}{xs ys:Array Keyed}:∀{l:List (Nat×Nat×Nat)}{b e:Nat},(∀i,b<=i->i < e->ys[i]?=xs[i]?)->Ch rk xs l b e->Ch rk ys l b e
 | [],_,_,_,h=>h
 | p :: l,b,e,k,⟨h1,h2,h3,h4⟩=>by
  have:=h4.len
  refine ⟨h1,h2,λi j hi hij hj=>?_,h4.congr λi hi he=>k i (by omega) he⟩
  rw[KR_congr (k i hi (by omega)),KR_congr (k j (by omega) (by omega))]
  exact h3 i j hi hij hj
structure In(κ:SortKind)(rk:Keyed->Nat)(st:SortSt)(lo:Nat)(st':SortSt):Prop where
 perm:(arrOf st').Perm (arrOf st)
 kind:kindOf st'=κ
 failed:failedOf st'=none
 ch:Ch rk (arrOf st') (pendingOf st').toList 0 lo
theorem In.size{κ:SortKind}{rk:Keyed->Nat}{st st':SortSt}{lo:Nat}(h:In κ rk st lo st'):(arrOf st').size=(arrOf st).size:=h.perm.size_eq
section
variable {prog:Program}{w:World}{A:Around}{E:Value->Shared->Prop}{s:Shared}{κ:SortKind}{rk:Keyed->Nat}{S:Keyed->Prop}{st:SortSt}
theorem AllS.perm{xs ys:Array Keyed}(h:AllS S xs)(p:ys.Perm xs):AllS S ys:=λq hq=>h q ((E5.mp p).mem_iff.mp hq)
theorem In.push{lo n:Nat}{z:SortSt}(h:In κ rk st lo z)(hn:1<=n)(hs:Sg rk (arrOf z) lo n):In κ rk st (lo+n) (setPending z ((pendingOf z).push (lo,n,0))) :=
 ⟨h.perm,h.kind,h.failed,by
   show Ch rk (arrOf z) ((pendingOf z).push (lo,n,0)).toList 0 (lo+n)
   rw[v8]
   exact Ch.append.mpr ⟨lo,h.ch,rfl,hn,hs,rfl⟩⟩
theorem In.run{lo n:Nat}{z z':SortSt}(h:In κ rk st lo z)(b:Bs κ z lo n z'):In κ rk st lo z' :=
 ⟨b.perm.trans h.perm,b.kind,b.failed,by
   rw[b.pend]
   exact h.ch.congr λi _ hi=>b.keep i (.inl hi)⟩
end
end SG
namespace L2
open PySem PySem.Spec PyProof.Rows PySem.W
section
variable {prog:Program}{w:World}{A:Around}{E:Value->Shared->Prop}{s:Shared}{κ:SortKind}{vs:List Value}{rk:Value->Nat}
theorem pairs_mem{p:Keyed}(h:p∈(pairsOf vs).toList):p.1=p.2/\p.2∈vs:=by
 have h:p∈(vs.toArray.zip vs.toArray).toList:=h
 rw[Array.toList_zip]at h
 obtain⟨i,hi,e⟩:=S7 h
 rw[m7]at e
 subst e
 exact ⟨rfl,S2 _⟩
end
end L2
namespace SG
structure Wk{α:Type}(lt:α->α->Bool):Prop where
 irr:∀a,lt a a=false
 tr:∀a b c,lt a b=true->lt b c=true->lt a c=true
 nt:∀a b c,lt a b=false->lt b c=false->lt a c=false
theorem cnt_le{α:Type}{p q:α->Bool}:∀{l:List α},(∀a∈l,p a=true->q a=true)->l.countP p<=l.countP q
 | [],_=>N0 _
 | a :: l,h=>by
  have ih:=cnt_le (l:=l) λx hx=>h x (G0 _ hx)
  rw[j6,j6]
  have:=h a M0
  cases hp:p a
  ·simp;omega
  ·rw[this hp];simp;omega
theorem cnt_lt{α:Type}{p q:α->Bool}:∀{l:List α},(∀a∈l,p a=true->q a=true)->(∃a∈l,p a=false/\q a=true)->l.countP p < l.countP q
 | [],_,⟨_,h,_⟩=>by simp at h
 | a :: l,h,⟨x,hx,h1,h2⟩=>by
  rw[j6,j6]
  rcases B1.mp hx with rfl|hx
  ·have:=cnt_le (l:=l) λx hx=>h x (G0 _ hx)
   rw[h1,h2]
   simp
   omega
  ·have ih:=cnt_lt (l:=l) (λx hx=>h x (G0 _ hx)) ⟨x,hx,h1,h2⟩
   have:=h a M0
   cases hp:p a
   ·simp;omega
   ·rw[this hp];simp;omega
theorem rank{α:Type}{lt:α->α->Bool}(W:Wk lt){l:List α}{x y:α}(hx:x∈l)(hy:y∈l):decide (l.countP (λa=>lt a x) < l.countP (λa=>lt a y))=lt x y:=by
 cases h:lt x y
 ·rw[decide_eq_false_iff_not,Nat.not_lt]
  refine cnt_le λa _ ha=>?_
  cases h2:lt a x
  ·rw[W.nt a x y h2 h]at ha;cases ha
  ·rfl
 ·rw[decide_eq_true_eq]
  exact cnt_lt (λa _ ha=>W.tr a x y ha h) ⟨x,hx,W.irr x,h⟩
theorem lex_wk:Wk HT.lexLt:=by
 refine ⟨λa=>?_,λa=>?_,λa=>?_⟩
 ·induction a with
  | nil=>rfl
  | cons x a ih=>rw[HT.lexLt_cons,if_pos rfl];exact ih
 ·induction a with
  | nil =>
   intro b c h1 h2
   cases c with
   | nil=>cases b<;>cases h2
   | cons z c=>rfl
  | cons x a ih =>
   intro b c h1 h2
   cases b with
   | nil=>cases h1
   | cons y b =>
    cases c with
    | nil=>cases h2
    | cons z c =>
     rw[HT.lexLt_cons]at h1 h2 ⊢
     by_cases e1:x=y
     ·subst e1
      rw[if_pos rfl]at h1
      by_cases e2:x=z
      ·subst e2
       rw[if_pos rfl]at h2 ⊢
       exact ih b c h1 h2
      ·rw[if_neg e2]at h2 ⊢;exact h2
     ·rw[if_neg e1]at h1
      have h1:=of_decide_eq_true h1
      by_cases e2:y=z
      ·subst e2
       rw[if_neg e1]
       exact decide_eq_true h1
      ·rw[if_neg e2]at h2
       have h2:=of_decide_eq_true h2
       rw[if_neg (by omega)]
       exact decide_eq_true (by omega)
 ·induction a with
  | nil =>
   intro b c h1 h2
   cases b with
   | nil=>exact h2
   | cons y b=>cases h1
  | cons x a ih =>
   intro b c h1 h2
   cases c with
   | nil=>rfl
   | cons z c =>
    cases b with
    | nil=>cases h2
    | cons y b =>
     rw[HT.lexLt_cons]at h1 h2 ⊢
     by_cases e1:x=y
     ·subst e1
      rw[if_pos rfl]at h1
      by_cases e2:x=z
      ·subst e2
       rw[if_pos rfl]at h2 ⊢
       exact ih b c h1 h2
      ·rw[if_neg e2]at h2 ⊢;exact h2
     ·rw[if_neg e1]at h1
      have h1:=of_decide_eq_false h1
      by_cases e2:y=z
      ·subst e2
       rw[if_neg e1]
       exact decide_eq_false h1
      ·rw[if_neg e2]at h2
       have h2:=of_decide_eq_false h2
       rw[if_neg (by omega)]
       exact decide_eq_false (by omega)
theorem lex_eq:∀{a b:List Int},HT.lexLt a b=false->HT.lexLt b a=false->a=b
 | [],[],_,_=>rfl
 | [],_ :: _,h,_=>by cases h
 | _ :: _,[],_,h=>by cases h
 | x :: a,y :: b,h1,h2=>by
  rw[HT.lexLt_cons]at h1 h2
  by_cases e:x=y
  ·subst e
   rw[if_pos rfl]at h1 h2
   rw[lex_eq h1 h2]
  ·rw[if_neg e]at h1
   rw[if_neg (λz=>e z.symm)]at h2
   have h1:=of_decide_eq_false h1
   have h2:=of_decide_eq_false h2
   omega
theorem sorted_uniq{α:Type}{lt:α->α->Bool}(an:∀a b,lt a b=false->lt b a=false->a=b):∀{l m:List α},l.Perm m->l.Pairwise (λa b=>lt b a=false)->m.Pairwise (λa b=>lt b a=false)->l=m
 | [],m,p,_,_=>by rw[List.nil_perm.mp p]
 | x :: l,[],p,_,_=>by simp at p
 | x :: l,y :: m,p,h1,h2=>by
  have e:x=y:=by
   have hx:x∈y :: m:=p.mem_iff.mp M0
   have hy:y∈x :: l:=p.mem_iff.mpr M0
   rcases B1.mp hx with e|hx
   ·exact e
   ·rcases B1.mp hy with e|hy
    ·exact e.symm
    ·exact an x y ((Q5.mp h2).1 x hx) ((Q5.mp h1).1 y hy)
  subst e
  rw[sorted_uniq an (List.perm_cons x |>.mp p) (Q5.mp h1).2 (Q5.mp h2).2]
end SG
namespace L2
open PySem PySem.Spec PyProof.Rows PySem.W
section
variable {X:Cx}{α:Type}[Inhabited α]
theorem vals_perm{us:List V}{its:List Value}:∀{out:List Value},out.Perm its->Vals us its->∃us':List V,us'.Perm us/\Vals us' out:=by
 intro out p
 induction p generalizing us with
 | nil=>intro h;exact ⟨us,List.Perm.refl _,h⟩
 | cons x _ ih =>
  intro h
  cases h with
  | cons h t =>
   obtain⟨us',p,r⟩:=ih t
   exact ⟨_,p.cons _,.cons h r⟩
 | swap x y l =>
  intro h
  cases h with
  | cons h1 t=>cases t with|cons h2 t=>exact ⟨_,List.Perm.swap _ _ _,.cons h2 (.cons h1 t)⟩
 | trans _ _ ih1 ih2 =>
  intro h
  obtain⟨u2,p2,r2⟩:=ih2 h
  obtain⟨u1,p1,r1⟩:=ih1 r2
  exact ⟨u1,p1.trans p2,r1⟩
end
section
variable {X:Cx}{α:Type}[Inhabited α]{Rep:Hp->Addr->α->Prop}{fn:Hp->V->α}{lt:α->α->Bool}{κ:SortKind}
theorem relV_ref{c:Addr}{u:Value}(h:RelV (.ref c) u):u=.ref c:=h
noncomputable def ofVal(fn:Hp->V->α)(H:Hp):Value->α
 | .ref c=>fn H (.ref c)
 | _=>default
end
section
variable {prog:Program}{w:World}{A:Around}{s:Shared}
end
noncomputable def fnT(H:Hp):V->List Int
 | .ref c=>match H c with
  | some (.tup xs)=>xs.map unV
  | _=>[]
 | _=>[]
end L2
namespace L3
open PySem PySem.Spec PyProof.Rows L2
theorem DaAll.mem{K:Fg}{F:Hp}:∀{us:List V}{ds:List D},DaAll K F us ds->∀v∈us,∃d∈ds,Da K F v d
 | _,_,.nil,v,h=>by simp at h
 | _,_,.cons a t,v,h=>by
  rcases B1.mp h with rfl|h
  ·exact ⟨_,M0,a⟩
  ·obtain⟨d,h1,h2⟩:=DaAll.mem t v h
   exact ⟨d,G0 _ h1,h2⟩
theorem DaAll.map_of{K:Fg}{F:Hp}{f:V->D}:∀{us:List V},(∀v∈us,Da K F v (f v))->DaAll K F us (us.map f)
 | [],_=>.nil
 | v :: us,h=>.cons (h v M0) (DaAll.map_of λx hx=>h x (G0 _ hx))
theorem DaAll.map_eq{K:Fg}{F:Hp}{α:Type}{g:α->D}{f:V->α}(hg:∀v a,Da K F v (g a)->f v=a):∀{us:List V}{as:List α},DaAll K F us (as.map g)->us.map f=as
 | [],[],_=>rfl
 | _ :: _,[],h=>by cases h
 | [],_ :: _,h=>by cases h
 | v :: us,a :: as,h=>by
  cases h with
  | cons h t=>rw[K1,hg v a h,DaAll.map_eq hg t]
theorem da_tup{K:Fg}{F:Hp}{v:V}{r:List Int}(h:Da K F v (.tuple (r.map q0))):∃c,v=.ref c/\F c=some (.tup (r.map V.int)):=by
 cases h with
 | tup h t =>
  have:=t.ints_of
  subst this
  exact ⟨_,rfl,h⟩
end L3
namespace L2
open PySem PySem.Spec PyProof.Rows
noncomputable def rIsiLA(K:j0):List V->Hp->VK->Prop:=λxs H Q=>∃(x:V) (p:Addr),xs=[x,.ref p]/\(∃u,H p=some (.frz tyLT u)) /\
 ((∃a ys,x=.ref a/\SqL K H a ys/\Q (.bl true) H)\/(∃a ys,x=.ref a/\SqT K H a ys/\Q (.bl true) H)\/(((∃i,x=.int i)\/(∃b,x=.bl b)\/∃t,x=.str t)/\Q (.bl false) H))
theorem call_isiLA{X:Cx}:CallR X (.builtin "isinstance") (rIsiLA X.K):=by
 intro pins s σ H xs us Q I r h
 obtain⟨x,p,rfl,⟨u,hp⟩,h⟩:=h
 obtain⟨u1,u2,rfl,r1,r2⟩:=vals2 r
 cases r2
 have hpt:s.heap.get? p=some tyLT:=(show ObjOk X.prog X.w H s.heap p (.frz tyLT u) from I.hok p _ hp).1
 rcases h with⟨a,ys,rfl,hs,q⟩|⟨a,ys,rfl,hs,q⟩|⟨h,q⟩
 ·cases r1
  obtain⟨its,rv,⟨o,n,e,c,d1,d2⟩,hz⟩:=I.list hs
  have ht:s.TypeIs (.ref a) "list":=⟨o,e,c⟩
  exact call_isinstance (isinstance_tuple (Tx:="list") (tp:=p) (cs:=[.type "list",.type "tuple"]) (vs:=[true,false])
    ⟨Answers.of_true (ki_meta .lst) (ki_sub .lst .lst),Answers.of_false_list (ki_ne .lst .tup (by decide)) (ki_meta .tup) (ki_sub .lst .tup),trivial⟩) ⟨ht,hpt,λtk=>⟨.bl true,H,I.tok _,rfl,q⟩⟩
 ·cases r1
  obtain⟨its,_,⟨o,e,c,_⟩,_⟩:=I.tuple hs
  have ht:s.TypeIs (.ref a) "tuple":=⟨o,e,c⟩
  exact call_isinstance (isinstance_tuple (Tx:="tuple") (tp:=p) (cs:=[.type "list",.type "tuple"]) (vs:=[false,true])
    ⟨Answers.of_false_tuple (ki_ne .tup .lst (by decide)) (ki_meta .lst) (ki_sub .tup .lst),Answers.of_true (ki_meta .tup) (ki_sub .tup .tup),trivial⟩) ⟨ht,hpt,λtk=>⟨.bl true,H,I.tok _,rfl,q⟩⟩
 ·rcases h with⟨i,rfl⟩|⟨b,rfl⟩|⟨t,rfl⟩
  ·obtain⟨t,rfl⟩:=r1
   exact call_isinstance (isinstance_tuple (Tx:="int") (tp:=p) (cs:=[.type "list",.type "tuple"]) (vs:=[false,false])
     ⟨Answers.of_false_int (ki_ne .int .lst (by decide)) (ki_meta .lst) (ki_sub .int .lst),Answers.of_false_int (ki_ne .int .tup (by decide)) (ki_meta .tup) (ki_sub .int .tup),trivial⟩) ⟨typeIs_int _ _ _,hpt,λtk=>⟨.bl false,H,I.tok _,rfl,q⟩⟩
  ·cases r1
   exact call_isinstance (isinstance_tuple (Tx:="bool") (tp:=p) (cs:=[.type "list",.type "tuple"]) (vs:=[false,false])
     ⟨Answers.of_false_bool (ki_ne .bl .lst (by decide)) (ki_meta .lst) (ki_sub .bl .lst),Answers.of_false_bool (ki_ne .bl .tup (by decide)) (ki_meta .tup) (ki_sub .bl .tup),trivial⟩) ⟨PySem.typeIs_bool _ _,hpt,λtk=>⟨.bl false,H,I.tok _,rfl,q⟩⟩
  ·obtain⟨t',rfl⟩:=r1
   exact call_isinstance (isinstance_tuple (Tx:="str") (tp:=p) (cs:=[.type "list",.type "tuple"]) (vs:=[false,false])
     ⟨Answers.of_false_str (ki_ne .str .lst (by decide)) (ki_meta .lst) (ki_sub .str .lst),Answers.of_false_str (ki_ne .str .tup (by decide)) (ki_meta .tup) (ki_sub .str .tup),trivial⟩) ⟨PySem.typeIs_str _ _ _,hpt,λtk=>⟨.bl false,H,I.tok _,rfl,q⟩⟩
end L2
namespace L3
open PySem PySem.Spec PyProof.Rows L2
noncomputable def fIsiLA:D->(Sl->Prop)->Prop
 | .list _,Q=>Q (.fz (.bool true))
 | .tuple _,Q=>Q (.fz (.bool true))
 | .int _,Q=>Q (.fz (.bool false))
 | .bool _,Q=>Q (.fz (.bool false))
 | .str _,Q=>Q (.fz (.bool false))
 | _,_=>False
theorem ok_isiLA{K:Fg}:OpOk K (λvs H Q=>∃x,vs=[x]/\∀p,H p=none->rIsiLA K [x,.ref p] (upd H p (.frz tyLT (.tup [.ty "list",.ty "tuple"]))) Q) (o1 fIsiLA):=ok1 λG F σ H ρ x d Q Qd R h1 w k=>by
 have fin:∀(b:Bool) (p:Addr),H p=none->Qd (.fz (.bool b))->Q (.bl b) (upd H p (.frz tyLT (.tup [.ty "list",.ty "tuple"]))):=λb p hp w=>k _ _ F (.fz _) (Sub.refl _) (R.laid hp) (Da.bl _) w
 cases d<;>first|exact w.elim|skip
 case bool b =>
  cases h1.bool
  exact ⟨_,rfl,λp hp=>⟨_,p,rfl,⟨_,upd_same⟩,.inr (.inr ⟨.inr (.inl ⟨_,rfl⟩),fin _ p hp w⟩)⟩⟩
 case int b =>
  cases h1.int
  exact ⟨_,rfl,λp hp=>⟨_,p,rfl,⟨_,upd_same⟩,.inr (.inr ⟨.inl ⟨_,rfl⟩,fin _ p hp w⟩)⟩⟩
 case str b =>
  cases h1.str
  exact ⟨_,rfl,λp hp=>⟨_,p,rfl,⟨_,upd_same⟩,.inr (.inr ⟨.inr (.inr ⟨_,rfl⟩),fin _ p hp w⟩)⟩⟩
 case list ds =>
  obtain⟨a,us,rfl,e1,d1⟩:=h1.list R.sub
  exact ⟨_,rfl,λp hp=>⟨_,p,rfl,⟨_,upd_same⟩,.inl ⟨a,us,rfl,SqL.of (by rw[upd_ne (ne_of_none e1 hp)];exact e1),fin _ p hp w⟩⟩⟩
 case tuple ds =>
  obtain⟨a,us,rfl,_,e1,d1⟩:=h1.tuple R.sub
  exact ⟨_,rfl,λp hp=>⟨_,p,rfl,⟨_,upd_same⟩,.inr (.inl ⟨a,us,rfl,SqT.of (by rw[upd_ne (ne_of_none e1 hp)];exact e1),fin _ p hp w⟩)⟩⟩
section
variable {X:Cx}{K:Fg}{e1:Expr}{a:AD}{p pos p2 p3 p4:Pos}
theorem w_isiLA{k:Nat}(hK:X.K=K)(hm:X.mg "isinstance"=none)(hm1:X.mg "list"=none)(hm2:X.mg "tuple"=none)(ha:WE X e1 (argT K a))(hg:Gl X "isinstance":=by rfl)(hg1:Gl X "list":=by rfl)(hg2:Gl X "tuple":=by rfl)(he:notStar e1=true:=by rfl) :
  WE X (.Call (.Name "isinstance" p) [e1,.Tuple [.Name "list" p2,.Name "tuple" p3] k p4] [] pos) (lift K (dOp [a] (o1 fIsiLA))):=by
 subst hK
 exact ⟨peM (pe_callB call_isiLA hg hm boot_isinstance (pa_cons ha.h (pa_cons (pe_tyT hm1 hm2 hg1 hg2) pa_nil (starEach_of rfl)) (starEach_of he)) (by decide) (by decide) (starEach_of he) (plain_of rfl)) λq=>arg1 (P:=λx H1=>∀p,H1 p=none->rIsiLA X.K [x,.ref p] (upd H1 p (.frz tyLT (.tup [.ty "list",.ty "tuple"]))) _) (l_op ok_isiLA q)⟩
end
noncomputable def fInI(neg:Bool):D->D->(Sl->Prop)->Prop
 | .int i,y,Q=>∃ns:List Int,seqD y=some (ns.map q0)/\Q (.fz (.bool (if neg then !decide (i∈ns) else decide (i∈ns))))
 | _,_,_=>False
theorem inV_ints(i:Int):∀ns:List Int,inV (.int i) (ns.map V.int)=decide (i∈ns)
 | []=>by simp[inV]
 | n :: ns=>by
  have:=inV_ints i ns
  simp only[inV,K1,X7]at this ⊢
  rw[this,o5]
  simp[eqV]
  constructor
  ·rintro (rfl|h)
   ·exact .inl rfl
   ·exact .inr h
  ·rintro (rfl|h)
   ·exact .inl rfl
   ·exact .inr h
theorem flat_ints(ns:List Int):(ns.map V.int).all flatV=true:=by
 rw[X4]
 intro x hx
 obtain⟨n,_,rfl⟩:=U0.mp hx
 rfl
theorem ok_inI{K:Fg}(neg:Bool):OpOk K (r2L (rIn K neg)) (o2 (fInI neg)):=ok2 λG F σ H ρ x y d e Q Qd R h1 h2 w k=>by
 cases d<;>first|exact w.elim|skip
 rename_i i
 obtain⟨ns,p1,w⟩:=w
 cases h1.int
 have fin:∀b,b=decide (i∈ns)->Q (.bl (if neg then !b else b)) H:=λb hb=>by
  subst hb
  exact k _ H F (.fz _) (Sub.refl _) R (Da.bl _) w
 cases e<;>first|cases p1|skip
 ·obtain⟨a,us,rfl,e1,d1⟩:=h2.list R.sub
  have:=d1.intsV
  subst this
  exact ⟨a,_,rfl,.inl (SqL.of e1),rfl,flat_ints ns,fin _ (inV_ints i ns)⟩
 ·obtain⟨a,us,rfl,_,e1,d1⟩:=h2.tuple R.sub
  have:=d1.intsV
  subst this
  exact ⟨a,_,rfl,.inr (SqT.of e1),rfl,flat_ints ns,fin _ (inV_ints i ns)⟩
section
variable {X:Cx}{K:Fg}{e1 e2:Expr}{a b:AD}{pos:Pos}
theorem op_notInK(hK:X.K=K):OpR X (compareOp .NotIn) (rIn K true):=by subst hK;exact op_notIn_seq
theorem t_notinI(hK:X.K=K)(ha:WE X e1 (argT K a))(hb:WE X e2 (argT K b))(hm:behindInMarks .NotIn e2=false:=by rfl):WT X (.Compare e1 [.NotIn] [e2] pos) (liftT K (dTst (dOp [a,b] (o2 (fInI true))))):=⟨ct2 (ok_inI true) (pt_cmpR (op_notInK hK) ha.h hb.h hm)⟩
end
noncomputable def frz(ρ:Ev):Ev:=ρ.map λx=>x.map λs=>Sl.fz s.d
theorem frz_get{ρ:Ev}{i:Nat}{t:Sl}(h:(frz ρ)[i]?=some (some t)):∃s,ρ[i]?=some (some s)/\t=.fz s.d:=by
 unfold frz at h
 rw[W0,u4]at h
 obtain⟨x,h1,h2⟩:=h
 cases x with
 | none=>cases h2
 | some s=>cases h2;exact ⟨s,h1,rfl⟩
theorem At.da{K:Fg}{F H:Hp}{v:V}{d:D}(s:Sub F H)(h:At K F H v d):Da K H v d:=by
 rcases h with h|⟨a,o,rfl,_,h2,h3⟩
 ·exact h.mono s
 ·exact (h3.mono s).da h2
section
variable {K:Fg}{G:Gh}{F H H':Hp}{σ:L2.St}{ρ:Ev}{a:Addr}{o:HO}{d:D}{v:V}
theorem Rel.all(R:Rel K G F σ H ρ):Rel K ⟨H,H,λ_=>none⟩ H σ H (frz ρ) where
 len:=by rw[frz,A0];exact R.len
 sub:=Sub.refl _
 sub0:=Sub.refl _
 fn:=λ_ _ e=>.inl e
 keep:=λ_ _ e _=>e
 fz:=λi d e=>by
  obtain⟨s,e1,e2⟩:=frz_get e
  cases e2
  obtain⟨v,ev⟩:=R.bound e1
  exact ⟨v,ev,(R.at e1 ev).da R.sub⟩
 ow:=λi s e w=>by obtain⟨s',_,rfl⟩:=frz_get e;cases w
 new:=λi d a e _=>by obtain⟨s',_,e2⟩:=frz_get e;cases e2
 io:=λi a e=>by cases e
 ioi:=λi d e=>by obtain⟨s',_,e2⟩:=frz_get e;cases e2
 ap:=λi j s t a e w=>by obtain⟨s',_,rfl⟩:=frz_get e;cases w
theorem Rel.more(R:Rel K G F σ H ρ)(s:Sub H H'):Rel K G F σ H' ρ:=R.turn (Sub.refl F) (λ_ _ e=>.inl e) (R.sub.trans s) s
theorem Rel.blank(R:Rel K G F σ H ρ){i:Nat}(hi:noIo ρ i):Rel K G F (σ.set i (some v)) H (ρ.set i none):=by
 have ni:∀d,ρ[i]?≠some (some (Sl.io d)):=λd e=>by unfold noIo at hi;rw[e]at hi;exact hi
 have R':=R.drop ni
 have no:∀{j:Nat}{s:Sl},(ρ.set i none)[j]?=some (some s)->j≠i:=λ{j s} e z=>by
  subst z
  rcases get_set e with⟨_,q⟩|⟨n,_⟩
  ·cases q
  ·exact n rfl
 refine ⟨by rw[N3];exact R'.len,R'.sub,R'.sub0,R'.fn,R'.keep,λj d e=>?_,λj t e wt=>?_,λj d b e eb=>?_,λj b e=>?_,R'.ioi,λj k t u b e1 w1 e2 w2 e3 e4=>?_⟩
 ·obtain⟨v',h1,h2⟩:=R'.fz j d e
  exact ⟨v',by rw[P0 (J1 (no e))];exact h1,h2⟩
 ·obtain⟨b,u,g1,g2,g3,g4⟩:=R'.ow j t e wt
  exact ⟨b,u,by rw[P0 (J1 (no e))];exact g1,g2,g3,g4⟩
 ·rw[P0 (J1 (no e))]at eb
  exact R'.new j d b e eb
 ·obtain⟨d,g1,g2⟩:=R'.io j b e
  exact ⟨d,g1,by rw[P0 (J1 (no g1))];exact g2⟩
 ·rw[P0 (J1 (no e1))]at e3
  rw[P0 (J1 (no e2))]at e4
  exact R'.ap j k t u b e1 w1 e2 w2 e3 e4
end
noncomputable def only(a:Addr)(o:HO):Hp:=λb=>if b=a then some o else none
section
variable {X:Cx}{K:Fg}{ec:Expr}{p p1 p2 p3 p4 p5 p6 p7 p8 p9 pa pb pc pd pe pf pg ph pi' pj:Pos}{x y a b:Str}{tc:TTD}
end
end L3
namespace L2
open PySem PySem.Spec PyProof.Rows
section
variable {P:Program}{w:World}{H:Hp}{h:Heap}{a:Addr}{o:HO}
theorem ObjOk.ob(x:ObjOk P w H h a o):∃u,h.get? a=some u:=by
 cases o with
 | lst xs=>obtain⟨_,_,_,_,e⟩:=x;exact ⟨_,e⟩
 | tup xs=>obtain⟨_,_,_,_,e,_⟩:=x;exact ⟨_,e⟩
 | dK kvs=>obtain⟨_,_,_,_,o,_,_,e,_⟩:=x;exact ⟨_,e⟩
 | dT kvs=>obtain⟨_,_,_,_,o,_,_,e,_⟩:=x;exact ⟨_,e⟩
 | set S n=>obtain⟨o,_,_,_,e,_⟩:=x;exact ⟨_,e⟩
 | ins C dx fs=>obtain⟨_,_,_,e,_⟩:=x;exact ⟨_,e⟩
 | own y=>exact x
 | xd fs=>obtain⟨_,⟨_,_,_,e,_⟩,_⟩:=x;exact ⟨_,e⟩
 | rng lo hi=>obtain⟨_,_,_,e⟩:=x;exact ⟨_,e⟩
 | frz ob u=>obtain⟨e,_⟩:=x;exact ⟨_,e⟩
 | tbl ps=>exact ⟨_,(show h.get? a=some _ from x)⟩
 | met f y=>exact ⟨_,(show h.get? a=some _ from x)⟩
 | ext φ=>exact x.2.1
theorem HOk.gone(x:HOk P w H h)(e:h.get? a=none):H a=none:=by
 cases q:H a with
 | none=>rfl
 | some u=>obtain⟨ob,z⟩:=(x a u q).ob;rw[e]at z;cases z
end
section
variable {X:Cx}{pins:List (Addr×Obj)}{σ:St}{H:Hp}{s:Shared}
end
end L2
namespace L3
open PySem PySem.Spec PyProof.Rows L2
theorem cutS{t u:TDS}{E:DE}{ρ:Ev}(J:Ev->Prop)(h1:∀N:Ev->Prop,(∀ρ',J ρ'->N ρ')->t { nx:=N,rt:=E.rt,bk:=E.bk,ct:=E.ct } ρ)(h2:∀ρ',J ρ'->u E ρ'):dSeq t u E ρ:=h1 _ h2
theorem gnC{i:Nat}{d:D}{ρ:Ev}{Q:Ev->Prop}(h:dGN i d ρ Q=Q (ρ.set i (some (.fz d))))(w:Q (ρ.set i (some (.fz d)))):dGN i d ρ Q:=by rw[h];exact w
end L3
namespace HT
open PySem PyProof.Rows
section
open PySem.SeqAt
open PySem.AutoSeq1 (wpAny_loadPart')
open PySem.MeetsSeq PySem.MeetsSeq2 PySem.MeetsSeq3
variable {prog:Program}{w:World}{A:Around}{E:Value->Shared->Prop}{s:Shared}
theorem whole_tup{t sl:Addr}{items:Array Value}{vl vu:Value}{lo hi:Option Int}{Q:Value->Shared->Prop}(hT:IsTup s.heap t items)(hS:s.heap.IsSliceOf sl vl vu .none)(p1:IsPart vl lo)(p2:IsPart vu hi)
  (z1:sIx items.size 0 lo=0) (z2:sIx items.size items.size hi=items.size) (q:Q (.ref t) s):wpAny (model prog w) A (getItem (.ref t) (.ref sl)) Q E s:=by
 obtain⟨os,g1,g2,g3⟩:=id hS
 have tS:s.TypeIs (.ref sl) "slice":=⟨os,g1,g2⟩
 unfold getItem
 try with_reducible refine wpAny_holding ?_
 first|refine wpAny_bind (wpAny_pure ?_)|skip
 refine wpAny_bind (wpAny_sequenceKey hT.typeIs (by decide) ?_)
 refine wpAny_bind (wpAny_callSpecial?_slot (name:=Str.ofString "__getitem__") hT.typeIs T3 (wpAny_call_entry T3 hT.typeIs entry_tuple_getitem ?_ (args_tuple_getitem _ _)))
 show wpAny _ _ (O6 (.ref t) >>= _) _ _ s
 refine wpAny_bind (tupleItemsOf_ hT (wpAny_bind (wpAny_typeOf tS ?_)))
 rw[if_pos (by decide)]
 refine wpAny_bind (sliceApplied_gen hS p1 p2 ?_)
 have yes:((((sIx items.size 0 lo:Nat):Int)==0&&(1:Int)==1&&(sIx items.size items.size hi - sIx items.size 0 lo)==items.size)=true):=by
  rw[z1,z2]
  simp
 show wpAny _ _ (if (((sIx items.size 0 lo:Nat):Int)==0&&(1:Int)==1&&(sIx items.size items.size hi - sIx items.size 0 lo)==items.size)=true then _ else _) _ _ s
 rw[if_pos yes]
 refine wpAny_bind (m:=Builtin.Tuple.tupleIsExact _) (wpAny_bind (wpAny_typeOf hT.typeIs (wpAny_pure ?_)))
 rw[if_pos (by decide)]
 exact wpAny_bind (wpAny_rule (wpAny_pure ⟨_,rfl,wpAny_pure q⟩))
end
end HT
namespace L2
open PySem PySem.Spec PyProof.Rows
noncomputable def rSlA(K:j0):V->Option Int->Option Int->Hp->VK->Prop:=λx lo hi H Q=>∃a xs,x=.ref a/\SqT K H a xs /\
 (cutV xs lo hi=xs->Q (.ref a) H)/\∀p,H p=none->Q (.ref p) (upd H p (.tup (cutV xs lo hi)))
theorem sl_tupA{X:Cx}:SlR X (rSlA X.K):=by
 intro pins s σ H x v vl vu lo hi sl Q I rx hS p1 p2 h
 obtain⟨a,xs,rfl,hx,q1,q2⟩:=h
 by_cases z:HT.sIx xs.length 0 lo=0/\HT.sIx xs.length xs.length hi=xs.length
 ·cases rx
  obtain⟨its,r,hT,hz⟩:=I.tuple hx
  have hl:its.toArray.size=xs.length:=by rw[L0];exact r.length.symm
  refine ⟨"tuple",_,T3.lookup,hT.typeIs,HT.whole_tup hT hS p1 p2 (by rw[hl];exact z.1) (by rw[hl];exact z.2) ⟨.ref a,H,I,rfl,q1 ?_⟩⟩
  unfold cutV
  rw[z.1,z.2]
  simp
 ·exact sl_tup pins s σ H (.ref a) v vl vu lo hi sl Q I rx hS p1 p2 ⟨a,xs,rfl,hx,z,q2⟩
theorem cutV_nn(xs:List V){i j:Int}(hi:0<=i)(hj:0<=j):cutV xs (some i) (some j)=(xs.take j.toNat).drop i.toNat:=by
 unfold cutV
 have e1:HT.sIx xs.length 0 (some i)=min i.toNat xs.length:=by
  show (if i < 0 then (i+(xs.length:Int)).toNat else min i.toNat xs.length)=_
  rw[if_neg (by omega)]
 have e2:HT.sIx xs.length xs.length (some j)=min j.toNat xs.length:=by
  show (if j < 0 then (j+(xs.length:Int)).toNat else min j.toNat xs.length)=_
  rw[if_neg (by omega)]
 rw[e1,e2,List.drop_take]
 by_cases h:i.toNat<=xs.length
 ·rw[P4 h]
  by_cases h2:j.toNat<=xs.length
  ·rw[P4 h2]
  ·rw[i6 (by omega),E2 (by rw[W4];omega),E2 (by rw[W4];omega)]
 ·rw[O2 (by omega),O2 (by omega)]
  simp
theorem cutV_hi(xs:List V){j:Int}(hj:0<=j):cutV xs none (some j)=xs.take j.toNat:=by
 unfold cutV
 have e2:HT.sIx xs.length xs.length (some j)=min j.toNat xs.length:=by
  show (if j < 0 then (j+(xs.length:Int)).toNat else min j.toNat xs.length)=_
  rw[if_neg (by omega)]
 rw[e2]
 show (xs.drop 0).take (min j.toNat xs.length - 0)=_
 rw[List.drop_zero,Nat.sub_zero]
 by_cases h2:j.toNat<=xs.length
 ·rw[P4 h2]
 ·rw[i6 (by omega),E2 (by omega),E2 (by omega)]
end L2
namespace L3
open PySem PySem.Spec PyProof.Rows L2
noncomputable def dSl3(a b c:AD)(f:D->Int->Int->(Sl->Prop)->Prop):TD:=λρ Q=>dArgs [a,b] ρ λxs ρ1=>looksQ ρ1 xs λds=>match ds with
 | [_,.int i]=>dArgs [c] ρ1 λzs ρ2=>looksQ ρ2 (xs.take 1++zs) λes=>match es with
  | [d,.int j]=>f d i j λr=>Q r ρ2
  | _=>False
 | _=>False
noncomputable def SlOk(K:Fg)(r:V->Option Int->Option Int->Hp->VK->Prop)(f:D->Int->Int->(Sl->Prop)->Prop):Prop :=
 ∀(G:Gh) (F:Hp) (σ:L2.St) (H:Hp) (ρ:Ev) (x:V) (i j:Int) (d:D) (Q:VK) (Qd:Sl->Prop),Rel K G F σ H ρ->At K F H x d->f d i j Qd ->
  (∀v H' F' s,Sub F F'->Rel K G F' σ H' ρ->Res K G F' H' σ ρ v s->Qd s->Q v H')->r x (some i) (some j) H Q
theorem l_sl3{K:Fg}{a b c:AD}{r:V->Option Int->Option Int->Hp->VK->Prop}{f:D->Int->Int->(Sl->Prop)->Prop}(ok:SlOk K r f){σ:L2.St}{H:Hp}{Q:VK}(h:lift K (dSl3 a b c f) σ H Q):tSl r (argT K a) (tPart (argT K b)) (tPart (argT K c)) σ H Q:=by
 obtain⟨G,F,ρ,Qd,R,w,k⟩:=h
 have main:tArgs ([a,b].map (argT K)) σ H λvs H2=>∃x y,vs=[x,y]/\∃i,y=.int i/\argT K c σ H2 λz H3=>∃j,z=.int j/\r x (some i) (some j) H3 Q:=by
  refine args_ok R w λvs H' F' xs ρ' sb R' o w1=>?_
  obtain⟨ds,ha,w1⟩:=looks_ok R' o w1
  split at w1
  ·rename_i dx i
   obtain⟨v,u,rfl,h1,h2⟩:=ha.two
   cases h2.int
   refine ⟨_,_,rfl,i,rfl,?_⟩
   refine arg1 (args_ok (as:=[c]) (Qv:=λvs H4=>∃z,vs=[z]/\∃j,z=.int j/\r v (some i) (some j) H4 Q) R' w1 λvs H2 F2 ys ρ2 s2 R2 o2 w2=>?_)
   cases o with|cons p1 t1=>?_
   cases t1 with|cons p2 t2=>?_
   cases t2
   obtain⟨es,hb,w2⟩:=looks_ok R2 (OpdsAt.cons (p1.mono s2) o2) w2
   split at w2
   ·rename_i d j
    cases hb with|cons q1 t3=>?_
    obtain⟨v3,rfl,h3⟩:=t3.one
    cases h3.int
    exact ⟨_,rfl,j,rfl,ok G F2 σ H2 ρ2 v i j d Q _ R2 q1 w2 λv' H3 F3 s3 sb3 R3 r3 q3=>k v' H3 F3 s3 ρ2 (sb.trans (s2.trans sb3)) R3 r3 q3⟩
   ·exact w2.elim
  ·exact w1.elim
 exact arg2 main
noncomputable def rSl2(r:V->Option Int->Option Int->Hp->VK->Prop):R2:=λx z H Q=>∃j,z=.int j/\r x none (some j) H Q
noncomputable def fSl3T:D->Int->Int->(Sl->Prop)->Prop
 | .tuple ds,i,j,Q=>0<=i/\0<=j/\Q (.fz (.tuple ((ds.take j.toNat).drop i.toNat)))
 | _,_,_,_=>False
noncomputable def fSl2T:D->D->(Sl->Prop)->Prop
 | .tuple ds,.int j,Q=>0<=j/\Q (.fz (.tuple (ds.take j.toNat)))
 | _,_,_=>False
theorem ok_sl3T{K:Fg}:SlOk K (rSlA K) fSl3T:=λG F σ H ρ x i j d Q Qd R h1 w k=>by
 cases d<;>first|exact w.elim|skip
 rename_i ds
 obtain⟨w1,w2,w⟩:=w
 obtain⟨a,us,rfl,f1,e1,d1⟩:=h1.tuple R.sub
 have dc:=(d1.take j.toNat).drop i.toNat
 refine ⟨a,us,rfl,SqT.of e1,λz=>?_,λp hp=>?_⟩
 ·rw[cutV_nn us w1 w2]at z
  refine k _ H F (.fz _) (Sub.refl _) R (Da.tup f1 ?_) w
  rw[z]at dc
  exact dc
 ·rw[cutV_nn us w1 w2]
  obtain⟨sb,R',dd⟩:=R.newTup hp dc
  exact k _ _ _ (.fz _) sb R' dd w
theorem ok_sl2T{K:Fg}:OpOk K (r2L (rSl2 (rSlA K))) (o2 fSl2T):=ok2 λG F σ H ρ x y d e Q Qd R h1 h2 w k=>by
 cases d<;>first|exact w.elim|(cases e<;>first|exact w.elim|skip)
 rename_i ds j
 obtain⟨w1,w⟩:=w
 cases h2.int
 obtain⟨a,us,rfl,f1,e1,d1⟩:=h1.tuple R.sub
 have dc:=d1.take j.toNat
 refine ⟨j,rfl,a,us,rfl,SqT.of e1,λz=>?_,λp hp=>?_⟩
 ·rw[cutV_hi us w1]at z
  refine k _ H F (.fz _) (Sub.refl _) R (Da.tup f1 ?_) w
  rw[z]at dc
  exact dc
 ·rw[cutV_hi us w1]
  obtain⟨sb,R',dd⟩:=R.newTup hp dc
  exact k _ _ _ (.fz _) sb R' dd w
section
variable {X:Cx}{K:Fg}{e1 e2 e3:Expr}{a b c:AD}{p pos p2 apos cpos:Pos}{x:Str}
theorem w_sl3T(hK:X.K=K)(ha:WE X e1 (argT K a))(hb:WE X e2 (argT K b))(hc:WE X e3 (argT K c)):WE X (.Subscript e1 (.Slice (some e2) (some e3) none p2) pos) (lift K (dSl3 a b c fSl3T)):=by
 subst hK
 exact ⟨peM (pe_slice sl_tupA ha.h (po_some hb.h) (po_some hc.h)) λq=>l_sl3 ok_sl3T q⟩
theorem w_sl2T(hK:X.K=K)(ha:WE X e1 (argT K a))(hb:WE X e2 (argT K b)):WE X (.Subscript e1 (.Slice none (some e2) none p2) pos) (lift K (dOp [a,b] (o2 fSl2T))):=by
 subst hK
 exact ⟨peM (pe_slice sl_tupA ha.h po_none (po_some hb.h)) λq=>arg2 (P:=λx z H=>rSl2 (rSlA X.K) x z H _) (l_op ok_sl2T q)⟩
end
theorem noIo_frz{ρ:Ev}{x:Nat}(nx:noIo ρ x):noIo (frz ρ) x:=by
 unfold noIo
 cases e:(frz ρ)[x]? with
 | none =>
  unfold noIo at nx
  unfold frz at e
  rw[W0,Option.map_eq_none_iff]at e
  rw[e]at nx
  exact nx
 | some y =>
  cases y with
  | none=>trivial
  | some s=>obtain⟨s',_,rfl⟩:=frz_get e;trivial
section
variable {X:Cx}{K:Fg}{ec:Expr}{p p1 p2 p3 p4 p5 p6 p7 p8 p9 pa pb pc pd pe pf pg ph pi' pj pk pl:Pos}{x y a b c:Str}{tc:TTD}
end
section
variable {X:Cx}{K:Fg}{e e1:Expr}{a:AD}{p p2 pos pos':Pos}
end
end L3
namespace L2
open PySem PySem.Spec PyProof.Rows PySem.W
noncomputable abbrev Bxx:=List Int×List Int
noncomputable def ltB(x y:Bxx):Bool:=if x.1=y.1 then HT.lexLt x.2 y.2 else HT.lexLt x.1 y.1
theorem ltB_wk:SG.Wk ltB:=by
 have W:=SG.lex_wk
 refine ⟨λa=>?_,λa b c h1 h2=>?_,λa b c h1 h2=>?_⟩
 ·unfold ltB;rw[if_pos rfl];exact W.irr _
 ·unfold ltB at h1 h2 ⊢
  by_cases e1:a.1=b.1
  ·rw[if_pos e1]at h1
   by_cases e2:b.1=c.1
   ·rw[if_pos e2]at h2
    rw[if_pos (e1.trans e2)]
    exact W.tr _ _ _ h1 h2
   ·rw[if_neg e2]at h2
    rw[if_neg (by rw[e1];exact e2),e1]
    exact h2
  ·rw[if_neg e1]at h1
   by_cases e2:b.1=c.1
   ·rw[if_neg (by rw[<- e2];exact e1),<- e2]
    exact h1
   ·rw[if_neg e2]at h2
    have h3:=W.tr _ _ _ h1 h2
    rw[if_neg (λz=>by rw[z,W.irr]at h3;cases h3)]
    exact h3
 ·unfold ltB at h1 h2 ⊢
  by_cases e1:a.1=b.1
  ·rw[if_pos e1]at h1
   by_cases e2:b.1=c.1
   ·rw[if_pos e2]at h2
    rw[if_pos (e1.trans e2)]
    exact W.nt _ _ _ h1 h2
   ·rw[if_neg e2]at h2
    rw[if_neg (by rw[e1];exact e2),e1]
    exact h2
  ·rw[if_neg e1]at h1
   by_cases e2:b.1=c.1
   ·rw[if_neg (by rw[<- e2];exact e1),<- e2]
    exact h1
   ·rw[if_neg e2]at h2
    have h3:=W.nt _ _ _ h1 h2
    by_cases e3:a.1=c.1
    ·exfalso
     rw[<- e3]at h2
     exact e1 (SG.lex_eq h1 h2)
    ·rw[if_neg e3];exact h3
theorem ltB_eq{a b:Bxx}(h1:ltB a b=false)(h2:ltB b a=false):a=b:=by
 unfold ltB at h1 h2
 by_cases e:a.1=b.1
 ·rw[if_pos e]at h1
  rw[if_pos e.symm]at h2
  have:=SG.lex_eq h1 h2
  cases a;cases b;cases e;cases this;rfl
 ·rw[if_neg e]at h1
  rw[if_neg (λz=>e z.symm)]at h2
  exact absurd (SG.lex_eq h1 h2) e
noncomputable def RepB(H:Hp)(c:Addr)(x:Bxx):Prop:=∃a b,H c=some (.tup [.ref a,.ref b])/\H a=some (.tup (x.1.map V.int))/\H b=some (.tup (x.2.map V.int))
noncomputable def fnB(H:Hp):V->Bxx
 | .ref c=>match H c with
  | some (.tup [x,y])=>(fnT H x,fnT H y)
  | _=>([],[])
 | _=>([],[])
theorem fnT_is{H:Hp}{c:Addr}{r:List Int}(h:H c=some (.tup (r.map V.int))):fnT H (.ref c)=r:=by
 show (match H c with|some (.tup xs)=>xs.map unV|_=>[])=r
 rw[h]
 exact unV_ints r
theorem fnB_of(H:Hp)(c:Addr)(x:Bxx)(h:RepB H c x):fnB H (.ref c)=x:=by
 obtain⟨a,b,h1,h2,h3⟩:=h
 show (match H c with|some (.tup [x,y])=>(fnT H x,fnT H y)|_=>([],[]))=x
 rw[h1]
 show (fnT H (.ref a),fnT H (.ref b))=x
 rw[fnT_is h2,fnT_is h3]
theorem eqTupB{X:Cx}{pins:List (Addr×Obj)}{σ:St}{H:Hp}{s:Shared}{a b:Addr}{x y:List Int}{A:Around}(I:Inv X pins σ H s)(hu:A.units < cLine)(ha:H a=some (.tup (x.map V.int)))(hb:H b=some (.tup (y.map V.int))){s':Shared}(k:∀b o,s.heap.get? b=some o->s'.heap.get? b=some o) :
  SeqAt.EqAt A s' (.ref a) (.ref b) (decide (x=y)):=by
 by_cases e:a=b
 ·subst e
  rw[ha]at hb
  injection hb with hb;injection hb with hb
  rw[ints_inj hb,decide_eq_true rfl]
  exact SeqAt.EqAt.same _
 ·have I':Inv X pins σ H { s with heap:=s'.heap }:=I.kept (t':=s.toks) k
  obtain⟨_,ia,ra,ta⟩:=(show ObjOk X.prog X.w H s'.heap a (.tup (x.map V.int)) from I'.hok a _ ha)
  obtain⟨_,ib,rb,tb⟩:=(show ObjOk X.prog X.w H s'.heap b (.tup (y.map V.int)) from I'.hok b _ hb)
  have la:=ra.length
  have lb:=rb.length
  rw[A0]at la lb
  have h:=SeqAt.RcAt.tuples (A:=A) (s:=s') (e:=λk=>x.getD k 0==y.getD k 0) ta.t tb.t hu λj h1 h2=>by
   obtain⟨t1,e1⟩:=vals_intsAt ra (k:=j) (by simpa using h1)
   obtain⟨t2,e2⟩:=vals_intsAt rb (k:=j) (by simpa using h2)
   simp only[List.getElem_toArray]
   rw[e1,e2]
   exact SeqAt.EqAt.int_int _ _ _ _
  have hv:((A2 (min ia.toArray.size ib.toArray.size)).all (λk=>x.getD k 0==y.getD k 0)&&ia.toArray.size==ib.toArray.size)=decide (x=y):=by
   simp only[L0,<- la,<- lb]
   by_cases z:x=y
   ·subst z
    rw[decide_eq_true rfl]
    simp
   ·rw[decide_eq_false z,E1]
    intro hb
    rw[Y0,X4,beq_iff_eq]at hb
    refine z (List.ext_getElem hb.2 λk k1 k2=>?_)
    have:=hb.1 k (Y2.mpr (by omega))
    rw[beq_iff_eq,Q0,Q0,J0 k1,J0 k2]at this
    exact this
  rw[<- hv]
  exact SeqAt.EqAt.of_refs e h
end L2
namespace L3
open PySem PySem.Spec PyProof.Rows L2
noncomputable abbrev boxD(b:Bxx):D:=.tuple [.tuple (b.1.map q0),.tuple (b.2.map q0)]
theorem da_box{K:Fg}{F:Hp}{v:V}{r:Bxx}(h:Da K F v (boxD r)):∃c,v=.ref c/\RepB F c r:=by
 cases h with
 | tup h t =>
  cases t with
  | cons h1 t =>
   cases t with
   | cons h2 t =>
    cases t
    obtain⟨a,rfl,ha⟩:=da_tup h1
    obtain⟨b,rfl,hb⟩:=da_tup h2
    exact ⟨_,rfl,a,b,h,ha,hb⟩
theorem repB_da{K:Fg}{F:Hp}{c:Addr}{r:Bxx}(h:RepB F c r):Da K F (.ref c) (boxD r):=by
 obtain⟨a,b,h1,h2,h3⟩:=h
 exact .tup h1 (.cons (.tup h2 (DaAll.ints _)) (.cons (.tup h3 (DaAll.ints _)) .nil))
theorem cutV_lo(us:List V){i:Int}(h:0<=i):cutV us (some i) none=us.drop i.toNat:=by
 unfold cutV
 have e1:HT.sIx us.length 0 (some i)=min i.toNat us.length:=by
  show (if i < 0 then (i+(us.length:Int)).toNat else min i.toNat us.length)=_
  rw[if_neg (by omega)]
 rw[e1]
 show (us.drop (min i.toNat us.length)).take (us.length - min i.toNat us.length)=_
 rw[E2 (by rw[W4];exact N0 _)]
 by_cases z:i.toNat<=us.length
 ·rw[P4 z]
 ·rw[i6 (by omega),O2 (N0 _),O2 (by omega)]
noncomputable def rSl1(r:V->Option Int->Option Int->Hp->VK->Prop):R2:=λx z H Q=>∃j,z=.int j/\r x (some j) none H Q
noncomputable def fSl1T:D->D->(Sl->Prop)->Prop
 | .tuple ds,.int j,Q=>0<=j/\Q (.fz (.tuple (ds.drop j.toNat)))
 | _,_,_=>False
theorem ok_sl1T{K:Fg}:OpOk K (r2L (rSl1 (rSlA K))) (o2 fSl1T):=ok2 λG F σ H ρ x y d e Q Qd R h1 h2 w k=>by
 cases d<;>first|exact w.elim|(cases e<;>first|exact w.elim|skip)
 rename_i ds j
 obtain⟨w1,w⟩:=w
 cases h2.int
 obtain⟨a,us,rfl,f1,e1,d1⟩:=h1.tuple R.sub
 have dc:=d1.drop j.toNat
 refine ⟨j,rfl,a,us,rfl,SqT.of e1,λz=>?_,λp hp=>?_⟩
 ·rw[cutV_lo us w1]at z
  refine k _ H F (.fz _) (Sub.refl _) R (Da.tup f1 ?_) w
  rw[z]at dc
  exact dc
 ·rw[cutV_lo us w1]
  obtain⟨sb,R',dd⟩:=R.newTup hp dc
  exact k _ _ _ (.fz _) sb R' dd w
theorem w_sl1T{X:Cx}{K:Fg}{e1 e2:Expr}{a b:AD}{pos p2:Pos}(hK:X.K=K)(ha:WE X e1 (argT K a))(hb:WE X e2 (argT K b)):WE X (.Subscript e1 (.Slice (some e2) none none p2) pos) (lift K (dOp [a,b] (o2 fSl1T))):=by
 subst hK
 exact ⟨peM (pe_slice sl_tupA ha.h (po_some hb.h) po_none) λq=>arg2 (P:=λx z H=>rSl1 (rSlA X.K) x z H _) (l_op ok_sl1T q)⟩
end L3
namespace L2
open PySem PySem.Spec PyProof.Rows
theorem args_sumTwo(a b:Value):argsOk "sum" ⟨[a,b],[]⟩:=by unfold argsOk;kernel_rfl
theorem subL_str:isSubtype (.type "list") (.type "str")=pure false:=by rw[isSubtype_type];kernel_rfl
theorem subL_bytes:isSubtype (.type "list") (.type "bytes")=pure false:=by rw[isSubtype_type];kernel_rfl
theorem subL_barr:isSubtype (.type "list") (.type "bytearray")=pure false:=by rw[isSubtype_type];kernel_rfl
noncomputable abbrev LsAt(h:Heap)(a:Addr)(its:List Value):Prop:=∃n,h.get? a=some { cls:=.type "list",data:=.seq its.toArray n }
section
variable {prog:Program}{w:World}{A:Around}{I:Addr}{fp wr:List Addr}{n:Nat}{P:Nat->Value->Prop}{St:Nat->Heap->Prop}
theorem sumcat_loop{R:Result->Shared->Prop}{h0:Heap}(W:Walks prog w A.in1 I fp wr n P St)(S:Addr)(hS:S∉fp)(ls:List (Addr×List Value))(hn:ls.length=n)(hP:∀i v,P i v->∃p,ls[i]?=some p/\v=.ref p.1)(hw:∀b∈wr,h0.get? b=none)(hS0:h0.get? S=none)(hl:∀p∈ls,LsAt h0 p.1 p.2)(hx:∀i h,St i h->∀b∈wr,∃o,h.get? b=some o) :
  ∀(k i:Nat) (s:Shared) (acc:Addr) (its:List Value) (c:Nat),n - i=k->i<=n->St i s.heap->s.heap.get? S=some { cls:=.type "list",data:=.seq #[.ref acc] c }->LsAt s.heap acc its ->
  acc∉wr->its.length+((ls.drop i).map (·.2)).flatten.length<=sizeLine->(∀b o,h0.get? b=some o->s.heap.get? b=some o)->(0 < i->h0.get? acc=none) ->
  (∀h' tk a',(∀b o,h0.get? b=some o->h'.get? b=some o)->LsAt h' a' (its++((ls.drop i).map (·.2)).flatten)->(0 < n->h0.get? a'=none)->R (.ok (.ret (.ref a'))) { s with heap:=h',toks:=tk }) ->
  codeAny (model prog w) A (.builtin "sum.loop" ⟨[.ref I,.ref S,rawInt 2,rawInt 0],[]⟩) R s:=by
 have nw:S∉wr:=λh=>hS (W.sub _ h)
 have n0:∀{b:Addr}{o:Obj},h0.get? b=some o->b∉wr:=λe z=>by rw[hw _ z]at e;cases e
 intro k
 induction k with
 | zero =>
  intro i s acc its c hk hi st eS ea na hz kb ka q
  have e:i=n:=by omega
  subst e
  refine codeAny_builtin F.entry_sum_loop ?_;rw[Around.under_plainId F.plain_sum_loop _]
  refine (?_:wpAny _ A.in1 (seqItems? (.ref S) >>= _) _ _ s)
  refine wpAny_bind (wpAny_seqItems eS rfl ?_)
  refine (?_:wpAny _ A.in1 (tryCatch (pyNext (.ref I)) _ >>= _) _ _ s)
  refine wpAny_bind (wpAny_tryCatch (W.done s _ _ st λh' tk kp=>?_))
  refine wpAny_pure (q h' tk acc (λb o e=>kp b o (n0 e) (kb b o e)) ?_ ka)
  obtain⟨m,e⟩:=ea
  rw[O2 (by omega)]
  simp only[O3,List.flatten_nil,S3]
  exact ⟨m,kp _ _ na e⟩
 | succ k ih =>
  intro i s acc its c hk hi st eS ea na hz kb ka q
  have lt:i < n:=by omega
  refine codeAny_builtin F.entry_sum_loop ?_;rw[Around.under_plainId F.plain_sum_loop _]
  refine (?_:wpAny _ A.in1 (seqItems? (.ref S) >>= _) _ _ s)
  refine wpAny_bind (wpAny_seqItems eS rfl ?_)
  refine (?_:wpAny _ A.in1 (tryCatch (pyNext (.ref I)) _ >>= _) _ _ s)
  refine wpAny_bind (wpAny_tryCatch (W.item i s _ _ lt st λv h1 tk pv st1 kp=>?_))
  obtain⟨p,ep,rfl⟩:=hP i v pv
  obtain⟨m1,e1⟩:=hl p (Q1 ep)
  obtain⟨m2,e2⟩:=ea
  have f1:=kp _ _ (n0 e1) (kb _ _ e1)
  have f2:=kp _ _ na e2
  have f3:=kp _ _ nw eS
  have kb1:∀b o,h0.get? b=some o->h1.get? b=some o:=λb o e=>kp b o (n0 e) (kb b o e)
  have hd:ls.drop i=p :: ls.drop (i+1):=by
   obtain⟨hlt,e⟩:=X0.mp ep
   rw[S6 hlt,e]
  have hz2:its.length+p.2.length+((ls.drop (i+1)).map (·.2)).flatten.length<=sizeLine:=by
   rw[hd]at hz
   simp only[K1,B3,Z0]at hz
   omega
  have hnew:h0.get? h1.objs.size=none:=by
   cases e:h0.get? h1.objs.size with
   | none=>rfl
   | some o=>exact absurd (B0 (kb1 _ _ e)) (X1 _)
  have nS1:S≠h1.objs.size:=S0 (B0 f3)
  have hin:∀b∈fp,b≠S:=λb hb z=>hS (z ▸ hb)
  show wpAny _ A.in1 ((holding [G2 p.1] (binaryOp .Add (.ref acc) (.ref p.1))).attempt >>= _) _ _ _
  refine wpAny_bind (wpAny_attempt (wpAny_holding (PySem.P.add_list f2 f1 ?_ (by rw[L0,L0];omega))))
  show wpAny _ A.in1 (updateSeq S (λ_=>#[.ref h1.objs.size]) >>= _) _ _ _
  refine wpAny_bind ?_
  have g3:=i0 { cls:=.type "list",data:=.seq (its.toArray++p.2.toArray) } f3
  refine wpAny_updateSeq g3 rfl ?_
  have g4:=J2 (S1 λ_=>#[G2 h1.objs.size]) g3 rfl
  refine wpAny_bind (wpAny_letGo ?_)
  refine wpAny_bind ?_
  refine wpAny_updateSeq g4 rfl ?_
  have up:∀b o,b≠S->h1.get? b=some o->(((h1.push { cls:=.type "list",data:=.seq (its.toArray++p.2.toArray) }).update S (S1 λ_=>#[G2 h1.objs.size])).update S (S1 λ_=>#[G2 h1.objs.size])).get? b=some o:=λb o hb e=>by
   rw[Y1 _ _ (J1 hb),Y1 _ _ (J1 hb)]
   exact i0 _ e
  have nwr:h1.objs.size∉wr:=λz=>by
   obtain⟨o,e⟩:=hx _ _ st1 _ z
   exact absurd (B0 e) (X1 _)
  refine wpAny_pure ⟨plainId_quiet F.plain_sum_loop _,ih (i+1) _ h1.objs.size (its++p.2) _ (by omega) lt (W.frame _ _ _ st1 λb hb o e=>up b o (hin b hb) e) (J2 _ g4 rfl) ⟨0,?_⟩ nwr (by rw[Z0];exact hz2)
    (λb o e=>up b o (λz=>by rw[z,hS0]at e;cases e) (kb1 b o e)) (λ_=>hnew) λh' tk' a' kp' la hx=>?_⟩
  ·rw[Y1 _ _ nS1,Y1 _ _ nS1,K0 _ rfl]
   simp
  ·refine q h' tk' a' kp' ?_ hx
   rw[hd]
   simp only[K1,B3]
   rw[<- U5]
   exact la
theorem call_sumcat{E:Value->Shared->Prop}{s:Shared}{a b:Addr}{ls:List (Addr×List Value)}{Q:Value->Shared->Prop}(hh:A.handled=none)(ha:LsAt s.heap a (ls.map λp=>.ref p.1))(hb:LsAt s.heap b [])(hl:∀p∈ls,LsAt s.heap p.1 p.2)(hz:((ls.map (·.2)).flatten.length)<=sizeLine)(hne:ls≠[])
  (q:∀h' tk a',(∀b o,s.heap.get? b=some o->h'.get? b=some o)->LsAt h' a' (ls.map (·.2)).flatten->s.heap.get? a'=none->Q (.ref a') { s with heap:=h',toks:=tk }):wpAny (model prog w) A (call (.builtin "sum") [.ref a,.ref b]) Q E s:=by
 obtain⟨na,ea⟩:=ha
 obtain⟨nb,eb⟩:=hb
 have hlt:=B0 ea
 refine call_function_tree F.kind_sum F.plain_sum F.entry_sum (args_sumTwo _ _) ?_
 unfold Builtin.«sum»
 simp only[Z1,O5];rw[if_neg (by decide)]
 refine wpAny_bind (wpAny_of_eq (show Builtin.Builtins.bindParams "sum" ["start"] 0 ⟨[.ref b],[]⟩=pure [some (.ref b)] from rfl) ?_)
 have il:s.heap.IsList a (ls.map λp=>G2 p.1).toArray:=⟨_,ea,rfl,na,rfl⟩
 refine wpAny_bind (wpAny_pyIter_list il ?_)
 refine wpAny_bind (wpAny_pure ?_)
 simp only[j4,G4]
 have tb:∀tk g d os (o:Obj),(⟨s.heap.push o,g,d,tk,os⟩:Shared).TypeIs (.ref b) "list":=λ_ _ _ _ _=>⟨_,i0 _ eb,rfl⟩
 refine wpAny_bind (wpAny_bind (wpAny_bind (wpAny_isInstance (T:="list") (b:=false) (tb _ _ _ _ _) subL_str ?_)))
 simp only[X2,if_false]
 refine wpAny_pure (wpAny_bind (wpAny_bind (wpAny_isInstance (T:="list") (b:=false) (tb _ _ _ _ _) subL_bytes ?_)))
 simp only[X2,if_false]
 refine wpAny_pure (wpAny_bind (wpAny_bind (wpAny_isInstance (T:="list") (b:=false) (tb _ _ _ _ _) subL_barr ?_)))
 simp only[X2,if_false]
 refine wpAny_pure (wpAny_pure ?_)
 refine wpAny_bind (wpAny_newObj_type ?_)
 have W:=Walks.list (prog:=prog) (w:=w) (A:=A.in1) hh s.heap.objs.size a (S0 hlt) (ls.map λp=>G2 p.1).toArray
 have e0:(s.heap.push { cls:=.type "list_iterator",data:=.fields #[.ref a,.int 0 0] }).objs.size=s.heap.objs.size+1:=L1 _ _
 have fr:∀{c:Addr},s.heap.objs.size<=c->s.heap.get? c=none:=λ{c} hc=>O7 hc
 refine wpAny_pure ⟨plainId_quiet F.plain_sum_loop _,sumcat_loop (h0:=s.heap) W (s.heap.push { cls:=.type "list_iterator",data:=.fields #[.ref a,.int 0 0] }).objs.size (λhm=>?_) ls (by simp) (λi v hv=>?_) (λc hc=>fr ?_) (fr (by rw[e0];omega)) hl (λi h st c hc=>?_)
   ls.length 0 _ b [] 0 (by simp) (B4 _) ⟨⟨_,i0 _ (K0 _ rfl),rfl,rfl⟩,(il.push _).push _⟩ (K0 _ rfl) ⟨nb,i0 _ (i0 _ eb)⟩ (λhc=>?_) (by simpa using hz)
   (λc o e=>i0 _ (i0 _ e)) (λz=>absurd z (X1 _)) λh' tk a' kp la hx=>?_⟩
 ·rw[e0]at hm
  simp only[B1,List.not_mem_nil,or_false]at hm
  rcases hm with hm|hm
  ·exact absurd hm (j1 (Nat.lt_succ_self _))
  ·exact absurd hm (j1 (V5 hlt))
 ·have hv:(ls.map λp=>G2 p.1).toArray[i]?=some v:=hv
  rw[List.getElem?_toArray,W0]at hv
  cases e:ls[i]? with
  | none=>rw[e]at hv;cases hv
  | some p=>rw[e]at hv;cases hv;exact ⟨p,rfl,rfl⟩
 ·have hc:c=s.heap.objs.size:=by simpa using hc
  exact m8 hc.symm
 ·have hc:c=s.heap.objs.size:=by simpa using hc
  subst hc
  obtain⟨⟨o,e,_⟩,_⟩:=st
  exact ⟨o,e⟩
 ·have hc:b=s.heap.objs.size:=by simpa using hc
  exact absurd hc (S0 (B0 eb))
 ·refine q h' tk a' kp (by simpa using la) (hx ?_)
  cases ls with
  | nil=>exact absurd rfl hne
  | cons p r=>simp
end
noncomputable def rSumL:List V->Hp->VK->Prop:=λxs H Q=>∃(a b:Addr) (ls:List (Addr×List V)),xs=[.ref a,.ref b]/\H a=some (.lst (ls.map λp=>.ref p.1))/\H b=some (.lst [])/\(∀p∈ls,H p.1=some (.lst p.2))/\ls≠[]/\(ls.map (·.2)).flatten.length<=sizeLine/\∀p,H p=none->Q (.ref p) (upd H p (.lst (ls.map (·.2)).flatten))
theorem refsL:∀{ls:List (Addr×List V)}{us:List Value},Vals (ls.map λp=>V.ref p.1) us->us=ls.map λp=>G2 p.1
 | [],_,r=>by cases r;rfl
 | p :: ls,_,r=>by
  cases r with
  | cons r1 r2=>cases r1;rw[refsL r2];rfl
theorem valsL{P:Program}{w:World}{H:Hp}{h:Heap}(ok:HOk P w H h):∀{ls:List (Addr×List V)},(∀p∈ls,H p.1=some (.lst p.2))->∃us:List (Addr×List Value),us.map (·.1)=ls.map (·.1)/\(∀p∈us,LsAt h p.1 p.2)/\Vals (ls.map (·.2)).flatten (us.map (·.2)).flatten
 | [],_=>⟨[],rfl,λ_ z=>(by cases z),.nil⟩
 | p :: ls,hp=>by
  obtain⟨us,e1,e2,e3⟩:=valsL ok (ls:=ls) λq hq=>hp q (G0 _ hq)
  obtain⟨z,its,n,r,e⟩:=ok p.1 _ (hp p M0)
  refine ⟨(p.1,its) :: us,by simp[e1],λq hq=>?_,?_⟩
  ·rcases B1.mp hq with rfl|hq
   ·exact ⟨n,e⟩
   ·exact e2 q hq
  ·simp only[K1,B3]
   exact r.append e3
theorem Inv.laidN{X:Cx}{pins:List (Addr×Obj)}{σ:St}{H:Hp}{s:Shared}{h':Heap}{a:Addr}{o:HO}{t':Nat}(I:Inv X pins σ H s)(k:∀b u,s.heap.get? b=some u->h'.get? b=some u)(hp:s.heap.get? a=none)(new:ObjOk X.prog X.w (upd H a o) h' a o):Inv X pins σ (upd H a o) { s with heap:=h',toks:=t' }:=by
 have hn:=HOk.gone I.hok hp
 have ne:∀{b u},s.heap.get? b=some u->b≠a:=λq z=>by rw[z,hp]at q;cases q
 refine I.un ⟨λb u q _ _ _=>k b u q,λb u q _ _ _=>⟨u.slots,k b u q⟩,λb u q n _=>by rw[upd_ne (ne q)];exact n,λb u q _=>⟨u,k b u q⟩,λb xs q=>by rw[upd_ne (ne_of_none q hn)];exact q,λb u v q=>by rw[upd_ne (ne_of_none q hn)];exact q,λb ps q=>⟨#[],by rw[upd_ne (ne_of_none q hn),q];simp⟩⟩ λb u e=>?_
 by_cases hb:b=a
 ·subst hb;rw[upd_same]at e;cases e;exact new
 ·rw[upd_ne hb]at e
  exact (I.hok b u e).stay (λc v _ q=>k c v q) (λc q=>by rw[upd_ne (ne_of_none q hn)];exact q) λc xs q=>by rw[upd_ne (ne_of_none q hn)];exact q
theorem call_sumL{X:Cx}(hc:X.calm=true):CallR X (.builtin "sum") (L3.r2L λx y H Q=>rSumL [x,y] H Q):=by
 intro pins s σ H xs us Q I r h
 obtain⟨x,y,rfl,a,b,ls,e,ha,hb,hl,hne,hz,q⟩:=h
 cases e
 obtain⟨u1,u2,rfl,r1,r2⟩:=vals2 r
 cases r1
 cases r2
 obtain⟨z1,ia,n1,v1,_,e1⟩:=I.lstM ha
 obtain⟨z2,ib,n2,v2,_,e2⟩:=I.lstM hb
 have:=refsL v1
 subst this
 cases v2
 obtain⟨vs,m1,m2,m3⟩:=valsL I.hok hl
 have em:(ls.map λp=>G2 p.1)=vs.map λp=>G2 p.1:=by
  have:=congrArg (List.map G2) m1
  simpa [T1,Function.comp_def]using this.symm
 refine call_sumcat (I.ok.hd hc) (ls:=vs) (by rw[<- em];exact ⟨n1,e1⟩) ⟨n2,e2⟩ m2 (by rw[<- m3.length];exact hz) (λz=>hne ?_) λh' tk a' kp ⟨m,la⟩ hx=>?_
 ·subst z
  cases ls with
  | nil=>rfl
  | cons p r=>cases m1
 ·refine ⟨.ref a',_,?_,rfl,q a' (HOk.gone I.hok hx)⟩
  exact I.laidN kp hx ⟨hz,_,m,m3,la⟩
end L2
namespace L3
open PySem PySem.Spec PyProof.Rows L2
noncomputable def unL:D->List D
 | .list l=>l
 | _=>[]
noncomputable def fSumL:D->D->(Sl->Prop)->Prop
 | .list ds,.list [],Q=>∃lss:List (List D),ds=lss.map Q3/\lss≠[]/\lss.flatten.length<=sizeLine/\Q (.ow (.list lss.flatten))
 | _,_,_=>False
theorem sum_parts{K:Fg}{F H:Hp}(s:Sub F H):∀{xs:List V}{lss:List (List D)},DaAll K F xs (lss.map Q3)->∃ls:List (Addr×List V),xs=ls.map (λp=>V.ref p.1)/\(∀p∈ls,H p.1=some (.lst p.2))/\ls.length=lss.length/\DaAll K F (ls.map (·.2)).flatten lss.flatten
 | [],[],_=>⟨[],rfl,λ_ z=>(by cases z),rfl,.nil⟩
 | x :: xs,l :: lss,.cons h t=>by
  obtain⟨ls,e1,e2,e3,e4⟩:=sum_parts s t
  cases h with
  | @lst a us _ e d =>
   refine ⟨(a,us) :: ls,by rw[e1];rfl,λp hp=>?_,by simp[e3],?_⟩
   ·rcases B1.mp hp with rfl|hp
    ·exact s _ _ e
    ·exact e2 p hp
   ·simp only[K1,B3]
    exact d.append e4
theorem ok_sumL{K:Fg}:OpOk K (r2L λx y H Q=>rSumL [x,y] H Q) (o2 fSumL):=ok2 λG F σ H ρ x y d e Q Qd R h1 h2 w k=>by
 cases d<;>first|exact w.elim|skip
 cases e<;>first|exact w.elim|skip
 rename_i ds es
 cases es with
 | cons _ _=>exact w.elim
 | nil =>
  obtain⟨lss,rfl,hne,hz,w⟩:=w
  obtain⟨a,us,rfl,e1,d1⟩:=h1.list R.sub
  obtain⟨b,vs,rfl,e2,d2⟩:=h2.list R.sub
  cases d2
  obtain⟨ls,rfl,g2,g3,g4⟩:=sum_parts R.sub d1
  refine ⟨a,b,ls,rfl,e1,e2,g2,λz=>hne ?_,by rw[g4.length];exact hz,λp hp=>?_⟩
  ·subst z
   exact List.eq_nil_of_length_eq_zero g3.symm
  ·obtain⟨R',r'⟩:=R.newOw (o:=.lst (ls.map λq:Addr×List V=>q.2).flatten) (d:=.list lss.flatten) hp g4
   exact k _ _ F _ (Sub.refl _) R' r' w
noncomputable def GT(K:Fg)(mg:Str->Option Value)(x:Str)(ns:List Int):Prop:=∃a,mg x=some (.ref a)/\∃(o:Obj) (its:Array Value) (n:Nat),K.lookup a=some o/\o.cls=.type "tuple"/\o.data=.seq its n/\its.size<=sizeLine/\Vals (ns.map V.int) its.toList
noncomputable def dIG(ns:List Int):TDI:=λρ Q=>Q (ns.map q0) ρ
theorem i_gtup{X:Cx}{K:Fg}{tg:Expr}{x:Str}{p:Pos}{ns:List Int}(hK:X.K=K)(hm:GT X.K X.mg x ns)(hg:Gl X x:=by rfl)(hd:(x==("__debug__":Str))=false:=by decide):WI X tg (.Name x p) (liftI K (dIG ns)):=by
 subst hK
 obtain⟨a,hm,hk⟩:=hm
 refine ⟨piM (pi_seqD rfl (pe_glob hg hm (v:=.ref a) rfl hd)) λ{σ H R} h=>?_⟩
 obtain⟨G,F,ρ,Qd,Rl,w,k⟩:=h
 have sq:∀H:Hp,SqT X.K H a (ns.map V.int):=λ_=>.inr hk
 refine ⟨a,rfl,.inr ⟨⟨_,sq _⟩,k _ H F _ ρ (Sub.refl _) Rl (λi H1 F1 s1 s2=>?_) w⟩⟩
 refine ⟨λd ed=>?_,λhl=>⟨_,sq _,by rw[A0];rw[A0]at hl;omega⟩⟩
 rw[W0]at ed
 cases e:ns[i]? with
 | none=>rw[e]at ed;cases ed
 | some n =>
  rw[e]at ed
  cases ed
  have h1:(ns.map V.int)[i]?=some (.int n):=by rw[W0,e];rfl
  refine ⟨⟨_,_,sq _,h1⟩,λx H' ⟨e1,e2⟩=>?_⟩
  subst e1
  have:=e2 _ (sq _)
  rw[h1]at this
  cases this
  exact ⟨F1,Sub.refl _,λ_ _ z=>.inl z,s2,Sub.refl _,.int _⟩
noncomputable def fGIx(ns:List Int):D->(Sl->Prop)->Prop
 | .int i,Q=>∃n,atI ns i=some n/\Q (.fz (.int n))
 | _,_=>False
theorem ok_gix{K:Fg}{a:Addr}{ns:List Int}(hk:∀H:Hp,SqT K H a (ns.map V.int)):OpOk K (r1L λy H Q=>rIxT K (.ref a) y H Q) (o1 (fGIx ns)):=ok1 λG F σ H ρ x d Q Qd R h1 w k=>by
 cases d<;>first|exact w.elim|skip
 rename_i i
 obtain⟨n,w1,w⟩:=w
 cases h1.int
 exact ⟨_,rfl,a,ns.map V.int,i,.int n,rfl,rfl,hk H,atI_map V.int w1,k _ H F (.fz _) (Sub.refl _) R (Da.int _) w⟩
theorem w_gtix{X:Cx}{K:Fg}{x:Str}{p pos:Pos}{e2:Expr}{b:AD}{ns:List Int}(hK:X.K=K)(hm:GT X.K X.mg x ns)(hb:WE X e2 (argT K b))(hg:Gl X x:=by rfl)(hd:(x==("__debug__":Str))=false:=by decide)(hs:PlainIx e2:=by exact λ_ _=>rfl):WE X (.Subscript (.Name x p) e2 pos) (lift K (dOp [b] (o1 (fGIx ns)))):=by
 subst hK
 obtain⟨a,hm,hk⟩:=hm
 have sq:∀H:Hp,SqT X.K H a (ns.map V.int):=λ_=>.inr hk
 exact ⟨peM (pe_ix ix_tup (pe_glob hg hm (v:=.ref a) rfl hd) hb.h hs) λ{σ H Q} q=>arg1 (P:=λy H1=>rIxT X.K (.ref a) y H1 _) (l_op (ok_gix sq) q)⟩
end L3
namespace L2
open PySem PySem.Spec PyProof.Rows
noncomputable def ItvL(K:j0)(a:Addr)(n:Nat):It :=
 ⟨λi H=>∃xs x,SqL K H a xs/\xs.length=n/\i < n/\xs[n - 1 - i]?=some x,λi H x H'=>H'=H/\∀xs,SqL K H a xs->xs[n - 1 - i]?=some x,λi H=>i=n⟩
theorem plainL_is{h:Heap}{a:Addr}{its:Array Value}(p:PlainL h a its):h.IsList a its:=by
 obtain⟨o,n,e,c,_,d⟩:=p
 exact ⟨o,e,c,n,d⟩
theorem turn_revL{P:Program}{w:World}{K:j0}{tg:Expr}(a it:Addr)(n:Nat):Turn P w K tg (ItvL K a n) [it] it (λi h=>h.IsRevIter it a ((n:Int) - 1 - i)) where
 mem:=by simp
 obj:=λi h st b hb=>by
  have e:b=it:=by simpa using hb
  subst e
  obtain⟨o,e,c,d⟩:=st
  exact ⟨o,e,λv z=>by rw[d]at z;cases z⟩
 keep:=λi h h' st k=>st.at λo e=>k it (by simp) o e
 item:=by
  intro X hP hw hK hc i pins s σ H E I hf st hg
  subst hP hw hK
  obtain⟨xs,x,hq,hl,hi,hx⟩:=hg
  obtain⟨its,rv,p,hz⟩:=I.list hq
  obtain⟨u,hu,ru⟩:=rv.get hx
  obtain⟨f0,f1,f2,f3,f4,f5⟩:=hf it (by simp)
  have e1:(n:Int) - 1 - i=((n - 1 - i:Nat):Int):=by omega
  rw[e1]at st
  refine wpAny_pyNext_rev_item st (plainL_is p) (x:=u) (by simpa using hu) λh' st' sb=>?_
  have I1:Inv X pins σ H { s with heap:=h',toks:=s.toks }:=I.turned (λb o hb e=>(sb.2 b hb).trans e) f0 f1 f3 f4 f5
  obtain⟨o,e,c,d⟩:=id st'
  refine ⟨u,rfl,go_of (s:={ s with heap:=h' }) e c d (by decide) ⟨x,H,I1,ru,⟨rfl,λys hy=>by rw[I.list_inj hy hq];exact hx⟩,?_,λb hb=>(hf b hb).1⟩⟩
  have e2:(n:Int) - 1 - ((i+1:Nat):Int)=((n - 1 - i:Nat):Int) - 1:=by omega
  show h'.IsRevIter it a ((n:Int) - 1 - ((i+1:Nat):Int))
  rw[e2];exact st'
 done:=by
  intro X hP hw hK hc i pins s σ H E I hf st hg
  subst hP hw hK
  obtain⟨f0,f1,f2,f3,f4,f5⟩:=hf it (by simp)
  have e1:(n:Int) - 1 - i=-1:=by have:i=n:=hg;omega
  rw[e1]at st
  exact wpAny_pyNext_rev_end (I.ok.hd hc) st λh' eb=>⟨rfl,I.turned (t':=s.toks) (λb o hb e=>eb b o hb e) f0 f1 f3 f4 f5⟩
 self:=λ_ _ _ _ _ st h=>wpAny_pyIter_revIter st h
noncomputable def iRevL(K:j0)(ta:TA):TI:=λσ H R=>ta σ H λvs H1=>∃(a:Addr) (xs:List V),vs=[.ref a]/\SqL K H1 a xs/\R (ItvL K a xs.length) H1
theorem pi_revL{X:Cx}{K:j0}{tg a:Expr}{ta:TA}{p pos:Pos}(h:X.K=K)(hg:Gl X "reversed")(hm:X.mg "reversed"=none)(ha:PA X [a] ta)(hs:starEach [a] X.env=[(false,eval a X.env)]:=by rfl):PI X tg (.Call (.Name "reversed" p) [a] [] pos) (iRevL K ta):=by
 subst h
 intro pins s σ H R I h
 refine Call_ (ld_blt I hg hm boot_rev (Q2 (thn (ha pos pins s σ H _ I h) λus s1 ⟨vs,H1,I1,r1,q1⟩=>?_) hs rfl))
 obtain⟨l,xs,e,hq,q⟩:=q1
 subst e
 obtain⟨u,rfl,ru⟩:=vals1 r1
 cases ru
 obtain⟨its,rv,pt,hz⟩:=I1.list hq
 have hlen:=rv.length
 refine call_reversed_list (plainL_is pt) ?_
 have gt:(s1.heap.push (revObj l ((its.toArray.size:Int) - 1))).get? s1.heap.objs.size=some (revObj l ((its.toArray.size:Int) - 1)):=K0 _ rfl
 have ge:(s1.heap.push (revObj l ((its.toArray.size:Int) - 1))).IsRevIter s1.heap.objs.size l ((xs.length:Int) - 1 - (0:Nat)):=⟨_,gt,rfl,by
   have:(xs.length:Int) - 1 - (0:Nat)=(its.toArray.size:Int) - 1:=by rw[L0];omega
   rw[this];rfl⟩
 refine wpAny_pyIter_revIter (s:={ s1 with heap:=s1.heap.push (revObj l ((its.toArray.size:Int) - 1)) }) ge ?_
 refine ⟨s1.heap.objs.size,[s1.heap.objs.size],_,_,H1,rfl,I1.kept (t':=s1.toks) λb o e=>i0 _ e,turn_revL l _ xs.length,ge,λb hb=>?_,q⟩
 have e:b=s1.heap.objs.size:=by simpa using hb
 subst e
 exact I1.fpOk (N0 _) (I1.hok.fresh (N0 _))
end L2
namespace L3
open PySem PySem.Spec PyProof.Rows L2
noncomputable def dIRevL(a:AD):TDI:=λρ Q=>dArgs [a] ρ λxs ρ1=>match lentAny ρ1 xs with
 | false=>looksQ ρ1 xs λds=>match ds with
  | [.list us]=>Q us.reverse ρ1
  | _=>False
 | true=>False
theorem l_revL{K:Fg}{a:AD}{σ:L2.St}{H:Hp}{R:It->Hp->Prop}(h:liftI K (dIRevL a) σ H R):iRevL K (tArgs ([a].map (argT K))) σ H R:=by
 obtain⟨G,F,ρ,Qd,Rl,w,k⟩:=h
 refine args_ok Rl w λvs H' F' xs ρ' sb R' o w1=>?_
 split at w1
 ·rename_i e
  obtain⟨ds,da,w1⟩:=noLent_looks R' e o w1
  split at w1
  ·rename_i us
   cases da with
   | cons d1 t =>
    cases t
    cases d1 with
    | lst q t =>
     rename_i a1 us'
     refine ⟨a1,us',rfl,SqL.of (R'.sub _ _ q),k _ H' F' _ ρ' sb R' (λi H F1 s1 s2=>?_) w1⟩
     have qq:=SqL.of (K:=K) (s2 _ _ (s1 _ _ q))
     refine ⟨λd ed=>?_,λhl=>?_⟩
     ·have hi:=lt_of_get ed
      rw[T7]at hi
      rw[List.getElem?_reverse hi]at ed
      obtain⟨v,g1,g2⟩:=t.get ed
      rw[<- t.length]at g1 hi
      refine ⟨⟨us',v,qq,rfl,hi,g1⟩,λx H' ⟨e1,e2⟩=>?_⟩
      subst e1
      have:=e2 us' qq
      rw[g1]at this;cases this
      exact ⟨F1,Sub.refl _,λ_ _ z=>.inl z,s2,Sub.refl _,g2.mono s1⟩
     ·rw[T7,<- t.length]at hl;exact hl.symm
  ·exact w1.elim
 ·exact w1.elim
theorem i_revL{X:Cx}{K:Fg}{tg e1:Expr}{a:AD}{p pos:Pos}(hK:X.K=K)(hm:X.mg "reversed"=none)(ha:WA X [e1] (tArgs ([a].map (argT K))))(hg:Gl X "reversed":=by rfl)(he:notStar e1=true:=by rfl):WI X tg (.Call (.Name "reversed" p) [e1] [] pos) (liftI K (dIRevL a)):=⟨piM (pi_revL hK hg hm ha.h (starEach_of he)) l_revL⟩
end L3
namespace L2
open PySem PySem.Spec PyProof.Rows PySem.W
noncomputable def evTp(H:Hp)(p:List Int)(y:Value):Bool:=@decide (∃c,y=.ref c/\H c=some (.tup (p.map V.int))) (Classical.propDecidable _)
theorem vints_inj{p q:List Int}(h:p.map V.int=q.map V.int):p=q:=List.map_inj_right (λ_ _ z=>by injection z) |>.mp h
theorem evTp_ref{H:Hp}{p q:List Int}{c:Addr}(h:H c=some (.tup (q.map V.int))):evTp H p (.ref c)=decide (q=p):=by
 by_cases e:q=p
 ·subst e
  rw[decide_eq_true rfl]
  exact @decide_eq_true _ (Classical.propDecidable _) ⟨c,rfl,h⟩
 ·rw[decide_eq_false e]
  refine @decide_eq_false _ (Classical.propDecidable _) ?_
  rintro⟨c',h1,h2⟩
  cases h1
  rw[h]at h2
  injection h2 with h2
  injection h2 with h2
  exact e (vints_inj h2)
noncomputable def rIdx2:R2:=λx y H Q=>∃(a b:Addr) (us:List V) (ps:List (List Int)) (p:List Int) (j:Nat),x=.ref a/\y=.ref b/\H a=some (.lst us)/\H b=some (.tup (p.map V.int))/\us.length=ps.length/\(∀(i:Nat) v,us[i]?=some v->∃c q,ps[i]?=some q/\v=.ref c/\H c=some (.tup (q.map V.int)))/\ps[j]?=some p/\(∀m,m < j->ps[m]?≠some p)/\Q (.int (j:Nat)) H
theorem pe_indexV{X:Cx}{o e2:Expr}{to:TE}{k:Nat}{apos cpos:Pos}(hu:X.A.units+2 < cLine)(ho:PE X o to)(h2:PE X e2 (tVar k))(hn:L3.notStar e2=true)
  (hbase:attributeBase o "index" X.env (eval o X.env)=eval o X.env:=by rfl) (hline:(apos.endLine==cpos.line)=true:=by rfl) :
  PE X (.Call (.Attribute o "index" apos) [e2] [] cpos) (tOp rIdx2 to (tVar k)):=by
 intro pins s σ H Q I h
 have hS:starEach [e2] X.env=[(false,eval e2 X.env)]:=L3.starEach_of hn
 refine wpAny_Call_method_late hbase (by rw[hS];rfl) hline rfl (thn (ho pins s σ H _ I h) λv s1 ⟨x,H1,I1,r1,q1⟩=>?_)
 obtain⟨y,ey,a,b,us,ps,p,j,rfl,rfl,hH,hb,hl,hus,hj,hno,q⟩:=q1
 cases r1
 obtain⟨its,rv,⟨⟨cls,dd,data,sl⟩,n,e,c,d,dt⟩,hz⟩:=I1.list (SqL.of (K:=X.K) hH)
 simp only at c d dt
 subst c d dt
 refine ⟨"list","list.index",PySem.F.plainAttrs_list,PySem.F.slot_list_index,PySem.F.type_list_index,⟨_,e,rfl⟩,λb eb=>by cases eb;exact ⟨_,e,rfl⟩,?_⟩
 have hA:=(pa_cons (X:=X) (e:=e2) h2 pa_nil hS) cpos pins s1 σ H1 (λxs H2=>xs=[.ref b]/\H2=H1) I1 ⟨_,ey,rfl,rfl⟩
 rw[hS]at hA ⊢
 refine Calls.callWith_builtin rfl (Calls.evalArgs_plain ?_)
 refine thn hA λws s2 ⟨vs,H2,I2,r2,q2⟩=>?_
 obtain⟨rfl,rfl⟩:=q2
 obtain⟨u,rfl,ru⟩:=vals1 r2
 cases ru
 obtain⟨its,rv,⟨⟨cls,dd,data,sl⟩,n,e,c,d,dt⟩,hz⟩:=I2.list (SqL.of (K:=X.K) hH)
 simp only at c d dt
 subst c d dt
 have len:=rv.length
 have hjl:j < ps.length:=(X0.mp hj).1
 have atI':∀(m:Nat) (hm:m < its.length),∃c q,ps[m]?=some q/\its[m]=.ref c/\H2 c=some (.tup (q.map V.int)):=λm hm=>by
  obtain⟨x,ex,rx⟩:=rv.getV (J0 hm)
  obtain⟨c,q,e1,rfl,e3⟩:=hus m x ex
  have e2:its[m]=.ref c:=by revert rx;cases its[m]<;>intro rx<;>first|(cases rx;rfl)|cases rx
  exact ⟨c,q,e1,e2,e3⟩
 refine call_meets PySem.F.slot_list_index ⟨_,e,rfl⟩ PySem.F.entry_list_index (PySem.F.args_list_index_2 _ _)
  (SeqAt.list_indexAt a its.toArray n none sl (.ref b) (evTp H2 p) j (by rw[L0,<- len,hl];exact hjl) (by have hz':us.length<=16777216:=hz;omega) ?_ ?_) ⟨e,λy hy=>?_,?_⟩
 ·obtain⟨c,q',e1,e2,e3⟩:=atI' j (by rw[<- len,hl];exact hjl)
  show evTp H2 p its[j]=true
  rw[hj]at e1
  cases e1
  rw[e2,evTp_ref e3]
  exact decide_eq_true rfl
 ·intro m hm hlt
  obtain⟨c,q',e1,e2,e3⟩:=atI' m (by simpa using hm)
  show evTp H2 p its[m]=false
  rw[e2,evTp_ref e3]
  exact decide_eq_false λz=>hno m hlt (by rw[e1,z])
 ·obtain⟨m,hm,rfl⟩:=P7.mp (show y∈its by simpa using hy)
  obtain⟨c,q',e1,e2,e3⟩:=atI' m hm
  rw[e2,evTp_ref e3]
  exact eqTupB I2 (Nat.lt_of_succ_lt (show X.A.in1.units+1 < cLine from hu)) e3 hb λ_ _ z=>z
 ·exact ⟨.int (j:Nat),H2,I2.tok _,⟨_,rfl⟩,q⟩
end L2
namespace L3
open PySem PySem.Spec PyProof.Rows L2
noncomputable def fIdx2:D->D->(Sl->Prop)->Prop:=λd e Q=>∃(ps:List (List Int)) (p:List Int) (j:Nat),d=.list (ps.map λq=>.tuple (q.map q0))/\e=.tuple (p.map q0)/\ps[j]?=some p/\(∀m,m < j->ps[m]?≠some p)/\Q (.fz (.int (j:Nat)))
theorem ok_idx2{K:Fg}:OpOk K (r2L rIdx2) (o2 fIdx2):=ok2 λG F σ H ρ x y d e Q Qd R h1 h2 w k=>by
 obtain⟨ps,p,j,rfl,rfl,hj,hno,w⟩:=w
 obtain⟨a,us,rfl,e1,d1⟩:=h1.list R.sub
 obtain⟨b,vs,rfl,_,e2,d2⟩:=h2.tuple R.sub
 have:=d2.intsV
 subst this
 have hl:=d1.length
 rw[A0]at hl
 refine ⟨a,b,us,ps,p,j,rfl,rfl,e1,e2,hl,λi v hv=>?_,hj,hno,k _ H F (.fz _) (Sub.refl _) R (Da.int _) w⟩
 have hi:i < ps.length:=by rw[<- hl];exact (X0.mp hv).1
 obtain⟨u,f1,f2⟩:=d1.get (i:=i) (d:=.tuple (ps[i].map q0)) (by rw[W0,J0 hi];rfl)
 rw[hv]at f1
 cases f1
 cases f2 with
 | tup q t =>
  rw[t.intsV]at q
  exact ⟨_,ps[i],J0 hi,rfl,R.sub _ _ q⟩
theorem w_indexV{X:Cx}{K:Fg}{e1:Expr}{a:AD}{j:Nat}{x:Str}{p apos cpos:Pos}(hu:X.A.units+2 < cLine)(ho:WE X e1 (argT K a))(h2:WE X (.Name x p) (argT K (.inl j)))(hbase:attributeBase e1 "index" X.env (eval e1 X.env)=eval e1 X.env:=by rfl)(hline:(apos.endLine==cpos.line)=true:=by rfl) :
  WE X (.Call (.Attribute e1 "index" apos) [.Name x p] [] cpos) (lift K (dOp [a,.inl j] (o2 fIdx2))):=⟨cv2 ok_idx2 (pe_indexV hu ho.h h2.h rfl hbase hline)⟩
noncomputable def dNest5(x y i1 i2 i3 i4:Nat)(con:Con)(c1:TTD)(e:TD)(c2 c3:TTD):TDS:=λE ρ=>∃(d1 d2 d3 d4:D),ρ[i1]?=some (some (.fz d1))/\ρ[i2]?=some (some (.fz d2))/\ρ[i3]?=some (some (.fz d3))/\ρ[i4]?=some (some (.fz d4))/\noMutAll [d1,d2,d3,d4]=true/\noIo ρ x/\noIo ρ y/\x≠y /\
 con [.fz d1,.fz d2,.fz d3,.fz d4] λr _=>∃(d0:D) (L:List D),r=.fz (.tuple [d0,.list L])/\noMut d0=true /\
  c1 ((frz ρ).set x (some (.fz (.tuple [d0,.list L])))) λb ρ1=>if b=true then E.rt (.fz (.bool false)) (ρ.set x none) else
   e ρ1 λr ρ2=>∃d,r=.fz d/\noIo ρ2 y/\c2 (ρ2.set y (some (.fz d))) λb ρ3=>if b=true then E.rt (.fz (.bool false)) ((ρ.set x none).set y none) else
    c3 ρ3 λb _=>if b=true then E.rt (.fz (.bool false)) ((ρ.set x none).set y none) else E.nx ((ρ.set y none).set x (some (.fz (.tuple [d0,.list []]))))
theorem noIo_other{ρ:Ev}{x y:Nat}(hxy:x≠y)(ny:noIo ρ y):noIo (ρ.set x none) y:=by
 unfold noIo at ny ⊢
 rw[P0 hxy]
 exact ny
theorem noIo_lt{K:Fg}{G:Gh}{F:Hp}{σ:L2.St}{H:Hp}{ρ:Ev}(R:Rel K G F σ H ρ){x:Nat}(nx:noIo ρ x):x < σ.length:=by
 unfold noIo at nx
 cases e:ρ[x]? with
 | none=>rw[e]at nx;exact nx.elim
 | some y=>rw[R.len];exact lt_of_get e
theorem l_nest5{K:Fg}{x y i1 i2 i3 i4:Nat}{con:Con}{c1 c2 c3:TTD}{e:TD}{E:Ends}{σ:L2.St}{H:Hp}(h:liftS K (dNest5 x y i1 i2 i3 i4 con c1 e c2 c3) E σ H) :
  tSeq (tAsg (tCall (conSp K con) [] E0 (tCons (tVar i1) (tCons (tVar i2) (tCons (tVar i3) (tCons (tVar i4) tNil))))) (gName x)) (tSeq (tIfS (liftT K c1) (tRet (tC (.bl false))) tNext)
    (tSeq (tAsg (lift K e) (gName y)) (tSeq (tIfS (liftT K c2) (tRet (tC (.bl false))) tNext) (tSeq (tIfS (liftT K c3) (tRet (tC (.bl false))) tNext)
    (tDrop (tBM0 K "list" rClear (tOp (rIxT K) (tVar x) (tC (.int 1))))))))) E σ H:=by
 obtain⟨G,F,ρ,D,R,⟨d1,d2,d3,d4,e1,e2,e3,e4,hm,nx,ny,hxy,w⟩,nn,r,b,ct⟩:=h
 obtain⟨v1,h1,a1⟩:=R.fz i1 _ e1
 obtain⟨v2,h2,a2⟩:=R.fz i2 _ e2
 obtain⟨v3,h3,a3⟩:=R.fz i3 _ e3
 obtain⟨v4,h4,a4⟩:=R.fz i4 _ e4
 generalize eF:(λb=>match F b with|some (.tup xs)=>some (HO.tup xs)|_=>none:Hp)=F0
 have f0t:∀b xs,F b=some (.tup xs)->F0 b=some (.tup xs):=λb xs z=>by rw[<- eF];simp only[z]
 have f0s:∀b o,F0 b=some o->F b=some o/\∃xs,o=.tup xs:=λb o z=>by
  rw[<- eF]at z
  simp only at z
  split at z
  ·rename_i xs e
   cases z
   exact ⟨e,_,rfl⟩
  ·cases z
 have da0:DaAll K F [v1,v2,v3,v4] [d1,d2,d3,d4]:=.cons a1 (.cons a2 (.cons a3 (.cons a4 .nil)))
 have da:=da0.noMut f0t hm
 have Rc:=rel_call (H:=H) (λb o z=>R.sub _ _ (f0s b o z).1) da
 refine ⟨_,h1,_,h2,_,h3,_,h4,⟨_,_,_,_,Rc,w,λv H1 F1 r1 ρ1 s1 R1 res1 ⟨d0,L,er,hm0,w1⟩=>?_⟩⟩
 subst er
 have res1:Da K F1 v (.tuple [d0,.list L]):=res1
 have hH:Sub H H1:=λq u z=>R1.keep q u z λk hk=>by cases hk
 have Rm:=R.more hH
 have Rb:=Rm.blank (v:=v) nx
 have hlx:=noIo_lt R nx
 have hda:Da K H1 v (.tuple [d0,.list L]):=res1.mono R1.sub
 have Rt:=Rm.all.asg (s:=.fz (.tuple [d0,.list L])) (noIo_frz nx) hda
 refine ⟨_,_,_,_,Rt,w1,λb2 H2 F2 ρ2 s2 R2 q2=>?_⟩
 have h12:Sub H1 H2:=s2.trans R2.sub
 cases b2 with
 | true=>exact r (.bl false) _ H2 F (.fz (.bool false)) _ (Sub.refl _) (Rb.more h12) (Da.bl false) q2
 | false =>
  refine ⟨_,_,_,_,R2,q2,λu H3 F3 sl ρ3 s3 R3 res3 ⟨d,esl,ny3,w3⟩=>?_⟩
  subst esl
  have h23:Sub F2 F3:=s3
  have h13:Sub H1 H3:=(s2.trans s3).trans R3.sub
  have R3':=R3.asg ny3 res3
  have Rb3:=(Rb.more h13).blank (v:=u) (noIo_other hxy ny)
  refine ⟨_,_,_,_,R3',w3,λb4 H4 F4 ρ4 s4 R4 q4=>?_⟩
  have h14:Sub H1 H4:=((s2.trans s3).trans s4).trans R4.sub
  have h34:Sub H3 H4\/True:=.inr trivial
  cases b4 with
  | true=>exact r (.bl false) _ H4 F (.fz (.bool false)) _ (Sub.refl _) (((Rb.more h14).blank (v:=u) (noIo_other hxy ny))) (Da.bl false) q4
  | false =>
   refine ⟨_,_,_,_,R4,q4,λb5 H5 F5 ρ5 s5 R5 q5=>?_⟩
   have h15:Sub H1 H5:=(((s2.trans s3).trans s4).trans s5).trans R5.sub
   cases b5 with
   | true=>exact r (.bl false) _ H5 F (.fz (.bool false)) _ (Sub.refl _) (((Rb.more h15).blank (v:=u) (noIo_other hxy ny))) (Da.bl false) q5
   | false =>
    cases res1 with
    | tup hta hda' =>
     rename_i ta xs'
     cases hda' with
     | cons g1 hda' =>
      cases hda' with
      | cons g2 hda' =>
       cases hda'
       cases g2 with
       | lst hb0 db0 =>
        rename_i v0 b0 us
        have hb5:H5 b0=some (.lst us):=h15 _ _ (R1.sub _ _ hb0)
        have hta5:=h15 _ _ (R1.sub _ _ hta)
        have nb0:H b0=none:=by
         rcases R1.fn b0 _ hb0 with z|z
         ·obtain⟨_,_,z⟩:=f0s _ _ z
          cases z
         ·exact z
        have sx:((σ.set x (some (V.ref ta))).set y (some u))[x]?=some (some (V.ref ta)):=by rw[P0 (J1 hxy)];exact set_get hlx
        have hs5:Sub H H5:=hH.trans h15
        have nf0:F b0=none:=R.f0 nb0
        generalize eF':(λb=>match F b with|some o=>some o|none=>if b=b0 then some (HO.lst []) else if H b=none then (match H5 b with|some (.tup xs)=>some (HO.tup xs)|_=>none) else none:Hp)=F'
        have p1:Sub F F':=λb o z=>by rw[<- eF'];simp only[z]
        have p2:∀b o,F' b=some o->F b=some o\/H b=none:=λb o z=>by
         rw[<- eF']at z
         simp only at z
         split at z
         ·rename_i o' eo
          rw[eo]
          exact .inl z
         ·split at z
          ·rename_i hb
           rw[hb]
           exact .inr nb0
          ·split at z
           ·rename_i hn
            exact .inr hn
           ·cases z
        have p3:Sub F' (upd H5 b0 (.lst [])):=λb o z=>by
         have nb:b≠b0->(upd H5 b0 (.lst [])) b=H5 b:=λh=>upd_ne h
         rw[<- eF']at z
         simp only at z
         split at z
         ·rename_i o' eo
          cases z
          have hbn:b≠b0:=λq=>by rw[q,nf0]at eo;cases eo
          rw[nb hbn]
          exact hs5 _ _ (R.sub _ _ eo)
         ·split at z
          ·rename_i hb
           cases z
           rw[hb]
           exact upd_same
          ·rename_i hbn
           split at z
           ·split at z
            ·rename_i xs ex
             cases z
             rw[nb hbn]
             exact ex
            ·cases z
           ·cases z
        have kp:∀b o,H b=some o->(upd H5 b0 (.lst [])) b=some o:=λb o z=>by
         have hbn:b≠b0:=λq=>by rw[q,nb0]at z;cases z
         rw[upd_ne hbn]
         exact hs5 _ _ z
        have tp:∀b xs,F1 b=some (.tup xs)->F' b=some (.tup xs):=λb xs z=>by
         rcases R1.fn b _ z with q|q
         ·exact p1 _ _ (f0s _ _ q).1
         ·have q:H b=none:=q
          have hbn:b≠b0:=λt=>by rw[t,hb0]at z;cases z
          have fb:F b=none:=R.f0 q
          have h5:H5 b=some (.tup xs):=h15 _ _ (R1.sub _ _ z)
          rw[<- eF']
          simp only[fb,if_neg hbn,if_pos q,h5]
        have fb0:F' b0=some (.lst []):=by rw[<- eF'];simp only[nf0,if_pos]
        have Rf:=R.grown p1 p3 p2 kp
        have Rf1:=Rf.blank (v:=u) ny
        have res:Da K F' (.ref ta) (.tuple [d0,.list []]):=.tup (tp _ _ hta) (.cons (g1.noMut tp hm0) (.cons (.lst fb0 .nil) .nil))
        have Rf2:=Rf1.asg (s:=.fz (.tuple [d0,.list []])) (noIo_other (J1 hxy) nx) res
        rw[List.set_comm _ _ (J1 hxy)]at Rf2
        refine ⟨_,sx,ta,_,1,.ref b0,rfl,rfl,SqT.of hta5,atI_nat (j:=1) rfl,.inl ⟨rfl,_,SqL.of hb5⟩,b0,_,rfl,rfl,hb5,?_⟩
        exact nn _ _ F' _ p1 Rf2 q5
section
variable {X:Cx}{K:Fg}{e1 e2 e3 ey:Expr}{p1 p2 p3 p4 p5 p6 p7 p8 pa pb pc pd pe pf pg ph pi' pj pk pl pm pn po pp pq:Pos}{x y f a b c d:Str}{c1 c2 c3:TTD}{te:TD}{rest:List Stmt}{t:TDS}
theorem b_nest5{i1 i2 i3 i4 n m k:Nat}{q1 q2 q3 k2:Nat}{ps:List Str}{con:Con}(C:Cal X.prog X.w X.K X.mg X.base k f ps (conSp K con))(hr:Room k X.A)(hK:X.K=K)(w1:WE X (.Name a p1) (argT K (.inl i1)))(w2:WE X (.Name b p2) (argT K (.inl i2)))(w3:WE X (.Name c p3) (argT K (.inl i3)))(w4:WE X (.Name d p4) (argT K (.inl i4)))
  (hN:X.N.Nodup) (ht:X.N[n]?=some x) (hx:Loc X.env.scope x) (hv:WE X (.Name x p5) (argT K (.inl n))) (t1:WT X e1 (liftT K c1)) (hty:X.N[m]?=some y) (hy:Loc X.env.scope y) (we:WE X ey (lift K te)) (t2:WT X e2 (liftT K c2)) (t3:WT X e3 (liftT K c3)) (hrest:WSs X rest (liftS K t))
  (hsw:swapsWith ey (some (.Name y pl)) pm.line X.env=pure false:=by rfl)
  (hf:X.fn x=true\/X.env.scope.names.lookup x=some .local:=by first|exact .inl rfl|exact .inr rfl|assumption) (hfy:X.fn y=true\/X.env.scope.names.lookup y=some .local:=by first|exact .inl rfl|exact .inr rfl|assumption) (hg:Gl X f:=by rfl) (hdb:(f==("__debug__":Str))=false:=by decide)
  (hb1:attributeBase (.Subscript (.Name x p5) (.Constant (.int 1) k2 pk) p6) "clear" X.env (eval (.Subscript (.Name x p5) (.Constant (.int 1) k2 pk) p6) X.env)=eval (.Subscript (.Name x p5) (.Constant (.int 1) k2 pk) p6) X.env:=by rfl)
  (hl1:(p7.endLine==p8.line)=true:=by rfl) :
  WSs X (.Assign [.Name x pc] (.Call (.Name f pd) [.Name a p1,.Name b p2,.Name c p3,.Name d p4] [] pe) pf :: .If e1 [.Return (some (.Constant (.bool false) q1 pg)) ph] [] pi' :: .Assign [.Name y pl] ey pm :: .If e2 [.Return (some (.Constant (.bool false) q2 pn)) po] [] pp :: .If e3 [.Return (some (.Constant (.bool false) q3 pa)) pb] [] pq ::
    .Expr (.Call (.Attribute (.Subscript (.Name x p5) (.Constant (.int 1) k2 pk) p6) "clear" p7) [] [] p8) pj :: rest) (liftS K (dSeq (dNest5 n m i1 i2 i3 i4 con c1 te c2 c3) t)):=by
 subst hK
 exact ⟨pssM (pss_cons (ps_set hN ht hx (pe_fn C hr (pa_cons w1.h (pa_cons w2.h (pa_cons w3.h (pa_cons w4.h pa_nil)))) hg hdb) rfl hf) (pss_cons (ps_if t1.h (pss_one (ps_ret pe_bl)) pss_nil) (pss_cons (ps_set hN hty hy we.h hsw hfy) (pss_cons (ps_if t2.h (pss_one (ps_ret pe_bl)) pss_nil) (pss_cons (ps_if t3.h (pss_one (ps_ret pe_bl)) pss_nil)
   (pss_cons (ps_expr (pe_bm0 PySem.F.plainAttrs_list PySem.F.slot_list_clear PySem.F.type_list_clear mt_clear (pe_ix ix_tup hv.h pe_int (λ_ _=>rfl)) hb1 hl1)) hrest.h)))))) λq=>l_nest5 (l_seq q)⟩
end
end L3
namespace SG
open PySem PyProof.Rows
section
variable {prog:Program}{w:World}{A:Around}{E:Value->Shared->Prop}{s:Shared}{κ:SortKind}{rk:Keyed->Nat}{S:Keyed->Prop}{st:SortSt}
theorem w_sort64(q:Asks prog w A s κ rk S){Q:Unit->SortSt->Prop}(h64:(arrOf st).size < 64)(hS:AllS S (arrOf st))(hk:kindOf st=κ)(hF:failedOf st=none)(hP:pendingOf st=#[])
  (h:∀st',(arrOf st').Perm (arrOf st)->failedOf st'=none->Sg rk (arrOf st') 0 (arrOf st).size->Q () st'):wpS (model prog w) A E s sortRuns' Q st:=by
 have hmr:1<=(arrOf st).size->minRun' (arrOf st).size (arrOf st).size 0=(arrOf st).size:=λh1=>by
  obtain⟨k,ek⟩:∃k,(arrOf st).size=k+1:=⟨(arrOf st).size - 1,by omega⟩
  rw[ek,minRun'_succ,if_pos (by omega),Nat.add_zero]
 rw[sortRuns'_eq]
 refine wpS_bind (wpS_get ?_)
 dsimp only
 have I0:In κ rk st 0 st:=⟨Array.Perm.refl _,hk,hF,by rw[hP];rfl⟩
 refine wpS_bind (wpS_mono (wpS_forRange (I:=λx c z=>∃lo,c=(none,lo)/\In κ rk st lo z/\(lo=0/\pendingOf z=#[]\/lo=(arrOf st).size/\(pendingOf z).size<=1)/\(x<=lo\/lo=(arrOf st).size)) (Q:=λc z=>c=(none,(arrOf st).size)/\In κ rk st (arrOf st).size z/\(pendingOf z).size<=1) ?step ?fin ⟨0,rfl,I0,.inl ⟨rfl,hP⟩,.inl (N0 _)⟩) ?post)
 case fin =>
  rintro c z ⟨lo,rfl,hI,h1,h2⟩
  rcases h1 with⟨rfl,hp⟩|⟨rfl,hp⟩
  ·have:0=(arrOf st).size:=by omega
   rw[<- this]
   exact ⟨rfl,hI,by rw[hp];exact B4 _⟩
  ·exact ⟨rfl,hI,hp⟩
 case step =>
  rintro x c z _ hx ⟨lo,rfl,hI,h1,h2⟩
  dsimp only
  by_cases hge:lo ≥ (arrOf st).size
  ·rw[if_pos hge]
   rcases h1 with⟨rfl,hp⟩|⟨rfl,hp⟩
   ·have:0=(arrOf st).size:=by omega
    rw[<- this]
    exact wpS_pure ⟨rfl,hI,by rw[hp];exact B4 _⟩
   ·exact wpS_pure ⟨rfl,hI,hp⟩
  ·rw[if_neg hge]
   obtain⟨rfl,hp⟩:lo=0/\pendingOf z=#[]:=by
    rcases h1 with h1|⟨h1,_⟩
    ·exact h1
    ·omega
   have hz:=hI.size
   have hm:=hmr (by omega)
   have hS':AllS S (arrOf z):=AllS.perm hS hI.perm
   refine wpS_bind (w_cr q hS' (by omega) (by omega) ⟨Array.Perm.refl _,hI.kind,hI.failed,rfl,λ_ _=>rfl⟩ λn z1 b1 n1 n2 g1=>?_)
   dsimp only
   have last:∀(m:Nat) (z2:SortSt),m=(arrOf st).size->pendingOf z2=#[]->In κ rk st 0 z2->Sg rk (arrOf z2) 0 m->∃lo,((none:Option Unit),0+m)=(none,lo)/\In κ rk st lo (setPending z2 ((pendingOf z2).push (0,m,0)))/\(lo=0/\pendingOf (setPending z2 ((pendingOf z2).push (0,m,0)))=#[]\/lo=(arrOf st).size/\(pendingOf (setPending z2 ((pendingOf z2).push (0,m,0)))).size<=1)/\(x+1<=lo\/lo=(arrOf st).size):=λm z2 e1 e2 hI2 g2=>by
    refine ⟨0+m,rfl,hI2.push (by omega) g2,.inr ⟨by omega,?_⟩,.inr (by omega)⟩
    show ((pendingOf z2).push (0,m,0)).size<=1
    rw[e2]
    exact N0 _
   by_cases hlt:n < minRun' (arrOf st).size (arrOf st).size 0
   ·rw[if_pos hlt]
    refine wpS_bind (wpS_lift (wpAny_rule ⟨rfl,?_⟩))
    refine wpS_bind (w_bins (N:=(arrOf st).size - 0) q hS' (n:=min ((arrOf st).size - 0) (minRun' (arrOf st).size (arrOf st).size 0)) (by omega) (by omega) (by omega) b1 g1 λz2 b2 g2=>?_)
    simp only[Bool.not_true,X2,if_false]
    refine wpS_bind (wpS_get ?_)
    have e2:pendingOf z2=#[]:=by rw[b2.pend];exact hp
    have eb:(pendingOf z2).back?=none:=by rw[e2];rfl
    rw[eb]
    exact wpS_bind (wpS_modify (wpS_pure (last _ z2 (by omega) e2 (hI.run b2) g2)))
   ·rw[if_neg hlt]
    refine wpS_bind (wpS_get ?_)
    have e2:pendingOf z1=#[]:=by rw[b1.pend];exact hp
    have eb:(pendingOf z1).back?=none:=by rw[e2];rfl
    rw[eb]
    exact wpS_bind (wpS_modify (wpS_pure (last _ z1 (by omega) e2 (hI.run b1) g1)))
 case post =>
  rintro c z ⟨rfl,hI,hp⟩
  dsimp only
  refine wpS_bind (wpS_mono (wpS_forRange (I:=λx c y=>c=(none,())/\y=z) (Q:=λc y=>c=(none,())/\y=z) ?_ ?_ ⟨rfl,rfl⟩) ?_)
  ·rintro x c y _ hx ⟨rfl,rfl⟩
   refine wpS_bind (wpS_get ?_)
   rw[if_pos hp]
   exact wpS_pure ⟨rfl,rfl⟩
  ·rintro c y ⟨rfl,rfl⟩
   exact ⟨rfl,rfl⟩
  ·rintro c y ⟨rfl,rfl⟩
   refine wpS_pure (h y hI.perm hI.failed ?_)
   have hc:=hI.ch
   have hl:(pendingOf y).toList.length<=1:=by rw[W1];exact hp
   match (pendingOf y).toList,hc,hl with
   | [],hc,_ =>
    have:0=(arrOf st).size:=hc
    intro i j _ _ hj
    omega
   | [p],⟨h1,h2,h3,h4⟩,_ =>
    have h4:0+p.2.1=(arrOf st).size:=h4
    rw[n8]at h4
    rw[h4]at h3
    exact h3
end
end SG
namespace L2
open PySem PySem.Spec PyProof.Rows PySem.W
section
variable {prog:Program}{w:World}{A:Around}{E:Value->Shared->Prop}{s:Shared}{κ:SortKind}{vs:List Value}{rk:Value->Nat}
theorem list_sort_64{a:Addr}{n:Nat}{P:Fin->Shared->Prop}(ho:s.heap.get? a=some (seqObj "list" vs.toArray n))(hz:vs.length<=sizeLine)(h64:vs.length < 64)
  (hk:2<=vs.length->∀s':Shared,(∀b o,b≠a->s.heap.get? b=some o->s'.heap.get? b=some o)->∀Q':SortKind->Shared->Prop,Q' κ s'->wpAny (model prog w) A (keyKind' vs.toArray) Q' E s')
  (hlt:∀s':Shared,(∀b o,b≠a->s.heap.get? b=some o->s'.heap.get? b=some o)->∀x y,x∈vs->y∈vs->∀Q':Bool->Shared->Prop,Q' (decide (rk x < rk y)) s'->wpAny (model prog w) A (keyLt' κ x y) Q' (λ_ _=>False) s')
  (h:∀out:List Value,out.Perm vs->out.Pairwise (λx y=>rk x<=rk y)->P (.done (.ret .none)) { s with heap:=sortedHeap s.heap a vs out.toArray }) :
  wpAny (model prog w) A (Builtin.«list.sort» ⟨[.ref a],[]⟩) P E s:=by
 rw[list_sort_plain]
 have ha:a < s.heap.objs.size:=B0 ho
 refine wpAny_bind (listItems_at ho rfl ?_)
 refine wpAny_bind (listUpdate_at ho rfl ?_)
 obtain⟨e1,ho1⟩:∃e1,(s.heap.update a (S1 λ_=>#[])).get? a=some (seqObj "list" #[] e1):=⟨_,get?_update_seq ho (λ_=>#[])⟩
 refine wpAny_bind (seqEpoch_at ho1 rfl ?_)
 refine wpAny_bind (wpAny_newTuple ?_)
 refine wpAny_bind (wpAny_newList ?_)
 refine wpAny_holding ?_
 have ho6:(((s.heap.update a (S1 λ_=>#[])).push (seqObj "tuple" vs.toArray 0)).push (seqObj "list" #[] 0)).get? a=some (seqObj "list" #[] e1):=by
  rw[W5 _ _ _ (by rw[size_push',o7];exact S0 (V5 ha)),W5 _ _ _ (by rw[o7];exact S0 ha)]
  exact ho1
 have kp:∀b o,b≠a->s.heap.get? b=some o->(((s.heap.update a (S1 λ_=>#[])).push (seqObj "tuple" vs.toArray 0)).push (seqObj "list" #[] 0)).get? b=some o:=λb o hb e=>by
  refine i0 _ (i0 _ ?_)
  rw[U7 _ _ _ _ hb]
  exact e
 show wpAny (model prog w) A _ P E { s with heap:=((s.heap.update a (S1 λ_=>#[])).push (seqObj "tuple" vs.toArray 0)).push (seqObj "list" #[] 0) }
 dsimp only
 have hsz:vs.toArray.size=vs.length:=by simp
 have out0:((pairsOf vs).map (·.2))=vs.toArray:=by
  apply Array.toList_inj.mp
  rw[m6]
  show (vs.toArray.zip vs.toArray).toList.map (·.2)=_
  simp only[Array.toList_zip]
  exact List.map_snd_zip (N0 _)
 by_cases h2:vs.toArray.size < 2
 ·rw[if_pos h2,if_pos h2]
  refine wpAny_bind (wpAny_pure ?_)
  rw[StateT.run_pure]
  refine wpAny_bind (wpAny_pure ?_)
  dsimp only
  refine wpAny_bind (seqEpoch_at ho6 rfl ?_)
  refine wpAny_bind (listUpdate_at ho6 rfl ?_ (hsz2:=by rw[Array.size_map];show (pairsOf vs).size<=_;rw[pairsOf_size];exact Nat.le_succ_of_le hz))
  simp only[bne_self_eq_false,X2,if_false]
  have h':=h vs (List.Perm.refl _) (by
    match vs,h2 with
    | [],_=>exact .nil
    | [x],_=>exact Z3 _ _
    | x :: y :: z,h2=>simp at h2;omega)
  rw[<- out0]at h'
  exact wpAny_pure h'
 ·rw[if_neg h2,if_neg h2]
  have h2':2<=vs.length:=by omega
  refine wpAny_bind (hk h2' _ kp _ ?_)
  have run:=SG.w_sort64 (prog:=prog) (w:=w) (A:=A) (E:=E) (κ:=κ) (rk:=λp=>rk p.1) (S:=λp=>p.1∈vs) (st:=SortSt.mk' κ (pairsOf vs) #[] 7 none)
   (s:={ s with heap:=((s.heap.update a (S1 λ_=>#[])).push (seqObj "tuple" vs.toArray 0)).push (seqObj "list" #[] 0) })
   (Q:=λ_ st'=>(arrOf st').Perm (pairsOf vs)/\failedOf st'=none/\SG.Sg (λp=>rk p.1) (arrOf st') 0 (pairsOf vs).size)
   (λx y hx hy Q' hQ'=>hlt _ kp _ _ hx hy Q' hQ') (by show (vs.toArray.zip vs.toArray).size < 64;rw[Array.size_zip];simp;exact h64) (λp hp=>by have:=pairs_mem hp;show p.1∈vs;rw[this.1];exact this.2) rfl rfl rfl λst' p1 p2 p3=>⟨p1,p2,p3⟩
  refine wpAny_bind (wpAny_mono run ?_ λ_ _ e=>e)
  rintro⟨⟨⟩,st'⟩ s' ⟨rfl,hp,hf,hs⟩
  dsimp only at hp hf hs ⊢
  refine wpAny_bind (seqEpoch_at ho6 rfl ?_)
  have hpl:=E5.mp hp
  have eq12:∀p∈(arrOf st').toList,p.1=p.2:=λp h=>(pairs_mem (hpl.mem_iff.mp h)).1
  have hO:((arrOf st').map (·.2)).toList.Perm vs:=by
   rw[m6]
   have e:(pairsOf vs).toList.map (·.2)=vs:=by rw[<- m6,out0]
   have:=hpl.map (·.2)
   rw[e]at this
   exact this
  have hL:((arrOf st').map (·.2)).toList.length=vs.length:=hO.length_eq
  rw[W1]at hL
  refine wpAny_bind (listUpdate_at ho6 rfl ?_ (hsz2:=by rw[hL];exact Nat.le_succ_of_le hz))
  rw[hf]
  simp only[bne_self_eq_false,X2,if_false]
  refine wpAny_pure ?_
  have:=h ((arrOf st').map (·.2)).toList hO (by
    rw[m6,X5,L4]
    intro i j hi hj hij
    rw[W1]at hi hj
    have hz2:(arrOf st').size=(pairsOf vs).size:=hp.size_eq
    have:=hs i j (B4 _) (by omega) (by omega)
    rw[SG.KR_at hi,SG.KR_at hj]at this
    rw[Q7,Q7,<- eq12 _ (by simp),<- eq12 _ (by simp)]
    exact this)
  rw[Array.toArray_toList]at this
  exact this
theorem sorted_64{l:Addr}{Q:Value->Shared->Prop}(hl:s.heap.IsList l vs.toArray)(hz:vs.length<=sizeLine)(h64:vs.length < 64)
  (hk:2<=vs.length->∀s':Shared,(∀b o,s.heap.get? b=some o->s'.heap.get? b=some o)->∀(E:Value->Shared->Prop) (Q':SortKind->Shared->Prop),Q' κ s'->wpAny (model prog w) A.in1.in1 (keyKind' vs.toArray) Q' E s')
  (hlt:∀s':Shared,(∀b o,s.heap.get? b=some o->s'.heap.get? b=some o)->∀x y,x∈vs->y∈vs->∀Q':Bool->Shared->Prop,Q' (decide (rk x < rk y)) s'->wpAny (model prog w) A.in1.in1 (keyLt' κ x y) Q' (λ_ _=>False) s')
  (h:∀out:List Value,out.Perm vs->out.Pairwise (λx y=>rk x<=rk y)->Q (.ref (s.heap.objs.size+1)) { s with heap:=sortedAll s.heap vs out.toArray }) :
  wpAny (model prog w) A (call (.builtin "sorted") [.ref l]) Q E s:=by
 refine Calls.call_function_entry kind_sorted plain_sorted entry_sorted (args_sorted1 _) ?_
 unfold Builtin.«sorted»
 refine wpAny_bind (m:=checkCount "sorted" 1 1 _) (wpAny_pure ?_)
 refine wpAny_bind (collect_list hl ?_ (hsz:=hz))
 refine wpAny_bind (wpAny_newList ?_ hz)
 have hsz:((s.heap.push (seqObj "list" #[] 0)).update s.heap.objs.size (S1 (·++vs.toArray))).objs.size=s.heap.objs.size+1:=by
  rw[o7,size_push']
 have hoL:(((s.heap.push (seqObj "list" #[] 0)).update s.heap.objs.size (S1 (·++vs.toArray))).push (seqObj "list" vs.toArray 0)).get? (s.heap.objs.size+1)=some (seqObj "list" vs.toArray 0):=by
  rw[<- hsz];exact K0 _ rfl
 have keep:∀b o,s.heap.get? b=some o->b≠s.heap.objs.size+1/\(((s.heap.push (seqObj "list" #[] 0)).update s.heap.objs.size (S1 (·++vs.toArray))).push (seqObj "list" vs.toArray 0)).get? b=some o:=λb o q=>by
  have hlt:b < s.heap.objs.size:=B0 q
  refine ⟨S0 (V5 hlt),?_⟩
  rw[W5 _ _ _ (by rw[hsz];exact S0 (V5 hlt)),U7 _ _ _ _ (S0 hlt),W5 _ _ _ (S0 hlt)]
  exact q
 show wpAny _ _ _ _ _ { s with heap:=((s.heap.push (seqObj "list" #[] 0)).update s.heap.objs.size (S1 (·++vs.toArray))).push (seqObj "list" vs.toArray 0) }
 rw[hsz]
 refine wpAny_bind (wpAny_holding (wpAny_call_entry slot_list_sort ⟨_,hoL,rfl⟩ entry_list_sort (list_sort_64 (κ:=κ) (rk:=rk) hoL hz h64 (λh2 s' k Q' q=>hk h2 s' (λb o e=>k b o (keep b o e).1 (keep b o e).2) _ Q' q)
   (λs' k x y hx hy Q' q=>hlt s' (λb o e=>k b o (keep b o e).1 (keep b o e).2) x y hx hy Q' q) λout o1 o2=>⟨_,rfl,?_⟩) (args_list_sort _)))
 exact wpAny_pure ⟨_,rfl,h out o1 o2⟩
end
noncomputable def rSort64(K:j0)(Rep:Hp->Addr->α->Prop)(fn:Hp->V->α)(lt:α->α->Bool):List V->Hp->VK->Prop:=λxs H Q=>∃(a:Addr) (us:List V),xs=[.ref a]/\SqL K H a us/\us.length < 64 /\
 (∀v∈us,∃c x,v=.ref c/\Rep H c x)/\∀(p:Addr) (us':List V),H p=none->us'.Perm us->(us'.map (fn H)).Pairwise (λa b=>lt b a=false)->Q (.ref p) (upd H p (.lst us'))
section
variable {X:Cx}{α:Type}[Inhabited α]{Rep:Hp->Addr->α->Prop}{fn:Hp->V->α}{lt:α->α->Bool}{κ:SortKind}
theorem call_sortG64(W:SG.Wk lt)(hf:∀H c a,Rep H c a->fn H (.ref c)=a)
  (hkind:∀{pins:List (Addr×Obj)}{s:Shared}{σ:St}{H:Hp},Inv X pins σ H s->∀its:List Value,2<=its.length->(∀u∈its,∃c x,u=.ref c/\Rep H c x)->∀(s':Shared),(∀b o,s.heap.get? b=some o->s'.heap.get? b=some o)->∀(E:Value->Shared->Prop) (Q':SortKind->Shared->Prop),Q' κ s'->wpAny (model X.prog X.w) X.A.in1.in1 (keyKind' its.toArray) Q' E s')
  (hcmp:∀{pins:List (Addr×Obj)}{s:Shared}{σ:St}{H:Hp},Inv X pins σ H s->∀(c d:Addr) (x y:α),Rep H c x->Rep H d y->∀(s':Shared),(∀b o,s.heap.get? b=some o->s'.heap.get? b=some o)->∀Q':Bool->Shared->Prop,Q' (lt x y) s'->wpAny (model X.prog X.w) X.A.in1.in1 (keyLt' κ (.ref c) (.ref d)) Q' (λ_ _=>False) s') :
  CallR X (.builtin "sorted") (rSort64 X.K Rep fn lt):=by
 intro pins s σ H xs us Q I r h
 obtain⟨a,vs,rfl,hs,hz,hrep,q⟩:=h
 obtain⟨u,rfl,ru⟩:=vals1 r
 cases ru
 obtain⟨its,rv,⟨o,n,e,c,d1,d2⟩,hz'⟩:=I.list hs
 have hl:=rv.length
 have at':∀u∈its,∃c x,u=.ref c/\Rep H c x:=λu hu=>by
  obtain⟨i,hi,rfl⟩:=S7 hu
  have hi2:i < vs.length:=by omega
  obtain⟨c,x,hv,hr⟩:=hrep _ (S2 hi2)
  obtain⟨u,hu,ru⟩:=rv.get (J0 hi2)
  rw[hv]at ru
  rw[J0 hi]at hu
  have:its[i]=u:=V1 hu
  rw[this]
  exact ⟨c,x,relV_ref ru,hr⟩
 have key:∀x∈its,∀y∈its,decide ((its.map (ofVal fn H)).countP (λa=>lt a (ofVal fn H x)) < (its.map (ofVal fn H)).countP (λa=>lt a (ofVal fn H y)))=lt (ofVal fn H x) (ofVal fn H y):=λx hx y hy =>
  SG.rank W (V7 hx) (V7 hy)
 refine sorted_64 (κ:=κ) (rk:=λv=>(its.map (ofVal fn H)).countP (λa=>lt a (ofVal fn H v))) (vs:=its) ⟨o,e,c,n,by first|exact d2|exact d1⟩ (by rw[sizeLine_eq];omega) (by omega) (λh2 s' k E' Q' q'=>?_) (λs' k x y hx hy Q' q'=>?_) (λout o1 o2=>?_)
 ·exact hkind I its h2 at' s' k E' Q' q'
 ·rw[key x hx y hy]at q'
  obtain⟨c,x',rfl,hx'⟩:=at' x hx
  obtain⟨d,y',rfl,hy'⟩:=at' y hy
  refine hcmp I c d x' y' hx' hy' s' k Q' ?_
  have e1:ofVal fn H (.ref c)=x':=hf H c x' hx'
  have e2:ofVal fn H (.ref d)=y':=hf H d y' hy'
  rw[e1,e2]at q'
  exact q'
 ·obtain⟨ep,he⟩:=sortedAll_at s.heap its out.toArray
  have hn:H (s.heap.objs.size+1)=none:=I.hok.fresh (V6 _)
  obtain⟨us',p',r'⟩:=vals_perm o1 rv
  refine ⟨.ref (s.heap.objs.size+1),upd H (s.heap.objs.size+1) (.lst us'),I.laid (t':=s.toks) (λb u e=>sortedAll_old e) (V6 _) ?_,rfl,q _ us' hn p' ?_⟩
  ·exact ⟨by rw[p'.length_eq,sizeLine_eq];omega,out,ep,r',by rw[he]⟩
  ·rw[X5,L4]
   intro i j hi hj hij
   have hl':=r'.length
   have o3:=L4.mp o2 i j (by omega) (by omega) hij
   have hxm:out[i]'(by omega)∈its:=o1.mem_iff.mp (S2 _)
   have hym:out[j]'(by omega)∈its:=o1.mem_iff.mp (S2 _)
   have k2:=key _ hym _ hxm
   rw[decide_eq_false (Nat.not_lt.mpr o3)]at k2
   have ev:∀(m:Nat) (hm:m < us'.length),fn H us'[m]=ofVal fn H (out[m]'(by omega)):=λm hm=>by
    obtain⟨c,x,hv,hr⟩:=hrep _ (p'.mem_iff.mp (S2 hm))
    obtain⟨u,hu,ru⟩:=r'.get (J0 hm)
    rw[J0 (by omega)]at hu
    have hu:out[m]'(by omega)=u:=V1 hu
    rw[hv]at ru ⊢
    rw[hu,relV_ref ru]
    rfl
   rw[ev i hi,ev j hj]
   exact k2.symm
end
end L2
namespace L3
open PySem PySem.Spec PyProof.Rows L2
end L3
namespace L2
open PySem PySem.Spec PyProof.Rows PySem.W
theorem call_sortB64{X:Cx}(hu:X.A.units+2 < cLine):CallR X (.builtin "sorted") (rSort64 X.K RepB fnB ltB):=by
 have hu1:X.A.in1.in1.units < cLine:=by show X.A.units+2 < cLine;exact hu
 refine call_sortG64 (κ:=tuples' false) ltB_wk fnB_of (λ{pins s σ H} I its h2 at' s' k E' Q' q'=>?_) (λ{pins s σ H} I c d x y hx hy s' k Q' q'=>?_)
 ·have gen:∀(l:List Value),(∀v∈l,∃(c:Addr) (r:Bxx),v=.ref c/\RepB H c r)->∃fs:List Value,KatTups s'.heap l fs/\fs.length=l.length/\∀v∈fs,Looks (model X.prog X.w) s'.heap (typeOf v) (.type "tuple"):=by
   intro l
   induction l with
   | nil=>intro _;exact ⟨[],.nil,rfl,λv hv=>by simp at hv⟩
   | cons v l ih =>
    intro hl
    obtain⟨fs,f1,f2,f3⟩:=ih λx hx=>hl x (G0 _ hx)
    obtain⟨c,r,rfl,a,b,hc,ha,hb⟩:=hl v M0
    obtain⟨_,itc,rc,ob,e1,e2,m,e3,_⟩:=(show ObjOk X.prog X.w H s.heap c (.tup [.ref a,.ref b]) from I.hok c _ hc)
    obtain⟨u1,u2,rfl,r1,r2⟩:=vals2 rc
    cases r1
    obtain⟨_,itb,rb,oa,g1,g2,_⟩:=(show ObjOk X.prog X.w H s.heap a (.tup (r.1.map V.int)) from I.hok a _ ha)
    refine ⟨.ref a :: fs,.cons (k _ _ e1) e2 e3 rfl f1,by simp[f2],λv hv=>?_⟩
    rcases B1.mp hv with rfl|hv
    ·have:=(show Looks (model X.prog X.w) s'.heap (typeOf (.ref a)) oa.cls from (Looks.ld (k _ _ g1)).andThen .now)
     rw[g2]at this
     exact this
    ·exact f3 v hv
  obtain⟨fs,f1,f2,f3⟩:=gen its at'
  exact kat_kind (T:=.type "tuple") f1 (by omega) f3 (by decide) q'
 ·obtain⟨a1,b1,hc1,ha1,hb1⟩:=hx
  obtain⟨a2,b2,hc2,ha2,hb2⟩:=hy
  obtain⟨_,ic,rc,oc,c1,c2,m1,c3,_⟩:=(show ObjOk X.prog X.w H s.heap c (.tup [.ref a1,.ref b1]) from I.hok c _ hc1)
  obtain⟨_,id',rd,od,d1,d2,m2,d3,_⟩:=(show ObjOk X.prog X.w H s.heap d (.tup [.ref a2,.ref b2]) from I.hok d _ hc2)
  obtain⟨u1,u2,rfl,r1,r2⟩:=vals2 rc
  cases r1;cases r2
  obtain⟨w1,w2,rfl,r3,r4⟩:=vals2 rd
  cases r3;cases r4
  have I':Inv X pins σ H { s with heap:=s'.heap }:=I.kept (t':=s.toks) k
  have lt1:∀{a b:Addr}{x y:List Int}{Q:Bool->Shared->Prop},H a=some (.tup (x.map V.int))->H b=some (.tup (y.map V.int))->Q (HT.lexLt x y) s'->wpAny (model X.prog X.w) X.A.in1.in1 (oneLt' false (.ref a) (.ref b)) Q (λ_ _=>False) s':=λ{a b x y Q} ha hb hq=>by
   obtain⟨_,ia,ra,ta⟩:=(show ObjOk X.prog X.w H s'.heap a (.tup (x.map V.int)) from I'.hok a _ ha)
   obtain⟨_,ib,rb,tb⟩:=(show ObjOk X.prog X.w H s'.heap b (.tup (y.map V.int)) from I'.hok b _ hb)
   exact kat_one _ _ (HT.lt_tupInts ta.t tb.t (intsAre_of ra) (intsAre_of rb) hu1 hq)
  refine kat_lt (k _ _ c1) c3 (k _ _ d1) d3 (kat_cons ?_)
  refine eqTupB I hu1 ha1 ha2 k _ _ _ _ ?_
  unfold ltB at q'
  refine kat_go (λq=>kat_yes (kat_cons ?_)) (λq=>kat_no ?_)
  ·have q:=of_decide_eq_true q
   rw[if_pos q]at q'
   refine eqTupB I hu1 hb1 hb2 k _ _ _ _ ?_
   refine kat_go (λz=>kat_yes ?_) (λz=>kat_no ?_)
   ·have z:=of_decide_eq_true z
    rw[z,SG.lex_wk.irr]at q'
    exact q'
   ·exact lt1 hb1 hb2 q'
  ·have q:=of_decide_eq_false q
   rw[if_neg q]at q'
   exact lt1 ha1 ha2 q'
end L2
namespace L3
open PySem PySem.Spec PyProof.Rows L2
noncomputable def fSortB64:D->(Sl->Prop)->Prop
 | .list ds,Q=>∃rows:List Bxx,ds=rows.map boxD/\rows.length < 64/\∀rows':List Bxx,rows'.Perm rows->rows'.Pairwise (λa b=>ltB b a=false)->Q (.ow (.list (rows'.map boxD)))
 | _,_=>False
theorem ok_sortB64{K:Fg}:OpOk K (rSort64 K RepB fnB ltB) (o1 fSortB64):=ok1 λG F σ H ρ x d Q Qd R h1 w k=>by
 cases d<;>first|exact w.elim|skip
 case list ds =>
  obtain⟨rows,e,hz,w⟩:=w
  subst e
  obtain⟨a,us,rfl,e1,d1⟩:=h1.list R.sub
  have hl:=d1.length
  rw[A0]at hl
  have hrep:∀v∈us,∃c r,v=.ref c/\RepB F c r/\r∈rows:=λv hv=>by
   obtain⟨d,hd,dv⟩:=d1.mem v hv
   obtain⟨r,hr,rfl⟩:=U0.mp hd
   obtain⟨c,rfl,hc⟩:=da_box dv
   exact ⟨c,r,rfl,hc,hr⟩
  have up:∀{c:Addr}{r:Bxx},RepB F c r->RepB H c r:=λ{c r} ⟨a,b,h1,h2,h3⟩=>⟨a,b,R.sub _ _ h1,R.sub _ _ h2,R.sub _ _ h3⟩
  have hfe:∀v∈us,fnB H v=fnB F v:=λv hv=>by
   obtain⟨c,r,rfl,hc,_⟩:=hrep v hv
   rw[fnB_of F c r hc,fnB_of H c r (up hc)]
  refine ⟨a,us,rfl,SqL.of e1,by omega,λv hv=>?_,λp us' hp p' o'=>?_⟩
  ·obtain⟨c,r,rfl,hc,_⟩:=hrep v hv
   exact ⟨c,r,rfl,up hc⟩
  ·have em:us.map (fnB F)=rows:=by
    refine DaAll.map_eq (K:=K) (F:=F) (g:=boxD) (λv a h=>?_) d1
    obtain⟨c,rfl,hc⟩:=da_box h
    exact fnB_of F c a hc
   have ee:us'.map (fnB H)=us'.map (fnB F):=N5 λv hv=>hfe v (p'.mem_iff.mp hv)
   rw[ee]at o'
   have dall:DaAll K F us' ((us'.map (fnB F)).map boxD):=by
    rw[T1]
    refine DaAll.map_of λv hv=>?_
    obtain⟨c,r,rfl,hc,_⟩:=hrep v (p'.mem_iff.mp hv)
    show Da K F (.ref c) (boxD (fnB F (.ref c)))
    rw[fnB_of F c r hc]
    exact repB_da hc
   obtain⟨R',r'⟩:=R.newOw (o:=.lst us') (d:=.list _) hp dall
   exact k _ _ F _ (Sub.refl _) R' r' (w _ (by rw[<- em];exact p'.map _) o')
theorem call_sortBK64{X:Cx}{K:Fg}(h:X.K=K)(hu:X.A.units+2 < cLine):CallR X (.builtin "sorted") (rSort64 K RepB fnB ltB):=by subst h;exact call_sortB64 hu
end L3
namespace R77
open PySem L2 L3 PyProof.Rows
noncomputable def top(i:Nat):Stmt:=PySem.Challenge.pw_boxsums_k77_whole_whatever_paper_holds.main.body.getD i (.Pass ⟨0,0,0,0⟩)
structure Txt(mg:Str->Option Value):Prop where
 len_:mg "len"=none
 max_:mg "max"=none
 min_:mg "min"=none
 all_:mg "all"=none
 isinstance_:mg "isinstance"=none
 tuple_:mg "tuple"=none
 list_:mg "list"=none
 int_:mg "int"=none
 bool_:mg "bool"=none
 str_:mg "str"=none
 range_:mg "range"=none
 zip_:mg "zip"=none
 repr_:mg "repr"=none
 sorted_:mg "sorted"=none
 sum_:mg "sum"=none
 reversed_:mg "reversed"=none
 MOST_WAYS_:∃t,mg "MOST_WAYS"=some (.int 3 t)
 MOST_CELLS_:∃t,mg "MOST_CELLS"=some (.int 120 t)
structure Cls(K:j0)(mg:Str->Option Value):Prop where
 PARTS_:GT K mg "PARTS" [4,5]
section
variable {P:Program}{w:World}{K:j0}{mg:Str->Option Value}{base:Heap}
noncomputable abbrev liD(l:List Int):PyData:=.list (l.map q0)
noncomputable abbrev penD(a b c:Int):PyData:=.list [.int a,.int b,.int c]
noncomputable def cPen:Con:=λargs Q=>∃(ns:List Int) (k:Int),args=[.fz (scrD ns),.fz (.int k)]/\0<=k/\k<=1000/\∀(a b:Int) (o:Ev),0<=a->0<=b->Q (.ow (penD a b 0)) o
theorem scPen:FnScope ["_law_script","_law_k","_law_cell_here"] ["_law_script","_law_k"] (defScope (top 36)):=⟨rfl,rfl,rfl,by decide +kernel,rfl,by decide +kernel,by decide +kernel⟩
theorem ok_pen{f:Addr}{fd:FuncData}(F:Fun K "_law_pen" "_law_pen" (top 36) f fd)(T:Txt mg):FnOk P w K mg base CX0 1 f fd ["_law_script","_law_k"] (conSp K cPen):=by
 have S:=scPen
 refine wfn F S (λcdv A outer s H E hr=>(s_cons (s_set (i:=2) S.nd rfl (Or.inl rfl) w_int)
     (s_cons (s_if (t_cmp ok_gt op_gt (wx (w_callB ok_len (call_lenK (K:=K) rfl) T.len_ PySem.boot_len (wa_cons (wn 0) wa_nil))) (wx w_int)) (s_one (s_set (i:=2) S.nd rfl (Or.inl rfl) (w_ix rfl (wn 0) (wx (w_bin ok_mod op_mod (wn 1) (wx (w_callB ok_len (call_lenK (K:=K) rfl) T.len_ PySem.boot_len (wa_cons (wn 0) wa_nil)))))))) s_nil)
     (s_cons (s_if (t_w (t_and (t_cmp ok_lt op_lt (wn 1) (wx (w_callB ok_len (call_lenK (K:=K) rfl) T.len_ PySem.boot_len (wa_cons (wn 0) wa_nil)))) (t_and1 (t_cmp ok_ge op_ge (wn 2) (wx (w_bin ok_pow op_pow (wx w_int) (wx w_int))))))) (s_one (s_ret (w_lst (wa_cons (wx (wv 2)) (wa_cons (wx w_int) (wa_cons (wx w_int) wa_nil)))))) s_nil)
     (s_one (s_ret (w_lst (wa_cons (wx w_int) (wa_cons (wx (w_bin ok_add op_addD (wx (w_bin ok_mod op_mod (wn 2) (wx w_int))) (wx (w_bin ok_mul op_mulD (wx w_int) (wn 1))))) (wa_cons (wx w_int) wa_nil)))))))))) ?_ ?_
 ·rintro args Qd ⟨ns,k,rfl,_⟩;rfl
 ·rintro args Qd ⟨ns,k,rfl,k0,k1,q⟩
  have fin:∀(c:Int) (o:Ev),Qd (.ow (penD 0 (c % 999999937+70001 * k) 0)) o:=λc o=>by
   have:=w6 c (show (999999937:Int)≠0 by decide)
   exact q _ _ _ (by decide) (by omega)
  refine ⟨noOw_of rfl,?_⟩
  refine ⟨ns,rfl,?_⟩
  refine ite2 (λh1=>?_) (λh1=>?_)
  ·have hp:0 < ns.length:=by have:(0:Int) < (ns.length:Int):=of_decide_eq_true h1;omega
   have hb:=M6 k (show (0:Int) < ns.length by omega)
   have ha:=w6 k (show (ns.length:Int)≠0 by omega)
   obtain⟨j,hj⟩:=T2 ha
   have hjl:j < ns.length:=by omega
   refine ⟨ns,rfl,by show (0:Int) < (ns.length:Int);omega,ns,ns[j],rfl,by rw[hj];exact atI_nat (J0 hjl),?_⟩
   refine ⟨ns,rfl,?_⟩
   refine ite2 (λh3=>?_) (λh3=>?_)
   ·refine ⟨⟨by decide,by decide,by decide⟩,ite2 (λh4=>?_) (λh4=>?_)⟩
    ·have h4:(10:Int) ^ 18<=ns[j]:=of_decide_eq_true h4
     exact q _ _ _ (by omega) (by decide)
    ·exact ⟨by show (0:Int) < 999999937;decide,.inl ⟨by decide,by decide⟩,fin _ _⟩
   ·exact ⟨by show (0:Int) < 999999937;decide,.inl ⟨by decide,by decide⟩,fin _ _⟩
  ·refine ⟨ns,rfl,?_⟩
   refine ite2 (λh3=>?_) (λh3=>?_)
   ·exfalso
    have h3:k < (ns.length:Int):=of_decide_eq_true h3
    exact h1 (decide_eq_true (by omega))
   ·exact ⟨by show (0:Int) < 999999937;decide,.inl ⟨by decide,by decide⟩,fin _ _⟩
noncomputable def cDraw:Con:=λargs Q=>∃(a b c m:Int),args=[.io (penD a b c),.fz (.int m)]/\0<=a/\0<=b/\0<=c/\0 < m/\m < 1000000 /\
 ∀(r a' b' c':Int) (o:Ev),0<=r->r < m->0<=a'->0<=b'->0<=c'->Q (.fz (.int r)) (some (.io (penD a' b' c')) :: o)
theorem scDraw:FnScope ["_law_pen_here","_law_many","_law_found","_law_number_here"] ["_law_pen_here","_law_many"] (defScope (top 37)):=⟨rfl,rfl,rfl,by decide +kernel,rfl,by decide +kernel,by decide +kernel⟩
theorem ok_draw{f:Addr}{fd:FuncData}(F:Fun K "_law_draw" "_law_draw" (top 37) f fd):FnOk P w K mg base CX0 1 f fd ["_law_pen_here","_law_many"] (conSp K cDraw):=by
 have S:=scDraw
 refine wfn F S (λcdv A outer s H E hr=>(s_cons (s_if (t_cmp ok_gt op_gt (wx (w_ix rfl (wn 0) (wx w_int))) (wx w_int)) (s_cons (s_set (i:=2) S.nd rfl (Or.inl rfl) (w_bin ok_mod op_mod (wx (w_ix rfl (wn 0) (wx w_int))) (wn 1)))
     (s_cons (s_ix (w_bin ok_fdiv op_fdiv (wx (w_ix rfl (wn 0) (wx w_int))) (wn 1)) (wn 0) (wx w_int))
     (s_one (s_retV (wn 2))))) s_nil)
     (s_cons (s_ix (w_bin ok_add op_addD (wx (w_ix rfl (wn 0) (wx w_int))) (wx w_int)) (wn 0) (wx w_int))
     (s_cons (s_set (i:=3) S.nd rfl (Or.inl rfl) (w_bin ok_mod op_mod (wx (w_bin ok_add op_addD (wx (w_bin ok_add op_addD (wx (w_bin ok_mul op_mulD (wx (w_ix rfl (wn 0) (wx w_int))) (wx w_int))) (wx (w_bin ok_mul op_mulD (wx (w_ix rfl (wn 0) (wx w_int))) (wx w_int))))) (wx w_int))) (wx w_int)))
     (s_cons (s_set (i:=3) S.nd rfl (Or.inl rfl) (w_bin ok_mod op_mod (wx (w_bin ok_mul op_mulD (wn 3) (wx (w_bin ok_add op_addD (wx (w_bin ok_mod op_mod (wn 3) (wx w_int))) (wx (w_ix rfl (wn 0) (wx w_int))))))) (wx w_int)))
     (s_one (s_ret (w_bin ok_mod op_mod (wx (w_bin ok_fdiv op_fdiv (wn 3) (wx w_int))) (wn 1))))))))) ?_ ?_
 ·rintro args Qd ⟨a,b,c,m,rfl,_⟩;rfl
 ·rintro args Qd ⟨a,b,c,m,rfl,ha,hb,hc,m0,m1,q⟩
  have hmd:∀x:Int,0<=x % m/\x % m < m:=λx=>⟨w6 _ (by omega),M6 _ m0⟩
  refine ⟨noOw_of rfl,?_⟩
  refine ⟨_,rfl,?_⟩
  refine ite2 (λh1=>?_) (λh1=>?_)
  ·refine ⟨_,rfl,m0,_,rfl,⟨m0,by omega⟩,0,rfl,?_⟩
   exact q _ _ _ _ _ (hmd _).1 (hmd _).2 (Int.ediv_nonneg ha (by omega)) hb hc
  refine ⟨_,rfl,2,rfl,?_⟩
  refine ⟨_,rfl,.inr ⟨by decide,by decide⟩,_,rfl,.inr ⟨by decide,by decide⟩,by show (0:Int) < 2147483647;decide,?_⟩
  have hx:∀x:Int,0<=x % 2147483647/\x % 2147483647 < 2147483647:=λx=>⟨w6 _ (by decide),M6 _ (by decide)⟩
  generalize ey:(b * 48271+(c+1) * 39373+11:Int) % 2147483647=y
  have hy:=hx (b * 48271+(c+1) * 39373+11)
  rw[ey]at hy
  refine ⟨by show (0:Int) < 65521;decide,_,rfl,.inl ⟨by omega,by omega⟩,by show (0:Int) < 2147483629;decide,?_⟩
  exact ⟨⟨by decide,by decide⟩,m0,q _ _ _ _ _ (hmd _).1 (hmd _).2 ha hb (by omega)⟩
noncomputable def Big(c:Int):Prop:=-(10 ^ 27) < c/\c < 10 ^ 27
structure CalsN(P:Program)(w:World)(K:j0)(mg:Str->Option Value)(base:Heap):Prop where
 law_draw:Cal P w K mg base 1 "_law_draw" ["_law_pen_here","_law_many"] (conSp K cDraw)
noncomputable def cNumber:Con:=λargs Q=>∃(a b c:Int),args=[.io (penD a b c)]/\0<=a/\0<=b/\0<=c /\
 ∀(r a' b' c':Int) (o:Ev),Big r->0<=a'->0<=b'->0<=c'->Q (.fz (.int r)) (some (.io (penD a' b' c')) :: o)
theorem scNumber:FnScope ["_law_pen_here","_law_way"] ["_law_pen_here"] (defScope (top 38)):=⟨rfl,rfl,rfl,by decide +kernel,rfl,by decide +kernel,by decide +kernel⟩
theorem ok_number{f:Addr}{fd:FuncData}(F:Fun K "_law_number" "_law_number" (top 38) f fd)(C:CalsN P w K mg base):FnOk P w K mg base CX0 2 f fd ["_law_pen_here"] (conSp K cNumber):=by
 have S:=scNumber
 refine wfn F S (λcdv A outer s H E hr=>(s_cons (s_set (i:=1) S.nd rfl (Or.inl rfl) (w_fnI C.law_draw (hr.mono (by first|decide|omega)) (wa_cons (wn 0) (wa_cons (wx w_int) wa_nil))))
     (s_cons (s_if (t_cmp ok_eq (op_eqE (K:=K) rfl hr.units) (wn 1) (wx w_int)) (s_one (s_ret (w_bin ok_mul op_mulD (wx (w_bin ok_add op_addD (wx (w_bin ok_pow op_pow (wx w_int) (wx w_int))) (wx (w_fnI C.law_draw (hr.mono (by first|decide|omega)) (wa_cons (wn 0) (wa_cons (wx w_int) wa_nil)))))) (wx (w_bin ok_sub op_sub (wx w_int) (wx (w_bin ok_mul op_mulD (wx w_int) (wx (w_fnI C.law_draw (hr.mono (by first|decide|omega)) (wa_cons (wn 0) (wa_cons (wx w_int) wa_nil))))))))))) s_nil)
     (s_cons (s_if (t_cmp ok_gt op_gt (wn 1) (wx w_int)) (s_one (s_ret (w_bin ok_sub op_sub (wx (w_fnI C.law_draw (hr.mono (by first|decide|omega)) (wa_cons (wn 0) (wa_cons (wx w_int) wa_nil)))) (wx w_int)))) s_nil)
     (s_one (s_ret (w_bin ok_sub op_sub (wx (w_fnI C.law_draw (hr.mono (by first|decide|omega)) (wa_cons (wn 0) (wa_cons (wx w_int) wa_nil)))) (wx w_int)))))))) ?_ ?_
 ·rintro args Qd ⟨a,b,c,rfl,_⟩;rfl
 ·rintro args Qd ⟨a,b,c,rfl,ha,hb,hc,q⟩
  refine ⟨noOw_of rfl,?_⟩
  refine ⟨a,b,c,_,rfl,ha,hb,hc,by decide,by decide,λr a1 b1 c1 _ r0 r1 ha1 hb1 hc1=>?_⟩
  refine ite2 (λh1=>?_) (λh1=>?_)
  ·refine ⟨⟨by decide,by decide,by decide⟩,?_⟩
   refine ⟨a1,b1,c1,_,rfl,ha1,hb1,hc1,by decide,by decide,λu a2 b2 c2 _ u0 u1 ha2 hb2 hc2=>?_⟩
   refine ⟨a2,b2,c2,_,rfl,ha2,hb2,hc2,by decide,by decide,λv a3 b3 c3 _ v0 v1 ha3 hb3 hc3=>?_⟩
   refine ⟨.inl ⟨by decide,by decide⟩,.inr ⟨by omega,by omega⟩,?_⟩
   refine q _ _ _ _ _ ?_ ha3 hb3 hc3
   show Big ((10 ^ 26+u) * (1 - 2 * v))
   have:v=0\/v=1:=by omega
   rcases this with rfl|rfl
   ·exact ⟨by omega,by omega⟩
   ·exact ⟨by omega,by omega⟩
  refine ite2 (λh2=>?_) (λh2=>?_)
  ·refine ⟨a1,b1,c1,_,rfl,ha1,hb1,hc1,by decide,by decide,λu a2 b2 c2 _ u0 u1 ha2 hb2 hc2=>?_⟩
   exact q _ _ _ _ _ ⟨by omega,by omega⟩ ha2 hb2 hc2
  ·refine ⟨a1,b1,c1,_,rfl,ha1,hb1,hc1,by decide,by decide,λu a2 b2 c2 _ u0 u1 ha2 hb2 hc2=>?_⟩
   exact q _ _ _ _ _ ⟨by omega,by omega⟩ ha2 hb2 hc2
end
open PySem PySem.Spec L2 L3 PyProof.Rows
noncomputable abbrev Bxx:=List Int×List Int
noncomputable def prodI:List Int->Int
 | []=>1
 | a :: r=>a * prodI r
theorem prodI_pos:∀{l:List Int},(∀c∈l,1<=c)->1<=prodI l
 | [],_=>V3 _
 | a :: r,h=>by
  have h1:=h a M0
  have h2:=prodI_pos (l:=r) λc hc=>h c (G0 _ hc)
  show 1<=a * prodI r
  have:=N7 h1 h2 (by decide) (by omega)
  omega
theorem prodI_append(l r:List Int):prodI (l++r)=prodI l * prodI r:=by
 induction l with
 | nil=>show prodI r=1 * prodI r;rw[W6]
 | cons a l ih=>show a * prodI (l++r)=a * prodI l * prodI r;rw[ih,e7]
structure Sd(sd:List Int):Prop where
 l1:1<=sd.length
 l3:sd.length<=3
 p:∀c∈sd,1<=c
 m:prodI sd<=120
noncomputable abbrev tupD(p:List Int):PyData:=.tuple (p.map q0)
noncomputable def eachA{α:Type}(acc:List (List α)):List (List α)->List (List α)
 | []=>acc
 | c :: cs=>eachA (acc.flatMap λp=>c.map λx=>p++[x]) cs
noncomputable def lenP{α:Type}:List (List α)->Nat
 | []=>1
 | c :: cs=>c.length * lenP cs
theorem flat_len{α:Type}(c:List α):∀acc:List (List α),(acc.flatMap λp=>c.map λx=>p++[x]).length=acc.length * c.length
 | []=>by simp
 | p :: acc=>by rw[List.flatMap_cons,Z0,flat_len c acc,A0,Z1,E6,Nat.add_comm]
theorem eachA_len{α:Type}:∀(cs acc:List (List α)),(eachA acc cs).length=acc.length * lenP cs
 | [],acc=>by simp[eachA,lenP]
 | c :: cs,acc=>by rw[eachA,eachA_len cs,flat_len,lenP,Nat.mul_assoc]
noncomputable def rng(s:Int):List Int:=(A2 s.toNat).map λ(n:Nat)=>(n:Int)
theorem rangeD_rng(s:Int):rangeD 0 s.toNat=(rng s).map q0:=by simp[rangeD,rng,T1,Function.comp_def]
theorem rng_len(s:Int):(rng s).length=s.toNat:=by simp[rng]
noncomputable def plc(sd:List Int):List (List Int):=eachA [[]] (sd.map rng)
theorem lenP_rng:∀{sd:List Int},(∀c∈sd,1<=c)->(lenP (sd.map rng):Int)=prodI sd
 | [],_=>rfl
 | a :: r,h=>by
  have h1:=h a M0
  have h2:=lenP_rng (sd:=r) λc hc=>h c (G0 _ hc)
  show ((((rng a).length * lenP (r.map rng):Nat)):Int)=a * prodI r
  rw[rng_len,Int.natCast_mul,h2]
  congr 1
  omega
theorem zipD_ints(a b:List Int):zipD (a.map q0) (b.map q0)=(a.zip b).map λp=>K2 [.int p.1,.int p.2]:=by
 rw[zipD,List.zip_map,T1];rfl
noncomputable def rng2(a b:Int):List Int:=(A2 (b+1 - a).toNat).map λ(n:Nat)=>a+(n:Int)
theorem rangeD_rng2(a b:Int):rangeD a (b+1 - a).toNat=(rng2 a b).map q0:=by simp[rangeD,rng2,T1,Function.comp_def]
theorem rng2_zero(s:Int):rng2 0 (s - 1)=rng s:=by
 unfold rng2 rng
 rw[show s - 1+1 - 0=s by omega]
 simp
noncomputable def btw(low high:List Int):List (List Int):=eachA [[]] ((low.zip high).map λp=>rng2 p.1 p.2)
theorem le_prodI:∀{sd:List Int},(∀c∈sd,1<=c)->∀c∈sd,c<=prodI sd
 | a :: r,h,c,hc=>by
  have h1:=h a M0
  have hr:∀c∈r,1<=c:=λc hc=>h c (G0 _ hc)
  have h2:=prodI_pos hr
  show c<=a * prodI r
  rcases B1.mp hc with rfl|hc
  ·have:=X3 h2 (show (0:Int)<=c by omega);omega
  ·have h3:=le_prodI hr c hc
   have:=t6 h1 (show (0:Int)<=prodI r by omega);omega
noncomputable def idx(sd pl:List Int):Int:=(sd.zip pl).foldl (λi p=>i * p.1+p.2) 0
noncomputable def InW{α:Type}:List α->List (List α)->Prop
 | [],[]=>True
 | x :: xs,c :: cs=>x∈c/\InW xs cs
 | _,_=>False
theorem each_mem{α:Type}:∀{cs acc:List (List α)}{p:List α},p∈eachA acc cs->∃a∈acc,∃q,p=a++q/\InW q cs
 | [],acc,p,h=>⟨p,h,[],by simp,trivial⟩
 | c :: cs,acc,p,h=>by
  obtain⟨a',ha',q,rfl,hq⟩:=each_mem (cs:=cs) h
  obtain⟨a,ha,hb⟩:=t7.mp ha'
  obtain⟨x,hx,rfl⟩:=U0.mp hb
  exact ⟨a,ha,x :: q,by simp,hx,hq⟩
theorem each_mem0{α:Type}{cs:List (List α)}{p:List α}(h:p∈eachA [[]] cs):InW p cs:=by
 obtain⟨a,ha,q,rfl,hq⟩:=each_mem h
 simp at ha
 subst ha
 exact hq
theorem mem_rng{x s:Int}(h:x∈rng s):0<=x/\x < s:=by
 unfold rng at h
 obtain⟨n,hn,rfl⟩:=U0.mp h
 have:=Y2.mp hn
 omega
noncomputable def Wi:List Int->List Int->Prop
 | [],[]=>True
 | x :: xs,s :: ss=>(0<=x/\x < s)/\Wi xs ss
 | _,_=>False
theorem plc_wi{sd p:List Int}(hm:p∈plc sd):Wi p sd:=by
 have h:=each_mem0 hm
 clear hm
 induction sd generalizing p with
 | nil=>cases p with
  | nil=>trivial
  | cons _ _=>exact h.elim
 | cons s ss ih=>cases p with
  | nil=>exact h.elim
  | cons x xs=>exact ⟨mem_rng h.1,ih h.2⟩
theorem plc_len{sd:List Int}(hp:∀c∈sd,1<=c):((plc sd).length:Int)=prodI sd:=by
 rw[plc,eachA_len,<- lenP_rng hp]
 simp
theorem wi_len:∀{p sd:List Int},Wi p sd->p.length=sd.length
 | [],[],_=>rfl
 | [],_ :: _,h=>h.elim
 | _ :: _,[],h=>h.elim
 | _ :: _,_ :: _,h=>by simp[wi_len h.2]
theorem idx_b:∀{sd pl:List Int}{i m:Int},Wi pl sd->0<=i->i < m->0<=(sd.zip pl).foldl (λi p=>i * p.1+p.2) i/\(sd.zip pl).foldl (λi p=>i * p.1+p.2) i < m * prodI sd
 | [],[],i,m,_,h0,h1=>by simp[prodI];omega
 | [],_ :: _,_,_,h,_,_=>h.elim
 | _ :: _,[],_,_,h,_,_=>h.elim
 | s :: ss,x :: xs,i,m,h,h0,h1=>by
  have hx:=h.1
  have hs:0<=s:=by omega
  have e1:0<=i * s:=Int.mul_nonneg h0 hs
  have e2:i * s<=(m - 1) * s:=t6 (by omega) hs
  rw[Int.sub_mul,W6]at e2
  have:=idx_b (sd:=ss) (pl:=xs) (i:=i * s+x) (m:=m * s) h.2 (by omega) (by omega)
  rw[e7]at this
  exact this
theorem rng_at{s:Int}{j:Nat}{x:Int}(h:(rng s)[j]?=some x):x=j/\(j:Int) < s:=by
 unfold rng at h
 rw[W0,u4]at h
 obtain⟨n,hn,rfl⟩:=h
 rw[X0]at hn
 obtain⟨h1,h2⟩:=hn
 simp at h1 h2
 omega
theorem flat_at{s:Int}(hs:1<=s):∀{acc:List (List Int)}{j':Nat}{a':List Int},(acc.flatMap λp=>(rng s).map λx=>p++[x])[j']?=some a' ->
  ∃(j:Nat) (a:List Int) (x:Int),acc[j]?=some a/\a'=a++[x]/\(0<=x/\x < s)/\(j':Int)=j * s+x
 | [],j',a',h=>by simp at h
 | a :: acc,j',a',h=>by
  rw[List.flatMap_cons]at h
  rcases Nat.lt_or_ge j' ((rng s).map λx=>a++[x]).length with g|g
  ·rw[W2 g,W0,u4]at h
   obtain⟨x,hx,rfl⟩:=h
   obtain⟨rfl,h2⟩:=rng_at hx
   exact ⟨0,a,_,rfl,rfl,⟨by omega,h2⟩,by simp⟩
  ·rw[U2 g]at h
   obtain⟨j,b,x,h1,h2,h3,h4⟩:=flat_at hs h
   rw[A0,rng_len]at g h4
   refine ⟨j+1,b,x,h1,h2,h3,?_⟩
   rw[show ((j+1:Nat):Int)=(j:Int)+1 by omega,Int.add_mul,W6]
   omega
theorem each_at:∀{sd:List Int}{acc:List (List Int)}{k:Nat}{p:List Int},(∀c∈sd,1<=c)->(eachA acc (sd.map rng))[k]?=some p ->
  ∃(j:Nat) (a q:List Int),acc[j]?=some a/\p=a++q/\Wi q sd/\(sd.zip q).foldl (λi p=>i * p.1+p.2) (j:Int)=k
 | [],acc,k,p,_,h=>⟨k,p,[],h,by simp,trivial,rfl⟩
 | s :: ss,acc,k,p,hp,h=>by
  obtain⟨j',a',q',h1,h2,h3,h4⟩:=each_at (sd:=ss) (λc hc=>hp c (G0 _ hc)) h
  obtain⟨j,a,x,g1,g2,g3,g4⟩:=flat_at (hp s M0) h1
  refine ⟨j,a,x :: q',g1,by rw[h2,g2];simp,⟨g3,h3⟩,?_⟩
  rw[g4]at h4
  exact h4
theorem plc_at{sd:List Int}(hp:∀c∈sd,1<=c){k:Nat}{p:List Int}(h:(plc sd)[k]?=some p):Wi p sd/\idx sd p=k:=by
 obtain⟨j,a,q,h1,h2,h3,h4⟩:=each_at hp h
 have hj:j=0:=by
  rcases j with _|j
  ·rfl
  ·simp at h1
 subst hj
 simp at h1
 subst h1
 simp at h2
 subst h2
 exact ⟨h3,h4⟩
theorem at_ints{xs:List Int}{i:Nat}(h:i < xs.length):atI (xs.map q0) (i:Int)=some (.int (xs.getD i 0)):=by
 refine atI_nat ?_
 rw[W0,J0 h,Q0,J0 h]
 rfl
theorem lex_app:∀{a b:List Int} (x y:Int),a.length=b.length->HT.lexLt a b=true->HT.lexLt (a++[x]) (b++[y])=true
 | [],[],x,y,_,h=>by cases h
 | [],_ :: _,x,y,e,_=>by simp at e
 | _ :: _,[],x,y,e,_=>by simp at e
 | u :: a,v :: b,x,y,e,h=>by
  rw[K5,K5,HT.lexLt_cons]
  rw[HT.lexLt_cons]at h
  by_cases q:u=v
  ·rw[if_pos q]at h ⊢
   exact lex_app x y (by simpa using e) h
  ·rw[if_neg q]at h ⊢
   exact h
theorem lex_end:∀(a:List Int) {x y:Int},x < y->HT.lexLt (a++[x]) (a++[y])=true
 | [],x,y,h=>by
  show HT.lexLt [x] [y]=true
  rw[HT.lexLt_cons,if_neg (by omega)]
  exact decide_eq_true h
 | u :: a,x,y,h=>by
  rw[K5,K5,HT.lexLt_cons,if_pos rfl]
  exact lex_end a h
theorem eachA_sorted:∀{cs acc:List (List Int)}{n:Nat},acc.Pairwise (λa b=>HT.lexLt a b=true)->(∀p∈acc,p.length=n)->(∀c∈cs,c.Pairwise (· < ·))->(eachA acc cs).Pairwise (λa b=>HT.lexLt a b=true)
 | [],_,_,h,_,_=>h
 | c :: cs,acc,n,h,hn,hc=>by
  refine eachA_sorted (cs:=cs) (n:=n+1) ?_ ?_ λd hd=>hc d (G0 _ hd)
  ·rw[List.pairwise_flatMap]
   refine ⟨λp hp=>?_,?_⟩
   ·rw[X5]
    exact (hc c M0).imp λh=>lex_end p h
   ·refine List.Pairwise.imp_of_mem (λ{a b} ha hb h=>?_) h
    intro x hx y hy
    obtain⟨u,_,rfl⟩:=U0.mp hx
    obtain⟨v,_,rfl⟩:=U0.mp hy
    exact lex_app u v (by rw[hn a ha,hn b hb]) h
  ·intro p hp
   obtain⟨q,hq,hx⟩:=t7.mp hp
   obtain⟨x,_,rfl⟩:=U0.mp hx
   rw[Z0,hn q hq]
   rfl
theorem rng2_lt(a b:Int):(rng2 a b).Pairwise (· < ·):=by
 unfold rng2
 rw[X5]
 exact List.pairwise_lt_range.imp λh=>by omega
theorem btw_sorted(lo hi:List Int):(btw lo hi).Pairwise (λa b=>HT.lexLt b a=false):=by
 have h:=eachA_sorted (cs:=(lo.zip hi).map λp=>rng2 p.1 p.2) (acc:=[[]]) (n:=0) (Z3 _ _) (by simp) λc hc=>by
  obtain⟨p,_,rfl⟩:=U0.mp hc
  exact rng2_lt _ _
 refine List.Pairwise.imp (λ{a b} h=>?_) h
 cases e:HT.lexLt b a
 ·rfl
 ·have:=SG.lex_wk.tr a b a h e
  rw[SG.lex_wk.irr]at this
  cases this
theorem rng2_len(a b:Int):(rng2 a b).length=(b+1 - a).toNat:=by simp[rng2]
theorem each_in2{α:Type}:∀{cs acc:List (List α)}{a q:List α},a∈acc->InW q cs->a++q∈eachA acc cs
 | [],acc,a,[],ha,_=>by simpa [eachA]using ha
 | [],_,_,_ :: _,_,h=>h.elim
 | _ :: _,_,_,[],_,h=>h.elim
 | c :: cs,acc,a,x :: q,ha,h=>by
  have:=each_in2 (cs:=cs) (acc:=acc.flatMap λp=>c.map λx=>p++[x]) (a:=a++[x]) (q:=q) (t7.mpr ⟨a,ha,U0.mpr ⟨x,h.1,rfl⟩⟩) h.2
  simpa [eachA]using this
theorem rng_mem{x s:Int}(h0:0<=x)(h1:x < s):x∈rng s:=U0.mpr ⟨x.toNat,Y2.mpr (by omega),by omega⟩
theorem wi_inW:∀{p sd:List Int},Wi p sd->InW p (sd.map rng)
 | [],[],_=>trivial
 | [],_ :: _,h=>h.elim
 | _ :: _,[],h=>h.elim
 | x :: p,s :: sd,h=>⟨rng_mem h.1.1 h.1.2,wi_inW h.2⟩
theorem wi_mem{p sd:List Int}(h:Wi p sd):p∈plc sd:=each_in2 (a:=[]) (by simp) (wi_inW h)
noncomputable abbrev fldD(sd cl:List Int):PyData:=.tuple [tupD sd,tupD cl]
noncomputable def cel(sd cl p:List Int):Int:=cl.getD (idx sd p).toNat 0
mutual
noncomputable def okD:PyData->Bool
 | .dict es=>notScr es
 | .list xs=>okAll xs
 | .tuple xs=>okAll xs
 | .none=>true
 | .bool _=>true
 | .int _=>true
 | .str _=>true
noncomputable def okAll:List PyData->Bool
 | []=>true
 | x :: xs=>okD x&&okAll xs
end
theorem okAll_mem:∀{xs:List PyData},okAll xs=true->∀d∈xs,okD d=true
 | [],_,d,h=>by simp at h
 | x :: xs,h,d,hd=>by
  simp[okAll]at h
  rcases B1.mp hd with rfl|hd
  ·exact h.1
  ·exact okAll_mem h.2 d hd
theorem okAll_of:∀{xs:List PyData},(∀d∈xs,okD d=true)->okAll xs=true
 | [],_=>rfl
 | x :: xs,h=>by
  simp[okAll]
  exact ⟨h x M0,okAll_of λd hd=>h d (G0 _ hd)⟩
noncomputable def isI:PyData->Bool
 | .int _=>true
 | _=>false
noncomputable def num1(s:Int):PyData->Bool
 | .int i=>decide (0<=i)&&decide (i < s)
 | _=>false
noncomputable def okZ:List PyData->List Int->Bool
 | d :: ds,s :: sd=>num1 s d&&okZ ds sd
 | _,_=>true
noncomputable def isPl(sd:List Int):PyData->Bool
 | .tuple ds=>decide (ds.length=sd.length)&&okZ ds sd
 | _=>false
noncomputable def unI:PyData->Int
 | .int i=>i
 | _=>0
theorem unI_int(ns:List Int):(ns.map q0).map unI=ns:=by
 rw[T1];exact y8 ns
noncomputable def areW(n:Nat):PyData->Bool
 | .tuple ds=>decide (ds.length=n)&&ds.all isI
 | _=>false
noncomputable def Bx:List Int->List Int->List Int->Prop
 | [],[],[]=>True
 | x :: lo,y :: hi,s :: sd=>(0<=x/\x<=y/\y < s)/\Bx lo hi sd
 | _,_,_=>False
theorem bx_len:∀{lo hi sd:List Int},Bx lo hi sd->lo.length=sd.length/\hi.length=sd.length
 | [],[],[],_=>⟨rfl,rfl⟩
 | x :: lo,y :: hi,s :: sd,h=>by
  have:=bx_len h.2
  simp[this.1,this.2]
 | [],[],_ :: _,h=>h.elim
 | [],_ :: _,z,h=>by cases z<;>exact h.elim
 | _ :: _,[],z,h=>by cases z<;>exact h.elim
 | _ :: _,_ :: _,[],h=>h.elim
theorem okD_tup(p:List Int):okD (tupD p)=true:=okAll_of λd hd=>by
 obtain⟨i,_,rfl⟩:=U0.mp hd;rfl
theorem bx_snoc:∀{lo hi sd:List Int}{x y s:Int},Bx lo hi sd->0<=x->x<=y->y < s->Bx (lo++[x]) (hi++[y]) (sd++[s])
 | [],[],[],_,_,_,_,h1,h2,h3=>⟨⟨h1,h2,h3⟩,trivial⟩
 | a :: lo,b :: hi,c :: sd,_,_,_,h,h1,h2,h3=>⟨h.1,bx_snoc h.2 h1 h2 h3⟩
 | [],[],_ :: _,_,_,_,h,_,_,_=>h.elim
 | [],_ :: _,z,_,_,_,h,_,_,_=>by cases z<;>exact h.elim
 | _ :: _,[],z,_,_,_,h,_,_,_=>by cases z<;>exact h.elim
 | _ :: _,_ :: _,[],_,_,_,h,_,_,_=>h.elim
theorem mem_rng2{a b x:Int}(h:x∈rng2 a b):a<=x/\x<=b:=by
 unfold rng2 at h
 obtain⟨n,hn,rfl⟩:=U0.mp h
 have:=Y2.mp hn
 omega
theorem bx_inW:∀{lo hi sd p:List Int},Bx lo hi sd->InW p ((lo.zip hi).map λq=>rng2 q.1 q.2)->Wi p sd
 | [],[],[],[],_,_=>trivial
 | [],[],[],_ :: _,_,h=>h.elim
 | x :: lo,y :: hi,s :: sd,[],_,h=>h.elim
 | x :: lo,y :: hi,s :: sd,z :: p,h,k=>by
  have:=mem_rng2 k.1
  have hx:=h.1
  simp only at this
  exact ⟨by omega,bx_inW h.2 k.2⟩
 | [],[],_ :: _,_,h,_=>h.elim
 | [],_ :: _,z,_,h,_=>by cases z<;>exact h.elim
 | _ :: _,[],z,_,h,_=>by cases z<;>exact h.elim
 | _ :: _,_ :: _,[],_,h,_=>h.elim
theorem btw_wi{lo hi sd p:List Int}(h:Bx lo hi sd)(hp:p∈btw lo hi):Wi p sd:=bx_inW h (each_mem0 hp)
theorem bx_pair:∀{lo hi sd:List Int},Bx lo hi sd->∀p∈lo.zip hi,0<=p.1/\p.1<=p.2/\∃s∈sd,p.2 < s
 | [],[],[],_,p,hp=>by simp at hp
 | x :: lo,y :: hi,s :: sd,h,p,hp=>by
  rw[i5]at hp
  rcases B1.mp hp with rfl|hp
  ·exact ⟨h.1.1,h.1.2.1,s,M0,h.1.2.2⟩
  ·obtain⟨h1,h2,t,ht,h3⟩:=bx_pair h.2 p hp
   exact ⟨h1,h2,t,G0 _ ht,h3⟩
 | [],[],_ :: _,h,_,_=>h.elim
 | [],_ :: _,z,h,_,_=>by cases z<;>exact h.elim
 | _ :: _,[],z,h,_,_=>by cases z<;>exact h.elim
 | _ :: _,_ :: _,[],h,_,_=>h.elim
theorem bx_lenP:∀{lo hi sd:List Int},Bx lo hi sd->(lenP ((lo.zip hi).map λq=>rng2 q.1 q.2):Int)<=prodI sd/\1<=prodI sd
 | [],[],[],_=>by simp[lenP,prodI]
 | x :: lo,y :: hi,s :: sd,h=>by
  obtain⟨h1,h2⟩:=bx_lenP h.2
  have hx:=h.1
  show (((rng2 x y).length * lenP ((lo.zip hi).map λq=>rng2 q.1 q.2):Nat):Int)<=s * prodI sd/\1<=s * prodI sd
  rw[rng2_len,Int.natCast_mul]
  refine ⟨N7 (by omega) h1 (Int.natCast_nonneg _) (by omega),?_⟩
  have:=N7 (show (1:Int)<=s by omega) h2 (by decide) (by omega)
  omega
 | [],[],_ :: _,h=>h.elim
 | [],_ :: _,z,h=>by cases z<;>exact h.elim
 | _ :: _,[],z,h=>by cases z<;>exact h.elim
 | _ :: _,_ :: _,[],h=>h.elim
theorem eachA_snoc{α:Type}(c:List α):∀(cs acc:List (List α)),eachA acc (cs++[c])=(eachA acc cs).flatMap λp=>c.map λx=>p++[x]
 | [],acc=>rfl
 | d :: cs,acc=>eachA_snoc c cs _
theorem idx_nn{sd p:List Int}(h:Wi p sd):0<=idx sd p/\idx sd p < prodI sd:=by
 have:=idx_b h (V3 0) (by decide:(0:Int) < 1)
 rw[W6]at this
 exact this
noncomputable def cels(sd cl lo hi:List Int):List Int:=(btw lo hi).map (cel sd cl)
theorem plc_nodup{sd:List Int}(hp:∀c∈sd,1<=c):(plc sd).Nodup:=by
 rw[List.nodup_iff_pairwise_ne,L4]
 intro i j hi hj hij e
 have h1:=plc_at hp (k:=i) (p:=(plc sd)[i]) (by simp[hi])
 have h2:=plc_at hp (k:=j) (p:=(plc sd)[j]) (by simp[hj])
 rw[e]at h1
 have:=h1.2.symm.trans h2.2
 omega
theorem lex_no{a b:List Int}(h:HT.lexLt a b=true):HT.lexLt b a=false:=by
 cases e:HT.lexLt b a
 ·rfl
 ·have:=SG.lex_wk.tr a b a h e
  rw[SG.lex_wk.irr]at this
  cases this
theorem plc_sorted(sd:List Int):(plc sd).Pairwise (λa b=>HT.lexLt b a=false):=by
 have h:=eachA_sorted (cs:=sd.map rng) (acc:=[[]]) (n:=0) (Z3 _ _) (by simp) λc hc=>by
  obtain⟨s,_,rfl⟩:=U0.mp hc
  rw[<- rng2_zero]
  exact rng2_lt _ _
 exact h.imp lex_no
theorem lt_nodup{l:List (List Int)}(h:l.Pairwise (λa b=>HT.lexLt a b=true)):l.Nodup:=h.imp λ{a b} z e=>by
 rw[e,SG.lex_wk.irr]at z
 cases z
theorem btw_nodup(lo hi:List Int):(btw lo hi).Nodup:=by
 unfold btw
 exact lt_nodup (eachA_sorted (cs:=(lo.zip hi).map λp=>rng2 p.1 p.2) (acc:=[[]]) (n:=0) (Z3 _ _) (by simp) λc hc=>by
   obtain⟨p,_,rfl⟩:=U0.mp hc
   exact rng2_lt _ _)
noncomputable def inB:List Int->List Int->List Int->Bool
 | a :: lo,x :: p,b :: hi=>(decide (a<=x)&&decide (x<=b))&&inB lo p hi
 | _,_,_=>true
theorem rng2_mem{a b x:Int}:x∈rng2 a b ↔ a<=x/\x<=b:=by
 refine ⟨mem_rng2,λh=>?_⟩
 unfold rng2
 exact U0.mpr ⟨(x - a).toNat,Y2.mpr (by omega),by omega⟩
theorem inB_inW:∀{lo hi sd p:List Int},Bx lo hi sd->p.length=sd.length->inB lo p hi=true->InW p ((lo.zip hi).map λq=>rng2 q.1 q.2)
 | [],[],[],[],_,_,_=>trivial
 | a :: lo,b :: hi,s :: sd,x :: p,h,hl,hi'=>by
  have hi':((decide (a<=x)&&decide (x<=b))&&inB lo p hi)=true:=hi'
  rw[Y0,Y0,decide_eq_true_eq,decide_eq_true_eq]at hi'
  exact ⟨rng2_mem.mpr hi'.1,inB_inW h.2 (by simpa using hl) hi'.2⟩
 | [],[],[],_ :: _,_,h,_=>by simp at h
 | _ :: _,_ :: _,_ :: _,[],_,h,_=>by simp at h
 | [],[],_ :: _,_,h,_,_=>h.elim
 | [],_ :: _,z,_,h,_,_=>by cases z<;>exact h.elim
 | _ :: _,[],z,_,h,_,_=>by cases z<;>exact h.elim
 | _ :: _,_ :: _,[],_,h,_,_=>h.elim
theorem inW_inB:∀{lo hi p:List Int},lo.length=hi.length->InW p ((lo.zip hi).map λq=>rng2 q.1 q.2)->inB lo p hi=true
 | [],_,_,_,_=>by simp[inB]
 | a :: lo,b :: hi,x :: p,hl,h=>by
  show ((decide (a<=x)&&decide (x<=b))&&inB lo p hi)=true
  have h1:=rng2_mem.mp h.1
  rw[inW_inB (by simpa using hl) h.2,decide_eq_true h1.1,decide_eq_true h1.2]
  rfl
 | _ :: _,[],_,hl,_=>by simp at hl
 | _ :: _,_ :: _,[],_,h=>h.elim
theorem plc_in{lo hi sd:List Int}(h:Bx lo hi sd):(plc sd).filter (λp=>inB lo p hi)=btw lo hi:=by
 have hl:=bx_len h
 have hp:∀c∈sd,1<=c:=by
  have gen:∀{lo hi sd:List Int},Bx lo hi sd->∀c∈sd,1<=c:=by
   intro lo
   induction lo with
   | nil=>intro hi sd h c hc;cases hi<;>cases sd<;>first|exact h.elim|cases hc
   | cons a lo ih =>
    intro hi sd h c hc
    cases hi with
    | nil=>cases sd<;>exact h.elim
    | cons b hi =>
     cases sd with
     | nil=>exact h.elim
     | cons s sd =>
      rcases B1.mp hc with z|z
      ·subst z;have:=h.1;omega
      ·exact ih h.2 c z
  exact gen h
 refine SG.sorted_uniq (lt:=HT.lexLt) (λa b=>SG.lex_eq) ((List.perm_ext_iff_of_nodup ((plc_nodup hp).filter _) (btw_nodup lo hi)).mpr λp=>?_) ((plc_sorted sd).filter _) (btw_sorted lo hi)
 rw[j5]
 constructor
 ·rintro⟨h1,h2⟩
  exact each_in2 (a:=[]) (by simp) (inB_inW h (wi_len (plc_wi h1)) h2)
 ·intro h1
  exact ⟨wi_mem (btw_wi h h1),inW_inB (by omega) (each_mem0 h1)⟩
noncomputable def win(sd cl lo hi:List Int):List Int:=(((plc sd).zip cl).filter λr=>inB lo r.1 hi).map (·.2)
theorem zip_cel{sd cl:List Int}(hp:∀c∈sd,1<=c)(hl:cl.length=(plc sd).length):(plc sd).zip cl=(plc sd).map λp=>(p,cel sd cl p):=by
 refine List.ext_getElem? λi=>?_
 by_cases hi:i < (plc sd).length
 ·have hz:i < ((plc sd).zip cl).length:=by rw[u5];omega
  rw[W0,J0 hi,J0 hz,m7]
  have h1:=plc_at hp (k:=i) (p:=(plc sd)[i]) (by simp[hi])
  show some ((plc sd)[i],cl[i])=some ((plc sd)[i],cel sd cl (plc sd)[i])
  have e:cel sd cl (plc sd)[i]=cl[i]:=by
   unfold cel
   rw[h1.2,show ((i:Int)).toNat=i by omega,Q0,J0 (by omega)]
   rfl
  rw[e]
 ·rw[J3.mpr (by rw[u5];omega),J3.mpr (by rw[A0];omega)]
theorem win_cels{sd cl lo hi:List Int}(hp:∀c∈sd,1<=c)(hl:cl.length=(plc sd).length)(h:Bx lo hi sd):win sd cl lo hi=cels sd cl lo hi:=by
 unfold win cels
 rw[zip_cel hp hl,x6,T1,<- plc_in h]
 rfl
theorem btw_ne{lo hi sd:List Int}(h:Bx lo hi sd):btw lo hi≠[]:=λz=>by
 have:lo∈btw lo hi:=by
  refine each_in2 (a:=[]) (by simp) ?_
  clear z
  induction lo generalizing hi sd with
  | nil=>cases hi with
   | nil=>trivial
   | cons b hi=>cases sd<;>exact h.elim
  | cons a lo ih =>
   cases hi with
   | nil=>cases sd<;>exact h.elim
   | cons b hi =>
    cases sd with
    | nil=>exact h.elim
    | cons s sd=>exact ⟨rng2_mem.mpr ⟨V3 _,h.1.2.1⟩,ih h.2⟩
 rw[z]at this
 cases this
theorem cels_ne{sd cl lo hi:List Int}(h:Bx lo hi sd):cels sd cl lo hi≠[]:=λz=>btw_ne h (B6.mp z)
noncomputable def bset(b:Bxx)(i:Nat)(p:Int×Int):Bxx:=(b.1.set i p.1,b.2.set i p.2)
theorem inB_split:∀{lo hi x:List Int}{i:Nat}{a c m:Int},lo.length=x.length->hi.length=x.length->lo[i]?=some a->hi[i]?=some c->a<=m->m < c ->
  (inB lo x hi=(inB (lo.set i a) x (hi.set i m)||inB (lo.set i (m+1)) x (hi.set i c)))/\¬(inB (lo.set i a) x (hi.set i m)=true/\inB (lo.set i (m+1)) x (hi.set i c)=true)
 | [],_,_,_,_,_,_,_,_,h,_,_,_=>by simp at h
 | l :: lo,h :: hi,y :: x,0,a,c,m,h1,h2,e1,e2,h3,h4=>by
  simp only[List.getElem?_cons_zero,Option.some.injEq]at e1 e2
  subst e1
  subst e2
  simp only[i8,inB]
  cases inB lo x hi
  ·simp
  ·by_cases q1:l<=y<;>by_cases q2:y<=m<;>by_cases q3:m+1<=y<;>by_cases q4:y<=h<;>simp[q1,q2,q3,q4]<;>omega
 | l :: lo,h :: hi,y :: x,i+1,a,c,m,h1,h2,e1,e2,h3,h4=>by
  simp only[Y3]at e1 e2
  obtain⟨g1,g2⟩:=inB_split (lo:=lo) (hi:=hi) (x:=x) (i:=i) (by simpa using h1) (by simpa using h2) e1 e2 h3 h4
  simp only[j8,inB]
  rw[g1]
  constructor
  ·cases (decide (l<=y)&&decide (y<=h))<;>simp
  ·rintro⟨z1,z2⟩
   rw[Y0]at z1 z2
   exact g2 ⟨z1.2,z2.2⟩
 | _ :: _,[],_ :: _,_,_,_,_,_,h,_,_,_,_=>by simp at h
 | _ :: _,_,[],_,_,_,_,h,_,_,_,_,_=>by simp at h
theorem fil_two{α:Type}{p q r:α->Bool}:∀{l:List α},(∀x∈l,p x=(q x||r x)/\¬(q x=true/\r x=true))->(l.filter p).Perm (l.filter q++l.filter r)
 | [],_=>List.Perm.refl _
 | x :: l,h=>by
  have ih:=fil_two (l:=l) λy hy=>h y (G0 _ hy)
  obtain⟨h1,h2⟩:=h x M0
  rw[o6,o6,o6,h1]
  cases e1:q x with
  | true =>
   have e2:r x=false:=by cases e2:r x with|false=>rfl|true=>exact absurd ⟨e1,e2⟩ h2
   rw[e2]
   simpa using ih
  | false =>
   cases e2:r x with
   | false=>simpa using ih
   | true =>
    simp only[Bool.false_or,if_true,X2,if_false]
    exact (ih.cons x).trans List.perm_middle.symm
theorem cels_perm{sd cl:List Int}{b:Bxx}(hb:Bx b.1 b.2 sd){i:Nat}{a c m:Int}(ha:b.1[i]?=some a)(hc:b.2[i]?=some c)(h1:a<=m)(h2:m < c)(hb1:Bx (bset b i (a,m)).1 (bset b i (a,m)).2 sd)(hb2:Bx (bset b i (m+1,c)).1 (bset b i (m+1,c)).2 sd) :
  (cels sd cl b.1 b.2).Perm (cels sd cl (bset b i (a,m)).1 (bset b i (a,m)).2++cels sd cl (bset b i (m+1,c)).1 (bset b i (m+1,c)).2):=by
 unfold cels
 rw[<- j2]
 refine List.Perm.map _ ?_
 rw[<- plc_in hb,<- plc_in hb1,<- plc_in hb2]
 refine fil_two λx hx=>?_
 have hl:=wi_len (plc_wi hx)
 have hbl:=bx_len hb
 exact inB_split (by omega) (by omega) ha hc h1 h2
theorem perm_sum:∀{l m:List Int},l.Perm m->l.sum=m.sum:=λh=>by
 induction h with
 | nil=>rfl
 | cons x _ ih=>rw[V2,V2,ih]
 | swap x y l=>rw[V2,V2,V2,V2];omega
 | trans _ _ h1 h2=>rw[h1,h2]
theorem btw_self:∀(lo acc:List Int),eachA [acc] ((lo.zip lo).map λq=>rng2 q.1 q.2)=[acc++lo]
 | [],acc=>by simp[eachA]
 | a :: lo,acc=>by
  have e:rng2 a a=[a]:=by
   unfold rng2
   rw[show (a+1 - a).toNat=1 by omega]
   simp
  rw[i5,K1]
  show eachA ([acc].flatMap λp=>(rng2 a a).map λx=>p++[x]) _=_
  rw[e]
  show eachA [acc++[a]] _=_
  rw[btw_self lo (acc++[a])]
  simp
noncomputable abbrev boxD(b:Bxx):PyData:=.tuple [tupD b.1,tupD b.2]
theorem set_cut(p:List Int){i:Nat}(h:i < p.length)(x:Int):p.take i++x :: p.drop (i+1)=p.set i x:=by
 rw[S5,if_pos h]
theorem areW_ints(cl:List Int):areW cl.length (tupD cl)=true:=by
 have e:(cl.map q0).all isI=true:=by
  rw[List.all_map]
  exact X4.mpr λx _=>rfl
 show (decide ((cl.map q0).length=cl.length)&&(cl.map q0).all isI)=true
 rw[e,A0]
 simp
theorem all_tr:∀l:List PyData,((l.map λ_=>true).all id)=true
 | []=>rfl
 | _ :: l=>by simp
theorem map_tr(l:List PyData):(l.map λ_=>M7 true)=(l.map λ_=>true).map M7:=by rw[T1];rfl
noncomputable abbrev prD(p:Int×Int):PyData:=.tuple [.int p.1,.int p.2]
section
variable {P:Program}{w:World}{K:j0}{mg:Str->Option Value}{base:Heap}
noncomputable def cWhole:Con:=λargs Q=>∃d,args=[.fz d]/\okD d=true/\∀o,Q (.fz (.bool (isI d))) o
theorem scWhole:FnScope ["thing"] ["thing"] (defScope (top 4)):=⟨rfl,rfl,rfl,by decide +kernel,rfl,by decide +kernel,by decide +kernel⟩
theorem ok_whole{f:Addr}{fd:FuncData}(F:Fun K "is_whole" "is_whole" (top 4) f fd)(T:Txt mg):FnOk P w K mg base CX0 1 f fd ["thing"] (conSp K cWhole):=by
 have S:=scWhole
 refine wfn F S (λcdv A outer s H E hr=>(s_one (s_ret (w_and (w_isiA .int rfl T.isinstance_ T.int_ boot_int (wn 0)) (w_one (w_not (w_isiA .bl rfl T.isinstance_ T.bool_ boot_bool (wn 0)))))))) ?_ ?_
 ·rintro args Qd ⟨d,rfl,_⟩;rfl
 ·rintro args Qd ⟨d,rfl,hd,q⟩
  refine ⟨noOw_of rfl,?_⟩
  cases d with
  | dict es=>exact ⟨hd,q _⟩
  | int i=>exact q _
  | bool b=>exact q _
  | none=>exact q _
  | str x=>exact q _
  | list xs=>exact q _
  | tuple xs=>exact q _
structure CalsC(P:Program)(w:World)(K:j0)(mg:Str->Option Value)(base:Heap):Prop where
 is_whole:Cal P w K mg base 1 "is_whole" ["thing"] (conSp K cWhole)
noncomputable def cAreW:Con:=λargs Q=>∃(d:PyData) (n:Nat),args=[.fz d,.fz (.int n)]/\okD d=true/\n<=1000/\∀o,Q (.fz (.bool (areW n d))) o
theorem scAreW:FnScope ["thing","many"] ["thing","many"] (defScope (top 5)):=⟨rfl,rfl,rfl,by decide +kernel,rfl,by decide +kernel,by decide +kernel⟩
theorem ok_areW{f:Addr}{fd:FuncData}(F:Fun K "are_wholes" "are_wholes" (top 5) f fd)(T:Txt mg)(C:CalsC P w K mg base):FnOk P w K mg base CX0 2 f fd ["thing","many"] (conSp K cAreW):=by
 have S:=scAreW
 refine wfn F S (λcdv A outer s H E hr=>(s_cons (s_if (t_w (t_or (t_not (t_val (w_isiA .tup rfl T.isinstance_ T.tuple_ boot_tuple (wn 0)))) (t_or1 (t_cmp ok_ne (op_neE (K:=K) rfl hr.units) (wx (w_callB ok_len (call_lenK (K:=K) rfl) T.len_ PySem.boot_len (wa_cons (wn 0) wa_nil))) (wn 1))))) (s_one (s_ret w_bl)) s_nil)
     (s_one (s_ret (w_callB ok_all (call_allK (K:=K) rfl rfl) T.all_ boot_all (wa_cons (wx (w_comp rfl (own:=["number"]) (fr:=[]) (by kernel_rfl) (i_seq rfl (wv 0)) (λ_ _ _ _=>(g_name (i:=0) (by decide +kernel:K3 (["number"]:List Str)) rfl (Or.inl rfl))) (λ_ _ _ _=>if0) (λ_ _ _ _=>(w_fn C.is_whole (hr.mono (by first|decide|omega)) (wa_cons (wn 0) wa_nil))))) wa_nil)))))) ?_ ?_
 ·rintro args Qd ⟨d,n,rfl,_⟩;rfl
 ·rintro args Qd ⟨d,n,rfl,hd,hn,q⟩
  refine ⟨noOw_of rfl,?_⟩
  cases d with
  | dict es=>exact ⟨hd,q _⟩
  | int i=>exact q _
  | bool b=>exact q _
  | none=>exact q _
  | str x=>exact q _
  | list xs=>exact q _
  | tuple xs =>
   refine ite2 (λh=>?_) (λh=>?_)
   ·have h:¬(xs.length:Int)=n:=by simpa using h
    have e:areW n (.tuple xs)=false:=by simp[areW];intro z;omega
    rw[e]at q
    exact q _
   ·have h:(xs.length:Int)=n:=by simpa using h
    have hl:xs.length=n:=by omega
    refine ⟨le_size (by omega),mapC (λd=>.bool (isI d)) ?_ ?_⟩
    ·intro d hd2 N hN
     exact ⟨d,rfl,okAll_mem (by simpa [okD]using hd) d hd2,λo=>hN⟩
    ·refine ⟨xs.map isI,by rw[T1];rfl,?_⟩
     have e:areW n (.tuple xs)=(xs.map isI).all id:=by simp[areW,hl]
     rw[<- e]
     exact q _
noncomputable def cIndex:Con:=λargs Q=>∃sd pl:List Int,args=[.fz (tupD sd),.fz (tupD pl)]/\sd.length<=1000/\(∀s∈sd,0<=s/\s < 2 ^ 64)/\∀o,Q (.fz (.int (idx sd pl))) o
theorem scIndex:FnScope ["sides","place","index","side","number"] ["sides","place"] (defScope (top 7)):=⟨rfl,rfl,rfl,by decide +kernel,rfl,by decide +kernel,by decide +kernel⟩
theorem ok_index{f:Addr}{fd:FuncData}(F:Fun K "index_of" "index_of" (top 7) f fd)(T:Txt mg):FnOk P w K mg base CX0 1 f fd ["sides","place"] (conSp K cIndex):=by
 have S:=scIndex
 refine wfn F S (λcdv A outer s H E hr=>(s_cons (s_set (i:=2) S.nd rfl (Or.inl rfl) w_int)
     (s_cons (s_for [3,4] PassesOwn.never rfl (i_zip2 rfl T.zip_ (wa_cons (wn 0) (wa_cons (wn 1) wa_nil))) (g_tup rfl rfl (gs_cons (g_name (i:=3) S.nd rfl (Or.inl rfl)) (gs_cons (g_name (i:=4) S.nd rfl (Or.inl rfl)) gs_nil))) (s_one (s_set (i:=2) S.nd rfl (Or.inl rfl) (w_bin ok_add op_addD (wx (w_bin ok_mul op_mulD (wn 2) (wn 3))) (wn 4)))))
     (s_one (s_retV (wn 2)))))) ?_ ?_
 ·rintro args Qd ⟨sd,pl,rfl,_⟩;rfl
 ·rintro args Qd ⟨sd,pl,rfl,hl,hs,q⟩
  refine ⟨noOw_of rfl,?_⟩
  refine loopC (λrest ρ=>∃(i:Int) (rs:List (Int×Int)),ρ=[some (.fz (tupD sd)),some (.fz (tupD pl)),some (.fz (.int i)),none,none]/\rest=rs.map (λp=>K2 [.int p.1,.int p.2])/\(∀p∈rs,p∈sd.zip pl)/\rs.foldl (λi p=>i * p.1+p.2) i=idx sd pl) ?_ ?_
   ⟨0,sd.zip pl,rfl,zipD_ints _ _,λ_ h=>h,rfl⟩
  ·rintro d ds ρ ⟨i,rs,rfl,er,hin,hf⟩ N hN
   cases rs with
   | nil=>cases er
   | cons p rs =>
    cases er
    have hp:=hs p.1 (N4 (hin p M0)).1
    exact ⟨rfl,.inr ⟨by omega,by omega⟩,hN _ ⟨i * p.1+p.2,rs,rfl,rfl,λx hx=>hin x (G0 _ hx),hf⟩⟩
  ·rintro ρ ⟨i,rs,rfl,er,hin,hf⟩
   cases rs with
   | nil =>
    have hf:i=idx sd pl:=hf
    subst hf
    exact q _
   | cons _ _=>cases er
noncomputable def cProd:Con:=λargs Q=>∃sd:List Int,args=[.fz (tupD sd)]/\(∀c∈sd,0<=c/\c < 2 ^ 60)/\∀o,Q (.fz (.int (prodI sd))) o
theorem scProd:FnScope ["numbers","result","number"] ["numbers"] (defScope (top 6)):=⟨rfl,rfl,rfl,by decide +kernel,rfl,by decide +kernel,by decide +kernel⟩
theorem ok_prod{f:Addr}{fd:FuncData}(F:Fun K "product" "product" (top 6) f fd):FnOk P w K mg base CX0 1 f fd ["numbers"] (conSp K cProd):=by
 have S:=scProd
 refine wfn F S (λcdv A outer s H E hr=>(s_cons (s_set (i:=1) S.nd rfl (Or.inl rfl) w_int)
     (s_cons (s_for [2] PassesOwn.never rfl (i_seq rfl (wv 0)) (g_name (i:=2) S.nd rfl (Or.inl rfl)) (s_one (s_set (i:=1) S.nd rfl (Or.inl rfl) (w_bin ok_mul op_mulD (wn 1) (wn 2)))))
     (s_one (s_retV (wn 1)))))) ?_ ?_
 ·rintro args Qd ⟨sd,rfl,_⟩;rfl
 ·rintro args Qd ⟨sd,rfl,hb,q⟩
  refine ⟨noOw_of rfl,?_⟩
  refine loopC (λrest ρ=>∃(t:Int) (rs:List Int),ρ=[some (.fz (tupD sd)),some (.fz (.int t)),none]/\rest=rs.map q0/\(∀c∈rs,c∈sd)/\t * prodI rs=prodI sd) ?_ ?_
   ⟨1,sd,rfl,rfl,λ_ h=>h,by rw[W6]⟩
  ·rintro d ds ρ ⟨t,rs,rfl,er,hin,hp⟩ N hN
   cases rs with
   | nil=>cases er
   | cons a rs =>
    cases er
    have ha:=hb a (hin a M0)
    exact ⟨.inr ⟨by omega,by omega⟩,hN _ ⟨t * a,rs,rfl,rfl,λc hc=>hin c (G0 _ hc),by rw[e7];exact hp⟩⟩
  ·rintro ρ ⟨t,rs,rfl,er,hin,hp⟩
   cases rs with
   | nil =>
    have hp:t=prodI sd:=by rw[<- hp];show t=t * 1;omega
    subst hp
    exact q _
   | cons _ _=>cases er
noncomputable def cAS:Con:=λargs Q=>∃sd:List Int,args=[.fz (tupD sd)]/\Sd sd/\∀o,Q (.fz (.bool true)) o
theorem scAS:FnScope ["thing"] ["thing"] (defScope (top 12)):=⟨rfl,rfl,rfl,by decide +kernel,rfl,by decide +kernel,by decide +kernel⟩
structure CalsAS(P:Program)(w:World)(K:j0)(mg:Str->Option Value)(base:Heap):Prop where
 is_whole:Cal P w K mg base 1 "is_whole" ["thing"] (conSp K cWhole)
theorem ok_as{f:Addr}{fd:FuncData}(F:Fun K "are_sides" "are_sides" (top 12) f fd)(T:Txt mg)(C:CalsAS P w K mg base):FnOk P w K mg base CX0 2 f fd ["thing"] (conSp K cAS):=by
 have S:=scAS
 refine wfn F S (λcdv A outer s H E hr=>(s_cons (s_if (t_w (t_or (t_not (t_val (w_isiA .tup rfl T.isinstance_ T.tuple_ boot_tuple (wn 0)))) (t_or (t_cmp ok_lt op_lt (wx (w_callB ok_len (call_lenK (K:=K) rfl) T.len_ PySem.boot_len (wa_cons (wn 0) wa_nil))) (wx w_int)) (t_or1 (t_cmp ok_gt op_gt (wx (w_callB ok_len (call_lenK (K:=K) rfl) T.len_ PySem.boot_len (wa_cons (wn 0) wa_nil))) (wx (w_gint T.MOST_WAYS_))))))) (s_one (s_ret w_bl)) s_nil)
     (s_one (s_ret (w_callB ok_all (call_allK (K:=K) rfl rfl) T.all_ boot_all (wa_cons (wx (w_comp rfl (own:=["side"]) (fr:=[]) (by kernel_rfl) (i_seq rfl (wv 0)) (λ_ _ _ _=>(g_name (i:=0) (by decide +kernel:K3 (["side"]:List Str)) rfl (Or.inl rfl))) (λ_ _ _ _=>if0) (λ_ _ _ _=>(w_and (w_fn C.is_whole (hr.mono (by first|decide|omega)) (wa_cons (wn 0) wa_nil)) (w_one (w_cmp ok_ge op_ge (wn 0) (wx w_int))))))) wa_nil)))))) ?_ ?_
 ·rintro args Qd ⟨sd,rfl,_⟩;rfl
 ·rintro args Qd ⟨sd,rfl,hsd,q⟩
  have h1:=hsd.l1
  have h3:=hsd.l3
  have hk:(sd.map q0).length=sd.length:=A0 ..
  refine ⟨noOw_of rfl,?_⟩
  refine ite2 (λh=>?_) (λh=>?_)
  ·have h:decide (((sd.map q0).length:Int) < 1)=true:=h
   rw[hk]at h
   have:=of_decide_eq_true h
   omega
  ·refine ite2 (λh=>?_) (λh=>?_)
   ·have h:decide ((3:Int) < ((sd.map q0).length:Int))=true:=h
    rw[hk]at h
    have:=of_decide_eq_true h
    omega
   ·refine ⟨by rw[hk];exact le_size (by omega),mapC (λ_=>.bool true) ?_ ?_⟩
    ·intro d hd N hN
     obtain⟨i,hi,rfl⟩:=U0.mp hd
     refine ⟨.int i,rfl,rfl,λo=>?_⟩
     have e:decide ((1:Int)<=i)=true:=decide_eq_true (hsd.p i hi)
     have hN:N (.bool true) _:=hN
     rw[<- e]at hN
     exact hN
    ·refine ⟨_,map_tr _,?_⟩
     rw[all_tr]
     exact q _
noncomputable def cIF:Con:=λargs Q=>∃sd cl:List Int,args=[.fz (fldD sd cl)]/\Sd sd/\cl.length=(plc sd).length/\∀o,Q (.fz (.bool true)) o
theorem scIF:FnScope ["thing","many"] ["thing"] (defScope (top 13)):=⟨rfl,rfl,rfl,by decide +kernel,rfl,by decide +kernel,by decide +kernel⟩
structure CalsIF(P:Program)(w:World)(K:j0)(mg:Str->Option Value)(base:Heap):Prop where
 are_sides:Cal P w K mg base 2 "are_sides" ["thing"] (conSp K cAS)
 are_wholes:Cal P w K mg base 2 "are_wholes" ["thing","many"] (conSp K cAreW)
 product:Cal P w K mg base 1 "product" ["numbers"] (conSp K cProd)
theorem ok_if{f:Addr}{fd:FuncData}(F:Fun K "is_field" "is_field" (top 13) f fd)(T:Txt mg)(C:CalsIF P w K mg base):FnOk P w K mg base CX0 3 f fd ["thing"] (conSp K cIF):=by
 have S:=scIF
 refine wfn F S (λcdv A outer s H E hr=>(s_cons (s_if (t_w (t_or (t_not (t_val (w_isiA .tup rfl T.isinstance_ T.tuple_ boot_tuple (wn 0)))) (t_or (t_cmp ok_ne (op_neE (K:=K) rfl hr.units) (wx (w_callB ok_len (call_lenK (K:=K) rfl) T.len_ PySem.boot_len (wa_cons (wn 0) wa_nil))) (wx w_int)) (t_or1 (t_not (t_val (w_fn C.are_sides (hr.mono (by first|decide|omega)) (wa_cons (wx (w_ix rfl (wn 0) (wx w_int))) wa_nil)))))))) (s_one (s_ret w_bl)) s_nil)
     (s_cons (s_set (i:=1) S.nd rfl (Or.inl rfl) (w_fn C.product (hr.mono (by first|decide|omega)) (wa_cons (wx (w_ix rfl (wn 0) (wx w_int))) wa_nil)))
     (s_one (s_ret (w_and (w_cmp ok_le op_le (wn 1) (wx (w_gint T.MOST_CELLS_))) (w_one (w_fn C.are_wholes (hr.mono (by first|decide|omega)) (wa_cons (wx (w_ix rfl (wn 0) (wx w_int))) (wa_cons (wn 1) wa_nil)))))))))) ?_ ?_
 ·rintro args Qd ⟨sd,cl,rfl,_⟩;rfl
 ·rintro args Qd ⟨sd,cl,rfl,hsd,hc,q⟩
  have hm:=hsd.m
  have hpl:=plc_len hsd.p
  refine ⟨noOw_of rfl,?_⟩
  refine ⟨tupD sd,rfl,sd,rfl,hsd,λo=>?_⟩
  refine ⟨tupD sd,rfl,sd,rfl,λc hcm=>⟨by have:=hsd.p c hcm;omega,by have:=le_prodI hsd.p c hcm;omega⟩,λo=>?_⟩
  have e:prodI sd=(cl.length:Int):=by rw[hc,hpl]
  rw[e]
  refine ite2 (λh=>?_) (λh=>?_)
  ·refine ⟨tupD cl,rfl,tupD cl,cl.length,rfl,okD_tup cl,by omega,λo=>?_⟩
   rw[areW_ints]
   exact q _
  ·exact absurd (show decide ((cl.length:Int)<=120)=true from decide_eq_true (by omega)) h
structure CalsFO(P:Program)(w:World)(K:j0)(mg:Str->Option Value)(base:Heap):Prop where
 is_field:Cal P w K mg base 3 "is_field" ["thing"] (conSp K cIF)
noncomputable def cFO:Con:=λargs Q=>∃sd cl:List Int,args=[.fz (tupD sd),.fz (.list (cl.map q0))]/\Sd sd/\cl.length=(plc sd).length/\∀o,Q (.fz (fldD sd cl)) o
theorem scFO:FnScope ["sides","cells","field"] ["sides","cells"] (defScope (top 14)):=⟨rfl,rfl,rfl,by decide +kernel,rfl,by decide +kernel,by decide +kernel⟩
theorem ok_fo{f:Addr}{fd:FuncData}(F:Fun K "field_of" "field_of" (top 14) f fd)(T:Txt mg)(C:CalsFO P w K mg base):FnOk P w K mg base CX0 4 f fd ["sides","cells"] (conSp K cFO):=by
 have S:=scFO
 refine wfn F S (λcdv A outer s H E hr=>(s_cons (s_if (t_w (t_or (t_not (t_val (w_isiLA rfl T.isinstance_ T.list_ T.tuple_ (wn 0)))) (t_or1 (t_not (t_val (w_isiLA rfl T.isinstance_ T.list_ T.tuple_ (wn 1))))))) (s_one s_never) s_nil)
     (s_cons (s_set (i:=2) S.nd rfl (Or.inl rfl) (w_tup (wa_cons (wx (w_callT ok_tuple (call_tupleK (K:=K) rfl) T.tuple_ boot_tuple (wa_cons (wn 0) wa_nil))) (wa_cons (wx (w_callT ok_tuple (call_tupleK (K:=K) rfl) T.tuple_ boot_tuple (wa_cons (wn 1) wa_nil))) wa_nil))))
     (s_cons (s_if (t_not (t_val (w_fn C.is_field (hr.mono (by first|decide|omega)) (wa_cons (wn 2) wa_nil)))) (s_one s_never) s_nil)
     (s_one (s_retV (wn 2))))))) ?_ ?_
 ·rintro args Qd ⟨sd,cl,rfl,_⟩;rfl
 ·rintro args Qd ⟨sd,cl,rfl,hsd,hc,q⟩
  refine ⟨noOw_of rfl,?_⟩
  exact ⟨sd,cl,rfl,hsd,hc,λo=>q _⟩
noncomputable def cTh:Con:=λargs Q=>∃x:Int,args=[.fz (.int x)]/\∀o,Q (.fz (tupD [x,x,x])) o
theorem scTh:FnScope ["number"] ["number"] (defScope (top 18)):=⟨rfl,rfl,rfl,by decide +kernel,rfl,by decide +kernel,by decide +kernel⟩
theorem ok_th{f:Addr}{fd:FuncData}(F:Fun K "thrice" "thrice" (top 18) f fd):FnOk P w K mg base CX0 1 f fd ["number"] (conSp K cTh):=by
 have S:=scTh
 refine wfn F S (λcdv A outer s H E hr=>(s_one (s_ret (w_tup (wa_cons (wx (wv 0)) (wa_cons (wx (wv 0)) (wa_cons (wx (wv 0)) wa_nil))))))) ?_ ?_
 ·rintro args Qd ⟨x,rfl,_⟩;rfl
 ·rintro args Qd ⟨x,rfl,q⟩
  exact ⟨noOw_of rfl,q _⟩
noncomputable def cRp:Con:=λargs Q=>∃(p:List Int) (i:Nat) (x:Int),args=[.fz (tupD p),.fz (.int i),.fz (.int x)]/\i < p.length/\p.length<=100/\∀o,Q (.fz (tupD (p.set i x))) o
theorem scRp:FnScope ["numbers","way","number"] ["numbers","way","number"] (defScope (top 8)):=⟨rfl,rfl,rfl,by decide +kernel,rfl,by decide +kernel,by decide +kernel⟩
theorem ok_rp{f:Addr}{fd:FuncData}(F:Fun K "replaced" "replaced" (top 8) f fd):FnOk P w K mg base CX0 1 f fd ["numbers","way","number"] (conSp K cRp):=by
 have S:=scRp
 refine wfn F S (λcdv A outer s H E hr=>(s_one (s_ret (w_bin ok_add op_addD (wx (w_bin ok_add op_addD (wx (w_sl2T rfl (wn 0) (wn 1))) (wx (w_tup (wa_cons (wx (wv 2)) wa_nil))))) (wx (w_sl1T rfl (wn 0) (wx (w_bin ok_add op_addD (wn 1) (wx w_int))))))))) ?_ ?_
 ·rintro args Qd ⟨p,i,x,rfl,_⟩;rfl
 ·rintro args Qd ⟨p,i,x,rfl,hi,hl,q⟩
  refine ⟨noOw_of rfl,?_⟩
  have e:(p.map q0).take (i:Int).toNat++[q0 x]++(p.map q0).drop ((i:Int)+1).toNat=(p.set i x).map q0:=by
   rw[show (i:Int).toNat=i by omega,show ((i:Int)+1).toNat=i+1 by omega,<- set_cut p hi x]
   simp[Y7,Z7]
  unfold tupD at q
  rw[<- e]at q
  exact ⟨by omega,le_size (by simp;omega),by show (0:Int)<=(i:Int)+1;omega,le_size (by simp;omega),q _⟩
structure CalsWs(P:Program)(w:World)(K:j0)(mg:Str->Option Value)(base:Heap):Prop where
 replaced:Cal P w K mg base 1 "replaced" ["numbers","way","number"] (conSp K cRp)
noncomputable def cWs:Con:=λargs Q=>∃(b:Bxx) (i:Nat) (p:Int×Int),args=[.fz (boxD b),.fz (.int i),.fz (prD p)]/\i < b.1.length/\b.2.length=b.1.length/\b.1.length<=100/\∀o,Q (.fz (boxD (bset b i p))) o
theorem scWs:FnScope ["box","way","stretch"] ["box","way","stretch"] (defScope (top 19)):=⟨rfl,rfl,rfl,by decide +kernel,rfl,by decide +kernel,by decide +kernel⟩
theorem ok_ws{f:Addr}{fd:FuncData}(F:Fun K "with_stretch" "with_stretch" (top 19) f fd)(C:CalsWs P w K mg base):FnOk P w K mg base CX0 2 f fd ["box","way","stretch"] (conSp K cWs):=by
 have S:=scWs
 refine wfn F S (λcdv A outer s H E hr=>(s_one (s_ret (w_tup (wa_cons (wx (w_fn C.replaced (hr.mono (by first|decide|omega)) (wa_cons (wx (w_ix rfl (wn 0) (wx w_int))) (wa_cons (wn 1) (wa_cons (wx (w_ix rfl (wn 2) (wx w_int))) wa_nil))))) (wa_cons (wx (w_fn C.replaced (hr.mono (by first|decide|omega)) (wa_cons (wx (w_ix rfl (wn 0) (wx w_int))) (wa_cons (wn 1) (wa_cons (wx (w_ix rfl (wn 2) (wx w_int))) wa_nil))))) wa_nil)))))) ?_ ?_
 ·rintro args Qd ⟨b,i,p,rfl,_⟩;rfl
 ·rintro args Qd ⟨b,i,p,rfl,hi,hl,hn,q⟩
  refine ⟨noOw_of rfl,?_⟩
  exact ⟨_,rfl,_,rfl,b.1,i,p.1,rfl,hi,hn,λo=>⟨_,rfl,_,rfl,b.2,i,p.2,rfl,by omega,by omega,λo=>q _⟩⟩
structure CalsCa(P:Program)(w:World)(K:j0)(mg:Str->Option Value)(base:Heap):Prop where
 index_of:Cal P w K mg base 1 "index_of" ["sides","place"] (conSp K cIndex)
noncomputable def cCa:Con:=λargs Q=>∃sd cl p:List Int,args=[.fz (fldD sd cl),.fz (tupD p)]/\Sd sd/\cl.length=(plc sd).length/\Wi p sd/\∀o,Q (.fz (.int (cel sd cl p))) o
theorem scCa:FnScope ["field","place"] ["field","place"] (defScope (top 15)):=⟨rfl,rfl,rfl,by decide +kernel,rfl,by decide +kernel,by decide +kernel⟩
theorem ok_ca{f:Addr}{fd:FuncData}(F:Fun K "cell_at" "cell_at" (top 15) f fd)(C:CalsCa P w K mg base):FnOk P w K mg base CX0 2 f fd ["field","place"] (conSp K cCa):=by
 have S:=scCa
 refine wfn F S (λcdv A outer s H E hr=>(s_one (s_ret (w_ix rfl (wx (w_ix rfl (wn 0) (wx w_int))) (wx (w_fn C.index_of (hr.mono (by first|decide|omega)) (wa_cons (wx (w_ix rfl (wn 0) (wx w_int))) (wa_cons (wn 1) wa_nil)))))))) ?_ ?_
 ·rintro args Qd ⟨sd,cl,p,rfl,_⟩;rfl
 ·rintro args Qd ⟨sd,cl,p,rfl,hsd,hcl,hp,q⟩
  refine ⟨noOw_of rfl,?_⟩
  have h3:=hsd.l3
  have hm:=hsd.m
  have hpl:=plc_len hsd.p
  have hi:=idx_nn hp
  refine ⟨_,rfl,_,rfl,sd,p,rfl,by omega,λs hs=>?_,λo=>?_⟩
  ·have h1:=hsd.p s hs
   have h2:=le_prodI hsd.p s hs
   omega
  ·obtain⟨n,hn⟩:=T2 hi.1
   have hnl:n < cl.length:=by omega
   refine ⟨.int (cel sd cl p),?_,q _⟩
   unfold cel
   rw[hn]
   exact at_ints hnl
noncomputable def cPt:Con:=λargs Q=>∃ts us:List Int,args=[.fz (.list [tupD ts,tupD us])]/\ts.length=3/\us.length=3/\∀o,Q (.fz (tupD [ts.getD 0 0+us.getD 0 0,min (ts.getD 1 0) (us.getD 1 0),max (ts.getD 2 0) (us.getD 2 0)])) o
theorem scPt:FnScope ["parts","total"] ["parts"] (defScope (top 17)):=⟨rfl,rfl,rfl,by decide +kernel,rfl,by decide +kernel,by decide +kernel⟩
theorem ok_pt{f:Addr}{fd:FuncData}(F:Fun K "put_together" "put_together" (top 17) f fd)(T:Txt mg):FnOk P w K mg base CX0 1 f fd ["parts"] (conSp K cPt):=by
 have S:=scPt
 refine wfn F S (λcdv A outer s H E hr=>(s_cons (s_set (i:=1) S.nd rfl (Or.inl rfl) (w_callB ok_sum (call_sumK (K:=K) rfl rfl) T.sum_ boot_sum (wa_cons (wx (w_comp rfl (own:=["part"]) (fr:=[]) (by kernel_rfl) (i_seq rfl (wv 0)) (λ_ _ _ _=>(g_name (i:=0) (by decide +kernel:K3 (["part"]:List Str)) rfl (Or.inl rfl))) (λ_ _ _ _=>if0) (λ_ _ _ _=>(w_ix rfl (wn 0) (wx w_int))))) wa_nil)))
     (s_one (s_ret (w_tup (wa_cons (wx (wv 1)) (wa_cons (wx (w_callB ok_mnI (call_mnI (K:=K) rfl rfl) T.min_ boot_min (wa_cons (wx (w_comp rfl (own:=["part"]) (fr:=[]) (by kernel_rfl) (i_seq rfl (wv 0)) (λ_ _ _ _=>(g_name (i:=0) (by decide +kernel:K3 (["part"]:List Str)) rfl (Or.inl rfl))) (λ_ _ _ _=>if0) (λ_ _ _ _=>(w_ix rfl (wn 0) (wx w_int))))) wa_nil))) (wa_cons (wx (w_callB ok_mxI (call_mxI (K:=K) rfl rfl) T.max_ boot_max (wa_cons (wx (w_comp rfl (own:=["part"]) (fr:=[]) (by kernel_rfl) (i_seq rfl (wv 0)) (λ_ _ _ _=>(g_name (i:=0) (by decide +kernel:K3 (["part"]:List Str)) rfl (Or.inl rfl))) (λ_ _ _ _=>if0) (λ_ _ _ _=>(w_ix rfl (wn 0) (wx w_int))))) wa_nil))) wa_nil)))))))) ?_ ?_
 ·rintro args Qd ⟨ts,us,rfl,_⟩;rfl
 ·rintro args Qd ⟨ts,us,rfl,ht,hu,q⟩
  refine ⟨noOw_of rfl,?_⟩
  obtain⟨a,b,c,rfl⟩:∃a b c,ts=[a,b,c]:=by
   rcases ts with _|⟨a,_|⟨b,_|⟨c,_|⟨d,ts⟩⟩⟩⟩<;>first|exact ⟨_,_,_,rfl⟩|(simp at ht)
  obtain⟨a',b',c',rfl⟩:∃a b c,us=[a,b,c]:=by
   rcases us with _|⟨a,_|⟨b,_|⟨c,_|⟨d,ts⟩⟩⟩⟩<;>first|exact ⟨_,_,_,rfl⟩|(simp at hu)
  have q:∀o,Qd (.fz (tupD [a+a',min b b',max c c'])) o:=q
  with_reducible refine cutS (λρ=>ρ=[some (.fz (.list [tupD [a,b,c],tupD [a',b',c']])),some (.fz (.int (a+a')))]) ?_ ?_
  ·intro N hN
   refine ⟨le_size (by simp),_,rfl,_,rfl,[a,a'],rfl,?_⟩
   have e:[a,a'].sum=a+a':=by simp
   rw[e]
   exact hN _ rfl
  rintro _ rfl
  refine ⟨le_size (by simp),_,rfl,_,rfl,[b,b'],rfl,by simp,λm hm hmy=>⟨le_size (by simp),_,rfl,_,rfl,[c,c'],rfl,by simp,λM hM hMy=>?_⟩⟩
  have e1:m=min b b':=by
   have h1:=hmy b (by simp)
   have h2:=hmy b' (by simp)
   have h3:m=b\/m=b':=by simpa using hm
   omega
  have e2:M=max c c':=by
   have h1:=hMy c (by simp)
   have h2:=hMy c' (by simp)
   have h3:M=c\/M=c':=by simpa using hM
   omega
  rw[e1,e2]
  exact q _
end
theorem sameAll_ints:∀a b:List Int,sameAll (a.map q0) (b.map q0)=decide (a=b)
 | [],[]=>rfl
 | [],_ :: _=>by simp[sameAll]
 | _ :: _,[]=>by simp[sameAll]
 | x :: a,y :: b=>by
  have ih:=sameAll_ints a b
  simp only[K1,sameAll,same,ih]
  by_cases h1:x=y<;>by_cases h2:a=b<;>simp[h1,h2]
theorem mixAll_ints:∀a b:List Int,SeqAt.noMixAll (a.map q0) (b.map q0)=true
 | [],[]=>rfl
 | [],_ :: _=>by simp[SeqAt.noMixAll]
 | _ :: _,[]=>by simp[SeqAt.noMixAll]
 | x :: a,y :: b=>by simp[SeqAt.noMixAll,SeqAt.noMix,mixAll_ints a b]
theorem same_tup(a b:List Int):same (tupD a) (tupD b)=decide (a=b):=sameAll_ints a b
theorem mix_tup(a b:List Int):SeqAt.noMix (tupD a) (tupD b)=true:=mixAll_ints a b
inductive Pp where
 | cell (t l h:Int)
 | cut (t l h w a:Int) (p q:Pp)
noncomputable def Pp.cl:Pp->List Int
 | .cell t l h=>[t,l,h]
 | .cut t l h _ _ _ _=>[t,l,h]
noncomputable def pD:Pp->PyData
 | .cell t l h=>.tuple [.str "cell",tupD [t,l,h]]
 | .cut t l h w a p q=>.tuple [.str "cut",tupD [t,l,h],.int w,.int a,pD p,pD q]
noncomputable def Pp.isCut:Pp->Bool
 | .cell _ _ _=>false
 | .cut _ _ _ _ _ _ _=>true
noncomputable def Pp.sz:Pp->Nat
 | .cell _ _ _=>1
 | .cut _ _ _ _ _ p q=>1+p.sz+q.sz
noncomputable def letB(c d:List Int):Bool:=decide (c.getD 0 0=d.getD 0 0)&&(decide (c.getD 1 0<=d.getD 1 0)&&decide (d.getD 2 0<=c.getD 2 0))
noncomputable def cutB(b:Bxx)(w a:Int):Bool:=decide (0<=w)&&(decide (w < b.1.length)&&(decide (b.1.getD w.toNat 0<=a)&&decide (a < b.2.getD w.toNat 0)))
noncomputable def comb(p q:List Int):List Int:=[p.getD 0 0+q.getD 0 0,min (p.getD 1 0) (q.getD 1 0),max (p.getD 2 0) (q.getD 2 0)]
noncomputable def bxL(b:Bxx)(w a:Int):Bxx:=bset b w.toNat (b.1.getD w.toNat 0,a)
noncomputable def bxR(b:Bxx)(w a:Int):Bxx:=bset b w.toNat (a+1,b.2.getD w.toNat 0)
noncomputable def okP(sd cl:List Int)(b:Bxx):Pp->Bool
 | .cell t l h=>decide (b.1=b.2)&&letB [t,l,h] [cel sd cl b.1,cel sd cl b.1,cel sd cl b.1]
 | .cut t l h w a p q=>cutB b w a&&(letB [t,l,h] (comb p.cl q.cl)&&(okP sd cl (bxL b w a) p&&okP sd cl (bxR b w a) q))
theorem Pp.sz1(p:Pp):1<=p.sz:=by cases p<;>simp only[Pp.sz]<;>omega
section
variable {P:Program}{w:World}{K:j0}{mg:Str->Option Value}{base:Heap}
structure CalsHF(P:Program)(w:World)(K:j0)(mg:Str->Option Value)(base:Heap):Prop where
 are_wholes:Cal P w K mg base 2 "are_wholes" ["thing","many"] (conSp K cAreW)
noncomputable def cHF:Con:=λargs Q=>∃(p:Pp) (k:Bool),args=[.fz (pD p),.fz (.str (if k then "cut" else "cell")),.fz (.int (if k then 6 else 2))]/\∀o,Q (.fz (.bool (p.isCut==k))) o
theorem scHF:FnScope ["thing","word","many"] ["thing","word","many"] (defScope (top 22)):=⟨rfl,rfl,rfl,by decide +kernel,rfl,by decide +kernel,by decide +kernel⟩
theorem ok_hf{f:Addr}{fd:FuncData}(F:Fun K "has_form" "has_form" (top 22) f fd)(T:Txt mg)(C:CalsHF P w K mg base):FnOk P w K mg base CX0 3 f fd ["thing","word","many"] (conSp K cHF):=by
 have S:=scHF
 refine wfn F S (λcdv A outer s H E hr=>(s_cons (s_if (t_w (t_or (t_not (t_val (w_isiA .tup rfl T.isinstance_ T.tuple_ boot_tuple (wn 0)))) (t_or1 (t_cmp ok_ne (op_neE (K:=K) rfl hr.units) (wx (w_callB ok_len (call_lenK (K:=K) rfl) T.len_ PySem.boot_len (wa_cons (wn 0) wa_nil))) (wn 2))))) (s_one (s_ret w_bl)) s_nil)
     (s_one (s_ret (w_and (w_cmp ok_eq (op_eqE (K:=K) rfl hr.units) (wx (w_ix rfl (wn 0) (wx w_int))) (wn 1)) (w_one (w_fn C.are_wholes (hr.mono (by first|decide|omega)) (wa_cons (wx (w_ix rfl (wn 0) (wx w_int))) (wa_cons (wx w_int) wa_nil))))))))) ?_ ?_
 ·rintro args Qd ⟨p,k,rfl,_⟩;rfl
 ·rintro args Qd ⟨p,k,rfl,q⟩
  refine ⟨noOw_of rfl,?_⟩
  cases p<;>cases k
  ·exact ⟨_,rfl,_,rfl,tupD _,3,rfl,rfl,by decide,λo=>q _⟩
  ·exact q _
  ·exact q _
  ·exact ⟨_,rfl,_,rfl,tupD _,3,rfl,rfl,by decide,λo=>q _⟩
structure CalsHG(P:Program)(w:World)(K:j0)(mg:Str->Option Value)(base:Heap):Prop where
 has_form:Cal P w K mg base 3 "has_form" ["thing","word","many"] (conSp K cHF)
noncomputable def cIc:Con:=λargs Q=>∃p:Pp,args=[.fz (pD p)]/\∀o,Q (.fz (.bool (!p.isCut))) o
noncomputable def cIt:Con:=λargs Q=>∃p:Pp,args=[.fz (pD p)]/\∀o,Q (.fz (.bool p.isCut)) o
theorem scIc:FnScope ["thing"] ["thing"] (defScope (top 23)):=⟨rfl,rfl,rfl,by decide +kernel,rfl,by decide +kernel,by decide +kernel⟩
theorem ok_ic{f:Addr}{fd:FuncData}(F:Fun K "is_cell" "is_cell" (top 23) f fd)(C:CalsHG P w K mg base):FnOk P w K mg base CX0 4 f fd ["thing"] (conSp K cIc):=by
 have S:=scIc
 refine wfn F S (λcdv A outer s H E hr=>(s_one (s_ret (w_fn C.has_form (hr.mono (by first|decide|omega)) (wa_cons (wn 0) (wa_cons (wx w_str) (wa_cons (wx w_int) wa_nil))))))) ?_ ?_
 ·rintro args Qd ⟨p,rfl,_⟩;rfl
 ·rintro args Qd ⟨p,rfl,q⟩
  refine ⟨noOw_of rfl,p,false,rfl,λo=>?_⟩
  have e:(p.isCut==false)=!p.isCut:=by cases p.isCut<;>rfl
  rw[e]
  exact q _
theorem scIt:FnScope ["thing"] ["thing"] (defScope (top 24)):=⟨rfl,rfl,rfl,by decide +kernel,rfl,by decide +kernel,by decide +kernel⟩
theorem ok_it{f:Addr}{fd:FuncData}(F:Fun K "is_cut" "is_cut" (top 24) f fd)(C:CalsHG P w K mg base):FnOk P w K mg base CX0 4 f fd ["thing"] (conSp K cIt):=by
 have S:=scIt
 refine wfn F S (λcdv A outer s H E hr=>(s_one (s_ret (w_fn C.has_form (hr.mono (by first|decide|omega)) (wa_cons (wn 0) (wa_cons (wx w_str) (wa_cons (wx w_int) wa_nil))))))) ?_ ?_
 ·rintro args Qd ⟨p,rfl,_⟩;rfl
 ·rintro args Qd ⟨p,rfl,q⟩
  refine ⟨noOw_of rfl,p,true,rfl,λo=>?_⟩
  have e:(p.isCut==true)=p.isCut:=by cases p.isCut<;>rfl
  rw[e]
  exact q _
structure CalsIm(P:Program)(w:World)(K:j0)(mg:Str->Option Value)(base:Heap):Prop where
 is_cell:Cal P w K mg base 4 "is_cell" ["thing"] (conSp K cIc)
 is_cut:Cal P w K mg base 4 "is_cut" ["thing"] (conSp K cIt)
noncomputable def cIm:Con:=λargs Q=>∃p:Pp,args=[.fz (pD p)]/\∀o,Q (.fz (.bool true)) o
theorem scIm:FnScope ["thing"] ["thing"] (defScope (top 25)):=⟨rfl,rfl,rfl,by decide +kernel,rfl,by decide +kernel,by decide +kernel⟩
theorem ok_im{f:Addr}{fd:FuncData}(F:Fun K "is_claimed" "is_claimed" (top 25) f fd)(C:CalsIm P w K mg base):FnOk P w K mg base CX0 5 f fd ["thing"] (conSp K cIm):=by
 have S:=scIm
 refine wfn F S (λcdv A outer s H E hr=>(s_one (s_ret (w_or (w_fn C.is_cell (hr.mono (by first|decide|omega)) (wa_cons (wn 0) wa_nil)) (w_one (w_fn C.is_cut (hr.mono (by first|decide|omega)) (wa_cons (wn 0) wa_nil))))))) ?_ ?_
 ·rintro args Qd ⟨p,rfl,_⟩;rfl
 ·rintro args Qd ⟨p,rfl,q⟩
  refine ⟨noOw_of rfl,p,rfl,λo=>?_⟩
  cases p
  ·exact q _
  ·exact ⟨_,rfl,λo=>q _⟩
noncomputable def cLb:Con:=λargs Q=>∃c d:List Int,args=[.fz (tupD c),.fz (tupD d)]/\c.length=3/\d.length=3/\∀o,Q (.fz (.bool (letB c d))) o
theorem scLb:FnScope ["claim","told"] ["claim","told"] (defScope (top 26)):=⟨rfl,rfl,rfl,by decide +kernel,rfl,by decide +kernel,by decide +kernel⟩
theorem ok_lb{f:Addr}{fd:FuncData}(F:Fun K "lets_by" "lets_by" (top 26) f fd):FnOk P w K mg base CX0 1 f fd ["claim","told"] (conSp K cLb):=by
 have S:=scLb
 refine wfn F S (λcdv A outer s H E hr=>(s_one (s_ret (w_and (w_cmp ok_eq (op_eqE (K:=K) rfl hr.units) (wx (w_ix rfl (wn 0) (wx w_int))) (wx (w_ix rfl (wn 1) (wx w_int)))) (w_and (w_cmp ok_le op_le (wx (w_ix rfl (wn 0) (wx w_int))) (wx (w_ix rfl (wn 1) (wx w_int)))) (w_one (w_cmp ok_ge op_ge (wx (w_ix rfl (wn 0) (wx w_int))) (wx (w_ix rfl (wn 1) (wx w_int)))))))))) ?_ ?_
 ·rintro args Qd ⟨c,d,rfl,_⟩;rfl
 ·rintro args Qd ⟨c,d,rfl,hc,hd,q⟩
  refine ⟨noOw_of rfl,?_⟩
  obtain⟨x,y,z,rfl⟩:∃a b c',c=[a,b,c']:=by
   rcases c with _|⟨a,_|⟨b,_|⟨c,_|⟨d,ts⟩⟩⟩⟩<;>first|exact ⟨_,_,_,rfl⟩|(simp at hc)
  obtain⟨x',y',z',rfl⟩:∃a b c',d=[a,b,c']:=by
   rcases d with _|⟨a,_|⟨b,_|⟨c,_|⟨d,ts⟩⟩⟩⟩<;>first|exact ⟨_,_,_,rfl⟩|(simp at hd)
  refine ⟨_,rfl,_,rfl,?_⟩
  refine ite2 (λh1=>?_) (λh1=>?_)
  ·refine ⟨_,rfl,_,rfl,ite2 (λh2=>⟨_,rfl,_,rfl,?_⟩) (λh2=>?_)⟩
   ·have e:letB [x,y,z] [x',y',z']=decide (z'<=z):=by
     show (decide (x=x')&&(decide (y<=y')&&decide (z'<=z)))=_
     rw[show decide (x=x')=true from h1,show decide (y<=y')=true from h2];rfl
    rw[e]at q
    exact q _
   ·have e:letB [x,y,z] [x',y',z']=false:=by
     show (decide (x=x')&&(decide (y<=y')&&decide (z'<=z)))=_
     rw[show decide (x=x')=true from h1,show decide (y<=y')=false from E1.mpr h2];rfl
    rw[e]at q
    exact q _
  ·have e:letB [x,y,z] [x',y',z']=false:=by
    show (decide (x=x')&&(decide (y<=y')&&decide (z'<=z)))=_
    rw[show decide (x=x')=false from E1.mpr h1];rfl
   rw[e]at q
   exact q _
end
theorem getD_at{l:List Int}{i:Nat}{x:Int}(h:l[i]?=some x):l.getD i 0=x:=by rw[Q0,h];rfl
theorem at_nat{l:List Int}{i:Int}(h0:0<=i)(h1:i < l.length):atI (l.map q0) i=some (.int (l.getD i.toNat 0)):=by
 obtain⟨n,rfl⟩:=T2 h0
 exact at_ints (by omega)
theorem bx_wi:∀{lo hi sd:List Int},Bx lo hi sd->Wi lo sd/\Wi hi sd
 | [],[],[],_=>⟨trivial,trivial⟩
 | x :: lo,y :: hi,s :: sd,h=>by
  have ih:=bx_wi h.2
  have:=h.1
  exact ⟨⟨⟨by omega,by omega⟩,ih.1⟩,⟨⟨by omega,by omega⟩,ih.2⟩⟩
 | [],[],_ :: _,h=>h.elim
 | [],_ :: _,z,h=>by cases z<;>exact h.elim
 | _ :: _,[],z,h=>by cases z<;>exact h.elim
 | _ :: _,_ :: _,[],h=>h.elim
theorem bx_set:∀{lo hi sd:List Int}{i:Nat}{x y:Int},Bx lo hi sd->i < lo.length->lo.getD i 0<=x->x<=y->y<=hi.getD i 0->Bx (lo.set i x) (hi.set i y) sd
 | a :: lo,b :: hi,s :: sd,0,x,y,h,_,h1,h2,h3=>by
  have:=h.1
  have h1:a<=x:=h1
  have h3:y<=b:=h3
  exact ⟨⟨by omega,h2,by omega⟩,h.2⟩
 | a :: lo,b :: hi,s :: sd,i+1,x,y,h,hi',h1,h2,h3=>⟨h.1,bx_set (lo:=lo) (hi:=hi) h.2 (by simpa using hi') h1 h2 h3⟩
 | [],_,_,_,_,_,_,h,_,_,_=>by simp at h
 | _ :: _,[],z,_,_,_,h,_,_,_,_=>by cases z<;>exact h.elim
 | _ :: _,_ :: _,[],_,_,_,h,_,_,_,_=>h.elim
theorem cutB_is{b:Bxx}{w a:Int}(h:cutB b w a=true):0<=w/\w < b.1.length/\b.1.getD w.toNat 0<=a/\a < b.2.getD w.toNat 0:=by
 unfold cutB at h
 simp only[Y0,decide_eq_true_eq]at h
 exact ⟨h.1,h.2.1,h.2.2.1,h.2.2.2⟩
theorem bxL_bx{b:Bxx}{sd:List Int}{w a:Int}(hb:Bx b.1 b.2 sd)(h:cutB b w a=true):Bx (bxL b w a).1 (bxL b w a).2 sd:=by
 obtain⟨h1,h2,h3,h4⟩:=cutB_is h
 exact bx_set hb (by omega) (V3 _) h3 (by omega)
theorem bxR_bx{b:Bxx}{sd:List Int}{w a:Int}(hb:Bx b.1 b.2 sd)(h:cutB b w a=true):Bx (bxR b w a).1 (bxR b w a).2 sd:=by
 obtain⟨h1,h2,h3,h4⟩:=cutB_is h
 exact bx_set hb (by omega) (by omega) (by omega) (V3 _)
section
variable {P:Program}{w:World}{K:j0}{mg:Str->Option Value}{base:Heap}
structure CalsCB(P:Program)(w:World)(K:j0)(mg:Str->Option Value)(base:Heap):Prop where
 with_stretch:Cal P w K mg base 2 "with_stretch" ["box","way","stretch"] (conSp K cWs)
noncomputable def cCB:Con:=λargs Q=>∃(b:Bxx) (w a:Int),args=[.fz (boxD b),.fz (.int w),.fz (.int a)]/\0<=w/\w < b.1.length/\b.2.length=b.1.length/\b.1.length<=3/\∀o,Q (.ow (.list [boxD (bxL b w a),boxD (bxR b w a)])) o
theorem scCB:FnScope ["box","way","at"] ["box","way","at"] (defScope (top 27)):=⟨rfl,rfl,rfl,by decide +kernel,rfl,by decide +kernel,by decide +kernel⟩
theorem ok_cb{f:Addr}{fd:FuncData}(F:Fun K "cut_boxes" "cut_boxes" (top 27) f fd)(C:CalsCB P w K mg base):FnOk P w K mg base CX0 3 f fd ["box","way","at"] (conSp K cCB):=by
 have S:=scCB
 refine wfn F S (λcdv A outer s H E hr=>(s_one (s_ret (w_lst (wa_cons (wx (w_fn C.with_stretch (hr.mono (by first|decide|omega)) (wa_cons (wn 0) (wa_cons (wn 1) (wa_cons (wx (w_tup (wa_cons (wx (w_ix rfl (wx (w_ix rfl (wn 0) (wx w_int))) (wn 1))) (wa_cons (wx (wv 2)) wa_nil)))) wa_nil))))) (wa_cons (wx (w_fn C.with_stretch (hr.mono (by first|decide|omega)) (wa_cons (wn 0) (wa_cons (wn 1) (wa_cons (wx (w_tup (wa_cons (wx (w_bin ok_add op_addD (wn 2) (wx w_int))) (wa_cons (wx (w_ix rfl (wx (w_ix rfl (wn 0) (wx w_int))) (wn 1))) wa_nil)))) wa_nil))))) wa_nil)))))) ?_ ?_
 ·rintro args Qd ⟨b,w,a,rfl,_⟩;rfl
 ·rintro args Qd ⟨b,w,a,rfl,h0,h1,h2,h3,q⟩
  refine ⟨noOw_of rfl,?_⟩
  have ew:((w.toNat:Nat):Int)=w:=by omega
  refine ⟨_,rfl,_,at_nat h0 h1,b,w.toNat,(b.1.getD w.toNat 0,a),by rw[ew];rfl,by omega,h2,by omega,λo=>?_⟩
  refine ⟨_,rfl,_,at_nat h0 (by omega),b,w.toNat,(a+1,b.2.getD w.toNat 0),by rw[ew];rfl,by omega,h2,by omega,λo=>?_⟩
  exact q _
structure CalsHC(P:Program)(w:World)(K:j0)(mg:Str->Option Value)(base:Heap):Prop where
 cell_at:Cal P w K mg base 2 "cell_at" ["field","place"] (conSp K cCa)
 thrice:Cal P w K mg base 1 "thrice" ["number"] (conSp K cTh)
 lets_by:Cal P w K mg base 1 "lets_by" ["claim","told"] (conSp K cLb)
noncomputable def cHC:Con:=λargs Q=>∃(sd cl:List Int) (b:Bxx) (t l h:Int),args=[.fz (fldD sd cl),.fz (boxD b),.fz (pD (.cell t l h))]/\Sd sd/\cl.length=(plc sd).length/\Bx b.1 b.2 sd/\∀o,Q (.fz (.bool (okP sd cl b (.cell t l h)))) o
theorem scHC:FnScope ["field","box","paper"] ["field","box","paper"] (defScope (top 28)):=⟨rfl,rfl,rfl,by decide +kernel,rfl,by decide +kernel,by decide +kernel⟩
theorem ok_hc{f:Addr}{fd:FuncData}(F:Fun K "holds_cell" "holds_cell" (top 28) f fd)(C:CalsHC P w K mg base):FnOk P w K mg base CX0 3 f fd ["field","box","paper"] (conSp K cHC):=by
 have S:=scHC
 refine wfn F S (λcdv A outer s H E hr=>(s_one (s_ret (w_and (w_cmp ok_eq (op_eqE (K:=K) rfl hr.units) (wx (w_ix rfl (wn 1) (wx w_int))) (wx (w_ix rfl (wn 1) (wx w_int)))) (w_one (w_fn C.lets_by (hr.mono (by first|decide|omega)) (wa_cons (wx (w_ix rfl (wn 2) (wx w_int))) (wa_cons (wx (w_fn C.thrice (hr.mono (by first|decide|omega)) (wa_cons (wx (w_fn C.cell_at (hr.mono (by first|decide|omega)) (wa_cons (wn 0) (wa_cons (wx (w_ix rfl (wn 1) (wx w_int))) wa_nil)))) wa_nil))) wa_nil)))))))) ?_ ?_
 ·rintro args Qd ⟨sd,cl,b,t,l,h,rfl,_⟩;rfl
 ·rintro args Qd ⟨sd,cl,b,t,l,h,rfl,hsd,hcl,hb,q⟩
  refine ⟨noOw_of rfl,?_⟩
  have n1:=Nice.tup b.1
  have n2:=Nice.tup b.2
  refine ⟨_,rfl,_,rfl,n1.p,n2.p,n1.sh (by decide),n2.sh (by decide),mix_tup _ _,?_⟩
  refine ite2 (λh1=>?_) (λh1=>?_)
  ·have h1:same (tupD b.1) (tupD b.2)=true:=h1
   rw[same_tup]at h1
   refine ⟨_,rfl,_,rfl,sd,cl,b.1,rfl,hsd,hcl,(bx_wi hb).1,λo=>⟨_,rfl,λo=>⟨[t,l,h],_,rfl,rfl,rfl,λo=>?_⟩⟩⟩
   have e:okP sd cl b (.cell t l h)=letB [t,l,h] [cel sd cl b.1,cel sd cl b.1,cel sd cl b.1]:=by
    show (decide (b.1=b.2)&&_)=_
    rw[h1];rfl
   rw[e]at q
   exact q _
  ·have h1:¬same (tupD b.1) (tupD b.2)=true:=h1
   rw[same_tup]at h1
   have e:okP sd cl b (.cell t l h)=false:=by
    show (decide (b.1=b.2)&&_)=_
    rw[E1.mpr h1];rfl
   rw[e]at q
   exact q _
structure CalsCu(P:Program)(w:World)(K:j0)(mg:Str->Option Value)(base:Heap):Prop where
 is_whole:Cal P w K mg base 1 "is_whole" ["thing"] (conSp K cWhole)
noncomputable def cCu:Con:=λargs Q=>∃(b:Bxx) (w a:Int),args=[.fz (boxD b),.fz (.int w),.fz (.int a)]/\b.2.length=b.1.length/\∀o,Q (.fz (.bool (cutB b w a))) o
theorem scCu:FnScope ["box","way","at"] ["box","way","at"] (defScope (top 29)):=⟨rfl,rfl,rfl,by decide +kernel,rfl,by decide +kernel,by decide +kernel⟩
theorem ok_cu{f:Addr}{fd:FuncData}(F:Fun K "cuts_box" "cuts_box" (top 29) f fd)(T:Txt mg)(C:CalsCu P w K mg base):FnOk P w K mg base CX0 2 f fd ["box","way","at"] (conSp K cCu):=by
 have S:=scCu
 refine wfn F S (λcdv A outer s H E hr=>(s_cons (s_if (t_w (t_or (t_not (t_val (w_fn C.is_whole (hr.mono (by first|decide|omega)) (wa_cons (wn 1) wa_nil)))) (t_or (t_not (t_val (w_fn C.is_whole (hr.mono (by first|decide|omega)) (wa_cons (wn 2) wa_nil)))) (t_or (t_cmp ok_lt op_lt (wn 1) (wx w_int)) (t_or1 (t_cmp ok_ge op_ge (wn 1) (wx (w_callB ok_len (call_lenK (K:=K) rfl) T.len_ PySem.boot_len (wa_cons (wx (w_ix rfl (wn 0) (wx w_int))) wa_nil))))))))) (s_one (s_ret w_bl)) s_nil)
     (s_one (s_ret (w_chain op_le op_lt (wx (w_ix rfl (wx (w_ix rfl (wn 0) (wx w_int))) (wn 1))) (wn 2) (wx (w_ix rfl (wx (w_ix rfl (wn 0) (wx w_int))) (wn 1)))))))) ?_ ?_
 ·rintro args Qd ⟨b,w,a,rfl,_⟩;rfl
 ·rintro args Qd ⟨b,w,a,rfl,hl,q⟩
  refine ⟨noOw_of rfl,?_⟩
  refine ⟨_,rfl,rfl,λo=>⟨_,rfl,rfl,λo=>?_⟩⟩
  refine ite2 (λh=>(T0 h).elim) (λ_=>?_)
  refine ite2 (λh1=>?_) (λh1=>?_)
  ·have h1:w < 0:=of_decide_eq_true h1
   have e:cutB b w a=false:=by
    unfold cutB
    rw[decide_eq_false (show ¬0<=w by omega)];rfl
   rw[e]at q
   exact q _
  have h1:0<=w:=Int.not_lt.mp λz=>h1 (decide_eq_true z)
  refine ⟨_,rfl,ite2 (λh2=>?_) (λh2=>?_)⟩
  ·have h2:decide (((b.1.map q0).length:Int)<=w)=true:=h2
   rw[A0]at h2
   have h2:=of_decide_eq_true h2
   have e:cutB b w a=false:=by
    unfold cutB
    rw[decide_eq_false (show ¬w < (b.1.length:Int) by omega),U1,B5]
   rw[e]at q
   exact q _
  have h2:¬decide (((b.1.map q0).length:Int)<=w)=true:=h2
  rw[A0]at h2
  have h2:w < b.1.length:=Int.not_le.mp λz=>h2 (decide_eq_true z)
  have e:cutB b w a=(decide (b.1.getD w.toNat 0<=a)&&decide (a < b.2.getD w.toNat 0)):=by
   unfold cutB
   rw[decide_eq_true h1,decide_eq_true h2];rfl
  rw[e]at q
  refine ⟨_,rfl,_,at_nat h1 h2,ite2 (λh3=>⟨_,rfl,_,at_nat h1 (by omega),?_⟩) (λh3=>?_)⟩
  ·have h3:decide (b.1.getD w.toNat 0<=a)=true:=h3
   rw[h3,P2]at q
   exact q _
  ·have h3:¬decide (b.1.getD w.toNat 0<=a)=true:=h3
   rw[E1.mpr h3,U1]at q
   exact q _
noncomputable def cPo:Con:=λargs Q=>∃(t l h w a:Int) (p q:Pp),args=[.fz (pD (.cut t l h w a p q))]/\∀o,Q (.ow (.list [pD p,pD q])) o
theorem scPo:FnScope ["paper"] ["paper"] (defScope (top 30)):=⟨rfl,rfl,rfl,by decide +kernel,rfl,by decide +kernel,by decide +kernel⟩
theorem ok_po{f:Addr}{fd:FuncData}(F:Fun K "parts_of" "parts_of" (top 30) f fd)(L:Cls K mg):FnOk P w K mg base CX0 1 f fd ["paper"] (conSp K cPo):=by
 have S:=scPo
 refine wfn F S (λcdv A outer s H E hr=>(s_one (s_ret (w_comp rfl (own:=["part"]) (fr:=[0]) (by kernel_rfl) (i_gtup rfl L.PARTS_) (λ_ _ _ _=>(g_name (i:=0) (by decide +kernel:K3 (["part","paper"]:List Str)) rfl (Or.inl rfl))) (λ_ _ _ _=>if0) (λ_ _ _ _=>(w_ix rfl (wn 1) (wn 0))))))) ?_ ?_
 ·rintro args Qd ⟨t,l,h,w,a,p,q,rfl,_⟩;rfl
 ·rintro args Qd ⟨t,l,h,w,a,p,q,rfl,k⟩
  refine ⟨noOw_of rfl,?_⟩
  exact ⟨le_size (by simp),_,rfl,_,rfl,k _⟩
end
noncomputable def looks(b:Bxx):Pp->Bool
 | .cell _ _ _=>false
 | .cut t l h w a p q=>cutB b w a&&letB [t,l,h] (comb p.cl q.cl)
section
variable {P:Program}{w:World}{K:j0}{mg:Str->Option Value}{base:Heap}
structure CalsHu(P:Program)(w:World)(K:j0)(mg:Str->Option Value)(base:Heap):Prop where
 cuts_box:Cal P w K mg base 2 "cuts_box" ["box","way","at"] (conSp K cCu)
 parts_of:Cal P w K mg base 1 "parts_of" ["paper"] (conSp K cPo)
 is_claimed:Cal P w K mg base 5 "is_claimed" ["thing"] (conSp K cIm)
 put_together:Cal P w K mg base 1 "put_together" ["parts"] (conSp K cPt)
 lets_by:Cal P w K mg base 1 "lets_by" ["claim","told"] (conSp K cLb)
noncomputable def cHu:Con:=λargs Q=>∃(b:Bxx) (t l h w a:Int) (p q:Pp),args=[.fz (boxD b),.fz (pD (.cut t l h w a p q))]/\b.2.length=b.1.length/\∀o,Q (.fz (.bool (looks b (.cut t l h w a p q)))) o
theorem scHu:FnScope ["box","paper"] ["box","paper"] (defScope (top 31)):=⟨rfl,rfl,rfl,by decide +kernel,rfl,by decide +kernel,by decide +kernel⟩
theorem ok_hu{f:Addr}{fd:FuncData}(F:Fun K "holds_cut" "holds_cut" (top 31) f fd)(T:Txt mg)(C:CalsHu P w K mg base):FnOk P w K mg base CX0 6 f fd ["box","paper"] (conSp K cHu):=by
 have S:=scHu
 refine wfn F S (λcdv A outer s H E hr=>(s_cons (s_if (t_w (t_or (t_not (t_val (w_fn C.cuts_box (hr.mono (by first|decide|omega)) (wa_cons (wn 0) (wa_cons (wx (w_ix rfl (wn 1) (wx w_int))) (wa_cons (wx (w_ix rfl (wn 1) (wx w_int))) wa_nil)))))) (t_or1 (t_not (t_val (w_callB ok_all (call_allK (K:=K) rfl rfl) T.all_ boot_all (wa_cons (wx (w_comp rfl (own:=["part"]) (fr:=[]) (by kernel_rfl) (i_seq rfl (w_fn C.parts_of (hr.mono (by first|decide|omega)) (wa_cons (wn 1) wa_nil))) (λ_ _ _ _=>(g_name (i:=0) (by decide +kernel:K3 (["part"]:List Str)) rfl (Or.inl rfl))) (λ_ _ _ _=>if0) (λ_ _ _ _=>(w_fn C.is_claimed (hr.mono (by first|decide|omega)) (wa_cons (wn 0) wa_nil))))) wa_nil))))))) (s_one (s_ret w_bl)) s_nil)
     (s_one (s_ret (w_fn C.lets_by (hr.mono (by first|decide|omega)) (wa_cons (wx (w_ix rfl (wn 1) (wx w_int))) (wa_cons (wx (w_fn C.put_together (hr.mono (by first|decide|omega)) (wa_cons (wx (w_comp rfl (own:=["part"]) (fr:=[]) (by kernel_rfl) (i_seq rfl (w_fn C.parts_of (hr.mono (by first|decide|omega)) (wa_cons (wn 1) wa_nil))) (λ_ _ _ _=>(g_name (i:=0) (by decide +kernel:K3 (["part"]:List Str)) rfl (Or.inl rfl))) (λ_ _ _ _=>if0) (λ_ _ _ _=>(w_ix rfl (wn 0) (wx w_int))))) wa_nil))) wa_nil))))))) ?_ ?_
 ·rintro args Qd ⟨b,t,l,h,w,a,p,q,rfl,_⟩;rfl
 ·rintro args Qd ⟨b,t,l,h,w,a,p,q,rfl,hl,k⟩
  refine ⟨noOw_of rfl,?_⟩
  refine ⟨_,rfl,_,rfl,b,w,a,rfl,hl,λo=>?_⟩
  have e:looks b (.cut t l h w a p q)=(cutB b w a&&letB [t,l,h] (comb p.cl q.cl)):=rfl
  cases hc:cutB b w a with
  | false =>
   rw[e,hc,U1]at k
   exact k _
  | true =>
   rw[e,hc,P2]at k
   refine ⟨t,l,h,w,a,p,q,rfl,λo=>⟨le_size (by simp),p,rfl,λo=>⟨q,rfl,λo=>⟨[true,true],rfl,?_⟩⟩⟩⟩
   refine ⟨_,rfl,t,l,h,w,a,p,q,rfl,λo=>?_⟩
   have fin:∀o,Qd (.fz (.bool (letB [t,l,h] (comb p.cl q.cl)))) o:=k
   cases p<;>cases q
   all_goals exact ⟨le_size (by simp),_,rfl,_,rfl,_,_,rfl,rfl,rfl,λo=>⟨[t,l,h],_,rfl,rfl,rfl,λo=>fin _⟩⟩
noncomputable abbrev wtD(x:Bxx×Pp):PyData:=.tuple [boxD x.1,pD x.2]
structure CalsHP(P:Program)(w:World)(K:j0)(mg:Str->Option Value)(base:Heap):Prop where
 is_cut:Cal P w K mg base 4 "is_cut" ["thing"] (conSp K cIt)
 holds_cut:Cal P w K mg base 6 "holds_cut" ["box","paper"] (conSp K cHu)
 cut_boxes:Cal P w K mg base 3 "cut_boxes" ["box","way","at"] (conSp K cCB)
 parts_of:Cal P w K mg base 1 "parts_of" ["paper"] (conSp K cPo)
 is_cell:Cal P w K mg base 4 "is_cell" ["thing"] (conSp K cIc)
 holds_cell:Cal P w K mg base 3 "holds_cell" ["field","box","paper"] (conSp K cHC)
noncomputable def cHP:Con:=λargs Q=>∃(sd cl:List Int) (b:Bxx) (p:Pp),args=[.fz (fldD sd cl),.fz (boxD b),.fz (pD p)]/\Sd sd/\cl.length=(plc sd).length/\Bx b.1 b.2 sd/\p.sz<=1000/\∀o,Q (.fz (.bool (okP sd cl b p))) o
theorem scHP:FnScope ["field","box","thing","waiting","piece","boxes"] ["field","box","thing"] (defScope (top 32)):=⟨rfl,rfl,rfl,by decide +kernel,rfl,by decide +kernel,by decide +kernel⟩
theorem ok_hp{f:Addr}{fd:FuncData}(F:Fun K "holds_paper" "holds_paper" (top 32) f fd)(T:Txt mg)(C:CalsHP P w K mg base):FnOk P w K mg base CX0 7 f fd ["field","box","thing"] (conSp K cHP):=by
 have S:=scHP
 refine wfn F S (λcdv A outer s H E hr=>(s_cons (s_set (i:=3) S.nd rfl (Or.inl rfl) (w_lst (wa_cons (wx (w_tup (wa_cons (wx (wv 1)) (wa_cons (wx (wv 2)) wa_nil)))) wa_nil)))
     (s_cons (s_while PassesOwn.never (t_cmp ok_gt op_gt (wx (w_callB ok_len (call_lenK (K:=K) rfl) T.len_ PySem.boot_len (wa_cons (wn 3) wa_nil))) (wx w_int)) (s_cons (s_set (i:=4) S.nd rfl (Or.inl rfl) (w_m0 ok_pop rfl PySem.F.slot_list_pop PySem.F.type_list_pop mt_pop (wn 3)))
     (s_one (s_if (t_w (t_and (t_val (w_fn C.is_cut (hr.mono (by first|decide|omega)) (wa_cons (wx (w_ix rfl (wn 4) (wx w_int))) wa_nil))) (t_and1 (t_val (w_fn C.holds_cut (hr.mono (by first|decide|omega)) (wa_cons (wx (w_ix rfl (wn 4) (wx w_int))) (wa_cons (wx (w_ix rfl (wn 4) (wx w_int))) wa_nil))))))) (s_cons (s_set (i:=5) S.nd rfl (Or.inl rfl) (w_fn C.cut_boxes (hr.mono (by first|decide|omega)) (wa_cons (wx (w_ix rfl (wn 4) (wx w_int))) (wa_cons (wx (w_ix rfl (wx (w_ix rfl (wn 4) (wx w_int))) (wx w_int))) (wa_cons (wx (w_ix rfl (wx (w_ix rfl (wn 4) (wx w_int))) (wx w_int))) wa_nil)))))
     (s_one (s_expr (w_m ok_extend rfl PySem.F.slot_list_extend PySem.F.type_list_extend mt_extend (wn 3) (wa_cons (wx (w_LZ rfl rfl T.list_ T.zip_ (wa_cons (wn 5) (wa_cons (wx (w_fn C.parts_of (hr.mono (by first|decide|omega)) (wa_cons (wx (w_ix rfl (wn 4) (wx w_int))) wa_nil))) wa_nil)))) wa_nil))))) (s_one (s_if (t_w (t_or (t_not (t_val (w_fn C.is_cell (hr.mono (by first|decide|omega)) (wa_cons (wx (w_ix rfl (wn 4) (wx w_int))) wa_nil)))) (t_or1 (t_not (t_val (w_fn C.holds_cell (hr.mono (by first|decide|omega)) (wa_cons (wn 0) (wa_cons (wx (w_ix rfl (wn 4) (wx w_int))) (wa_cons (wx (w_ix rfl (wn 4) (wx w_int))) wa_nil))))))))) (s_one (s_ret w_bl)) s_nil))))))
     (s_one (s_ret w_bl))))) ?_ ?_
 ·rintro args Qd ⟨sd,cl,b,p,rfl,_⟩;rfl
 ·rintro args Qd ⟨sd,cl,b,p,rfl,hsd,hcl,hb,hz,q⟩
  refine ⟨noOw_of rfl,?_⟩
  refine ⟨λm ρ=>∃(ws:List (Bxx×Pp)) (x y:Option Sl),ρ=[some (.fz (fldD sd cl)),some (.fz (boxD b)),some (.fz (pD p)),some (.ow (.list (ws.map wtD))),x,y]/\(∀z∈ws,Bx z.1.1 z.1.2 sd)/\okP sd cl b p=(ws.all λz=>okP sd cl z.1 z.2)/\m=(ws.map λz=>z.2.sz).sum/\m<=1000/\((x=none/\y=none)\/∃d,x=some (.fz d)/\(y=none\/∃e,y=some (.ow e))),⟨_,[(b,p)],none,none,rfl,by simp[hb],by simp,rfl,by simp[hz],.inl ⟨rfl,rfl⟩⟩,?_⟩
  rintro m ρ ⟨ws,x,y,rfl,hw,hok,rfl,hm,hxy⟩
  have h3:=hsd.l3
  rcases hxy with⟨rfl,rfl⟩|⟨d,rfl,rfl|⟨e,rfl⟩⟩
  all_goals
   refine ite2 (λh=>?_) (λh=>?_)
   ·refine ⟨λρ'=>∃m',m' < (ws.map λz=>z.2.sz).sum/\_,λρ' h=>h,?_⟩
    obtain⟨ws,⟨bb,pp⟩,rfl⟩:∃ws' x,ws=ws'++[x]:=by
     rcases J7 ws with e|⟨a,b,e⟩
     ·subst e;simp at h
     ·exact ⟨a,b,by simpa using e⟩
    have e1:((ws++[(bb,pp)]).map wtD)[((ws++[(bb,pp)]).map wtD).length - 1]?=some (wtD (bb,pp)):=by simp
    have e2:((ws++[(bb,pp)]).map wtD).dropLast=ws.map wtD:=by simp
    have hbb:Bx bb.1 bb.2 sd:=hw (bb,pp) (by simp)
    have hbl:=bx_len hbb
    have hw':∀z∈ws,Bx z.1.1 z.1.2 sd:=λz hz=>hw z (by simp[hz])
    have hsum:((ws++[(bb,pp)]).map λz=>z.2.sz).sum=(ws.map λz=>z.2.sz).sum+pp.sz:=by simp
    have hall:((ws++[(bb,pp)]).all λz=>okP sd cl z.1 z.2)=((ws.all λz=>okP sd cl z.1 z.2)&&okP sd cl bb pp):=by simp
    rw[hsum]at hm ⊢
    rw[hall]at hok
    have hpos:=pp.sz1
    have hwl:ws.length<=(ws.map λz=>z.2.sz).sum:=by
     clear hok hm hw' hw h e1 e2 hsum hall
     induction ws with
     | nil=>simp
     | cons z ws ih=>have:=z.2.sz1;simp only[K1,V2,Z1];omega
    have bad:okP sd cl bb pp=false->∀o,Qd (.fz (.bool false)) o:=λhf=>by
     rw[hok,hf,B5]at q
     exact q
    refine ⟨_,e1,?_⟩
    rw[e2]
    cases pp with
    | cell t l hh =>
     refine ⟨_,rfl,_,rfl,λo=>?_⟩
     refine ⟨_,rfl,_,rfl,λo=>?_⟩
     refine ⟨_,rfl,_,rfl,sd,cl,bb,t,l,hh,rfl,hsd,hcl,hbb,λo=>?_⟩
     cases hf:okP sd cl bb (.cell t l hh) with
     | false=>exact bad hf _
     | true =>
      rw[hf,b8]at hok
      exact ⟨_,by omega,ws,_,_,rfl,hw',hok,rfl,by omega,.inr ⟨_,rfl,by first|exact .inl rfl|exact .inr ⟨_,rfl⟩⟩⟩
    | cut t l hh wy at_ p1 p2 =>
     refine ⟨_,rfl,_,rfl,λo=>?_⟩
     refine ⟨_,rfl,_,rfl,bb,t,l,hh,wy,at_,p1,p2,rfl,by omega,λo=>?_⟩
     have eo:okP sd cl bb (.cut t l hh wy at_ p1 p2)=(cutB bb wy at_&&(letB [t,l,hh] (comb p1.cl p2.cl)&&(okP sd cl (bxL bb wy at_) p1&&okP sd cl (bxR bb wy at_) p2))):=rfl
     cases hf:looks bb (.cut t l hh wy at_ p1 p2) with
     | false =>
      refine ⟨_,rfl,_,rfl,λo=>?_⟩
      refine bad ?_ _
      rw[eo,<- Bool.and_assoc,show (cutB bb wy at_&&letB [t,l,hh] (comb p1.cl p2.cl))=false from hf]
      rfl
     | true =>
      have hf:(cutB bb wy at_&&letB [t,l,hh] (comb p1.cl p2.cl))=true:=hf
      have eo2:okP sd cl bb (.cut t l hh wy at_ p1 p2)=(okP sd cl (bxL bb wy at_) p1&&okP sd cl (bxR bb wy at_) p2):=by rw[eo,<- Bool.and_assoc,hf,P2]
      rw[eo2]at hok
      have hcut:cutB bb wy at_=true:=by
       cases z:cutB bb wy at_ with
       | true=>rfl
       | false=>rw[z]at hf;cases hf
      obtain⟨g1,g2,g3,g4⟩:=cutB_is hcut
      have esz:(Pp.cut t l hh wy at_ p1 p2).sz=1+p1.sz+p2.sz:=rfl
      rw[esz]at hm ⊢
      have z1:=p1.sz1
      have z2:=p2.sz1
      refine ⟨_,rfl,_,rfl,_,rfl,_,rfl,_,rfl,bb,wy,at_,rfl,g1,g2,by omega,by omega,λo=>?_⟩
      have eb:(ws++[(bxL bb wy at_,p1),(bxR bb wy at_,p2)]).map wtD=ws.map wtD++[wtD (bxL bb wy at_,p1),wtD (bxR bb wy at_,p2)]:=by rw[j2];rfl
      refine ⟨_,rfl,t,l,hh,wy,at_,p1,p2,rfl,λo=>?_⟩
      refine ⟨_,_,rfl,rfl,?_⟩
      refine ⟨by rw[A0];exact le_size (by simp;omega),?_⟩
      refine ⟨_,?_,ws++[(bxL bb wy at_,p1),(bxR bb wy at_,p2)],_,_,by rw[eb];rfl,λz hz=>?_,?_,rfl,?_,.inr ⟨_,rfl,.inr ⟨_,rfl⟩⟩⟩
      ·first|(simp;done)|(simp;omega)
      ·rcases Z2.mp hz with hz|hz
       ·exact hw' z hz
       ·have hz:z=(bxL bb wy at_,p1)\/z=(bxR bb wy at_,p2):=by simpa using hz
        rcases hz with rfl|rfl
        ·exact bxL_bx hbb hcut
        ·exact bxR_bx hbb hcut
      ·rw[hok];simp
      ·first|(simp;done)|(simp;omega)
   ·have e:ws=[]:=by
     cases ws with
     | nil=>rfl
     | cons a b=>exact absurd (decide_eq_true (by simp)) h
    subst e
    have hok:okP sd cl b p=true:=hok
    rw[hok]at q
    exact q _
end
noncomputable def lws(b:Bxx):List Int:=((A2 b.1.length).filter λi=>decide (b.1.getD i 0 < b.2.getD i 0)).map λ(i:Nat)=>(i:Int)
theorem lws_mem{b:Bxx}(hl:b.2.length=b.1.length){x:Int}(h:x∈lws b):∃(i:Nat) (a c:Int),x=i/\i < b.1.length/\b.1[i]?=some a/\b.2[i]?=some c/\a < c:=by
 obtain⟨i,hi,rfl⟩:=U0.mp h
 obtain⟨h1,h2⟩:=j5.mp hi
 have h1:=Y2.mp h1
 have e1:b.1[i]?=some (b.1.getD i 0):=by rw[Q0,J0 h1];rfl
 have e2:b.2[i]?=some (b.2.getD i 0):=by rw[Q0,J0 (by omega)];rfl
 exact ⟨i,_,_,rfl,h1,e1,e2,of_decide_eq_true h2⟩
theorem lws_nil{sd:List Int}{b:Bxx}(hb:Bx b.1 b.2 sd)(h:lws b=[]):b.2=b.1:=by
 have hl:=bx_len hb
 have h1:=E7.mp (B6.mp h)
 refine List.ext_getElem (by omega) λi h2 h3=>?_
 have h4:=h1 i (Y2.mpr h3)
 have hp:=bx_pair hb (b.1[i],b.2[i]) (by
   have:i < (b.1.zip b.2).length:=by rw[u5];omega
   have e:=m7 (l:=b.1) (l':=b.2) (i:=i) (h:=this)
   rw[<- e]
   exact S2 _)
 rw[Q0,Q0,J0 h3,J0 h2]at h4
 simp at h4
 have:=hp.2.1
 simp only at this
 omega
theorem pick4{r m:Int}(r0:0<=r)(r1:r < 4)(hm:1<=m):∃ts:List Int,atI [Q3 [.int m],.list [.int 6,.int 6],.list [.int 4,.int 4,.int 4],.list [.int 2,.int m]] r=some (.list (ts.map q0))/\1<=ts.length/\ts.length<=3/\∀t∈ts,1<=t:=by
 rcases (show r=0\/r=1\/r=2\/r=3 by omega) with rfl|rfl|rfl|rfl
 ·exact ⟨[m],rfl,by simp,by simp,by simp[hm]⟩
 ·exact ⟨[6,6],rfl,by decide,by decide,by simp⟩
 ·exact ⟨[4,4,4],rfl,by decide,by decide,by simp⟩
 ·exact ⟨[2,m],rfl,by simp,by simp,by simp[hm]⟩
noncomputable def unT:PyData->List PyData
 | .tuple l=>l
 | _=>[]
section
variable {P:Program}{w:World}{K:j0}{mg:Str->Option Value}{base:Heap}
structure CalsSi(P:Program)(w:World)(K:j0)(mg:Str->Option Value)(base:Heap):Prop where
 law_draw:Cal P w K mg base 1 "_law_draw" ["_law_pen_here","_law_many"] (conSp K cDraw)
noncomputable def cSides:Con:=λargs Q=>∃(a b c m:Int),args=[.io (penD a b c),.fz (.int m)]/\0<=a/\0<=b/\0<=c/\1<=m/\m<=120 /\
 ∀(sd:List Int) (a' b' c':Int) (o:Ev),Sd sd->prodI sd<=m->0<=a'->0<=b'->0<=c'->Q (.fz (tupD sd)) (some (.io (penD a' b' c')) :: o)
theorem scSides:FnScope ["_law_pen_here","_law_most","_law_found","_law_room","_law_top","_law_side"] ["_law_pen_here","_law_most"] (defScope (top 39)):=⟨rfl,rfl,rfl,by decide +kernel,rfl,by decide +kernel,by decide +kernel⟩
theorem ok_sides{f:Addr}{fd:FuncData}(F:Fun K "_law_sides" "_law_sides" (top 39) f fd)(T:Txt mg)(C:CalsSi P w K mg base):FnOk P w K mg base CX0 2 f fd ["_law_pen_here","_law_most"] (conSp K cSides):=by
 have S:=scSides
 refine wfn F S (λcdv A outer s H E hr=>(s_cons (s_set (i:=2) S.nd rfl (Or.inl rfl) (w_lst wa_nil))
     (s_cons (s_move (i:=3) S.nd rfl (Or.inl rfl) (wn 1))
     (s_cons (s_for [4,5] PassesOwn.never rfl (i_seq rfl (w_ix rfl (wx (w_lst (wa_cons (wx (w_lst (wa_cons (wx (wv 1)) wa_nil))) (wa_cons (wx (w_lst (wa_cons (wx w_int) (wa_cons (wx w_int) wa_nil)))) (wa_cons (wx (w_lst (wa_cons (wx w_int) (wa_cons (wx w_int) (wa_cons (wx w_int) wa_nil))))) (wa_cons (wx (w_lst (wa_cons (wx w_int) (wa_cons (wx (wv 1)) wa_nil)))) wa_nil)))))) (wx (w_fnI C.law_draw (hr.mono (by first|decide|omega)) (wa_cons (wn 0) (wa_cons (wx w_int) wa_nil)))))) (g_name (i:=4) S.nd rfl (Or.inl rfl)) (s_cons (s_set (i:=5) S.nd rfl (Or.inl rfl) (w_bin ok_add op_addD (wx w_int) (wx (w_fnI C.law_draw (hr.mono (by first|decide|omega)) (wa_cons (wn 0) (wa_cons (wx (w_callB ok_2I (call_min2 rfl) T.min_ boot_min (wa_cons (wn 3) (wa_cons (wn 4) wa_nil)))) wa_nil))))))
     (s_cons (s_set (i:=3) S.nd rfl (Or.inl rfl) (w_bin ok_fdiv op_fdiv (wn 3) (wn 5)))
     (s_one (s_expr (w_m ok_append rfl PySem.F.slot_list_append PySem.F.type_list_append mt_append (wn 2) (wa_cons (wx (wv 5)) wa_nil)))))))
     (s_one (s_ret (w_callT ok_tuple (call_tupleK (K:=K) rfl) T.tuple_ boot_tuple (wa_cons (wn 2) wa_nil)))))))) ?_ ?_
 ·rintro args Qd ⟨a,b,c,m,rfl,_⟩;rfl
 ·rintro args Qd ⟨a,b,c,m,rfl,ha,hb,hc,m1,m2,q⟩
  refine ⟨noOw_of rfl,?_⟩
  refine ⟨a,b,c,_,rfl,ha,hb,hc,by decide,by decide,λr a1 b1 c1 _ r0 r1 ha1 hb1 hc1=>?_⟩
  obtain⟨ts,et,t1,t3,tp⟩:=pick4 (m:=m) r0 r1 m1
  refine ⟨_,et,?_⟩
  refine loopC (λrest ρ=>∃(cs rs:List Int) (r a b c:Int),ρ=[some (.io (penD a b c)),some (.fz (.int m)),some (.ow (.list (cs.map q0))),some (.fz (.int r)),none,none]/\rest=rs.map q0/\(∀t∈rs,1<=t)/\cs.length+rs.length=ts.length/\(∀c∈cs,1<=c)/\1<=r/\prodI cs * r<=m/\r<=m/\0<=a/\0<=b/\0<=c) ?_ ?_
   ⟨[],ts,m,a1,b1,c1,rfl,rfl,tp,by simp,by simp,m1,by show 1 * m<=m;omega,V3 _,ha1,hb1,hc1⟩
  ·rintro d ds ρ ⟨cs,rs,r,a,b,c,rfl,er,hrs,hln,hcs,hr1,hpr,hrm,ha,hb,hc⟩ N hN
   cases rs with
   | nil=>cases er
   | cons t rs =>
    cases er
    have ht:=hrs t M0
    have hmin:(if t < r then t else r)=min r t:=by split<;>omega
    refine ⟨a,b,c,min r t,by rw[<- hmin];rfl,ha,hb,hc,by omega,by omega,λx a2 b2 c2 _ x0 x1 ha2 hb2 hc2=>?_⟩
    refine ⟨⟨by show (0:Int) < 1+x;omega,by show 1+x < 1073741824;omega⟩,?_⟩
    refine ⟨by rw[A0];exact E3 (show cs.length<=3 by omega) (by decide),?_⟩
    refine hN _ ⟨cs++[1+x],rs,r / (1+x),a2,b2,c2,by rw[j2];rfl,rfl,λt ht=>hrs t (G0 _ ht),by simp at hln ⊢;omega,λc hc=>?_,?_,?_,?_,ha2,hb2,hc2⟩
    ·rcases Z2.mp hc with z|z
     ·exact hcs c z
     ·rw[A1.mp z];omega
    ·exact (Int.le_ediv_iff_mul_le (by omega)).mpr (by omega)
    ·rw[prodI_append]
     have e:prodI [1+x]=1+x:=by show (1+x) * 1=1+x;omega
     rw[e,e7]
     have h1:(1+x) * (r / (1+x))<=r:=by rw[Int.mul_comm];exact Int.ediv_mul_le _ (by omega)
     have h2:=prodI_pos hcs
     have:=X3 h1 (show 0<=prodI cs by omega)
     omega
    ·have:=Int.ediv_le_self (a:=r) (1+x) (by omega);omega
  ·rintro ρ ⟨cs,rs,r,a,b,c,rfl,er,hrs,hln,hcs,hr1,hpr,hrm,ha,hb,hc⟩
   cases rs with
   | cons t rs=>cases er
   | nil =>
    have h2:=prodI_pos hcs
    have h3:=X3 hr1 (show 0<=prodI cs by omega)
    simp only[O5,Nat.add_zero]at hln
    exact q cs a b c _ ⟨by omega,by omega,hcs,by omega⟩ (by omega) ha hb hc
noncomputable def cPlaces:Con:=λargs Q=>∃sd:List Int,args=[.fz (tupD sd)]/\Sd sd/\∀o,Q (.ow (.list ((plc sd).map tupD))) o
theorem scPlaces:FnScope ["_law_sides_here","_law_found","_law_side"] ["_law_sides_here"] (defScope (top 40)):=⟨rfl,rfl,rfl,by decide +kernel,rfl,by decide +kernel,by decide +kernel⟩
theorem ok_places{f:Addr}{fd:FuncData}(F:Fun K "_law_places" "_law_places" (top 40) f fd)(T:Txt mg):FnOk P w K mg base CX0 1 f fd ["_law_sides_here"] (conSp K cPlaces):=by
 have S:=scPlaces
 refine wfn F S (λcdv A outer s H E hr=>(s_cons (s_set (i:=1) S.nd rfl (Or.inl rfl) (w_lst (wa_cons (wx (w_tup wa_nil)) wa_nil)))
     (s_cons (s_for [2] PassesOwn.never rfl (i_seq rfl (wv 0)) (g_name (i:=2) S.nd rfl (Or.inr rfl)) (s_one (s_set (i:=1) S.nd rfl (Or.inl rfl) (w_callB ok_sumL (call_sumL rfl) T.sum_ boot_sum (wa_cons (wx (w_comp rfl (own:=["_law_place"]) (fr:=[2]) (by kernel_rfl) (i_seq rfl (wv 1)) (λ_ _ _ _=>(g_name (i:=0) (by decide +kernel:K3 (["_law_place","_law_side"]:List Str)) rfl (Or.inr rfl))) (λ_ _ _ _=>if0) (λ_ _ _ _=>(w_comp rfl (own:=["_law_k"]) (fr:=[0]) (by kernel_rfl) (i_rng1 T.range_ (wa_cons (wn 1) wa_nil)) (λ_ _ _ _=>(g_name (i:=0) (by decide +kernel:K3 (["_law_k","_law_place"]:List Str)) rfl (Or.inl rfl))) (λ_ _ _ _=>if0) (λ_ _ _ _=>(w_bin ok_add op_addD (wn 1) (wx (w_tup (wa_cons (wx (wv 0)) wa_nil))))))))) (wa_cons (wx (w_lst wa_nil)) wa_nil))))))
     (s_one (s_retV (wn 1)))))) ?_ ?_
 ·rintro args Qd ⟨sd,rfl,_⟩;rfl
 ·rintro args Qd ⟨sd,rfl,hsd,q⟩
  refine ⟨noOw_of rfl,?_⟩
  have hlen:∀{dn rs:List Int},dn++rs=sd->(eachA [[]] (dn.map rng)).length<=120:=λ{dn rs} e=>by
   have hd:∀c∈dn,1<=c:=λc hc=>hsd.p c (by rw[<- e];simp[hc])
   have hr:∀c∈rs,1<=c:=λc hc=>hsd.p c (by rw[<- e];simp[hc])
   have h1:=plc_len hd
   have h2:=hsd.m
   rw[<- e,prodI_append]at h2
   have h3:=prodI_pos hr
   have h4:=prodI_pos hd
   have:=X3 h3 (show 0<=prodI dn by omega)
   have:((plc dn).length:Int)<=120:=by omega
   show (plc dn).length<=120
   omega
  refine loopC (λrest ρ=>∃(dn rs:List Int),ρ=[some (.fz (tupD sd)),some (.ow (.list ((eachA [[]] (dn.map rng)).map tupD))),none]/\rest=rs.map q0/\dn++rs=sd) ?_ ?_
   ⟨[],sd,rfl,rfl,rfl⟩
  ·rintro d ds ρ ⟨dn,rs,rfl,er,hds⟩ N hN
   cases rs with
   | nil=>cases er
   | cons t rs =>
    cases er
    have ht:1<=t:=hsd.p t (by rw[<- hds];simp)
    have ht2:=le_prodI hsd.p t (by rw[<- hds];simp)
    have hm:=hsd.m
    have h3:=hsd.l3
    have hl0:=hlen hds
    have hl1:=hlen (dn:=dn++[t]) (rs:=rs) (by rw[<- hds];simp)
    have hlp:∀p∈eachA [[]] (dn.map rng),p.length<=3:=λp hp=>by
     have:=wi_len (plc_wi (sd:=dn) hp)
     have e:=congrArg x8 hds
     simp at e
     omega
    refine ⟨by rw[A0];exact le_size (by omega),mapC (λd=>.list ((rng t).map λk=>.tuple (unT d++[.int k]))) ?_ ?_⟩
    ·rintro d hd M hM
     obtain⟨p,hp,rfl⟩:=U0.mp hd
     have hpl:=hlp p hp
     refine ⟨by omega,by omega,by rw[rangeD_rng,A0,rng_len];exact le_size (by omega),?_⟩
     rw[rangeD_rng]
     refine mapC (λe=>.tuple (p.map q0++[e])) ?_ ?_
     ·rintro e he M2 hM2
      exact ⟨le_size (by simp;omega),hM2⟩
     ·rw[T1]
      exact hM
    ·have e1:((eachA [[]] (dn.map rng)).map tupD).map (λd=>Q3 ((rng t).map λk=>.tuple (unT d++[.int k])))=((eachA [[]] (dn.map rng)).map λp=>((rng t).map λk=>tupD (p++[k]))).map Q3:=by
      rw[T1,T1]
      refine N5 λp _=>?_
      show Q3 ((rng t).map λk=>.tuple (p.map q0++[.int k]))=Q3 ((rng t).map λk=>.tuple ((p++[k]).map q0))
      simp
     have e2:((eachA [[]] (dn.map rng)).map λp=>((rng t).map λk=>tupD (p++[k]))).flatten=(eachA [[]] ((dn++[t]).map rng)).map tupD:=by
      rw[j2,List.map_singleton,eachA_snoc,List.map_flatMap,List.flatMap_def]
      congr 1
      refine N5 λp _=>?_
      rw[T1]
      rfl
     refine ⟨_,e1,λz=>?_,by rw[e2,A0];exact le_size (by omega),?_⟩
     ·have hne:eachA [[]] (dn.map rng)≠[]:=λz2=>by
       have h1:=plc_len (sd:=dn) λc hc=>hsd.p c (by rw[<- hds];simp[hc])
       have h2:=prodI_pos (l:=dn) λc hc=>hsd.p c (by rw[<- hds];simp[hc])
       have:(plc dn).length=0:=by show (eachA [[]] (dn.map rng)).length=0;rw[z2];rfl
       omega
      exact hne (B6.mp z)
     ·rw[e2]
      exact hN _ ⟨dn++[t],rs,rfl,rfl,by rw[<- hds];simp⟩
  ·rintro ρ ⟨dn,rs,rfl,er,hds⟩
   cases rs with
   | cons t rs=>cases er
   | nil =>
    rw[S3]at hds
    subst hds
    exact q _
end
theorem set_self{l:List Int}{i:Nat}(h:i < l.length):l.set i (l.getD i 0)=l:=by
 rw[Q0,J0 h]
 exact K7 h
section
variable {P:Program}{w:World}{K:j0}{mg:Str->Option Value}{base:Heap}
structure CalsBo(P:Program)(w:World)(K:j0)(mg:Str->Option Value)(base:Heap):Prop where
 law_draw:Cal P w K mg base 1 "_law_draw" ["_law_pen_here","_law_many"] (conSp K cDraw)
noncomputable def cBox:Con:=λargs Q=>∃(a b c:Int) (sd:List Int),args=[.io (penD a b c),.fz (tupD sd)]/\0<=a/\0<=b/\0<=c/\Sd sd /\
 ∀(bx:Bxx) (a' b' c':Int) (o:Ev),Bx bx.1 bx.2 sd->0<=a'->0<=b'->0<=c'->Q (.fz (boxD bx)) (some (.io (penD a' b' c')) :: o)
theorem scBox:FnScope ["_law_pen_here","_law_sides_here","_law_way","_law_low","_law_high","_law_side","_law_ends"] ["_law_pen_here","_law_sides_here"] (defScope (top 41)):=⟨rfl,rfl,rfl,by decide +kernel,rfl,by decide +kernel,by decide +kernel⟩
theorem ok_box{f:Addr}{fd:FuncData}(F:Fun K "_law_box" "_law_box" (top 41) f fd)(T:Txt mg)(C:CalsBo P w K mg base):FnOk P w K mg base CX0 2 f fd ["_law_pen_here","_law_sides_here"] (conSp K cBox):=by
 have S:=scBox
 refine wfn F S (λcdv A outer s H E hr=>(s_cons (s_set (i:=2) S.nd rfl (Or.inl rfl) (w_fnI C.law_draw (hr.mono (by first|decide|omega)) (wa_cons (wn 0) (wa_cons (wx w_int) wa_nil))))
     (s_cons (s_set (i:=3) S.nd rfl (Or.inl rfl) (w_lst wa_nil))
     (s_cons (s_set (i:=4) S.nd rfl (Or.inl rfl) (w_lst wa_nil))
     (s_cons (s_for [5,6] PassesOwn.never rfl (i_seq rfl (wv 1)) (g_name (i:=5) S.nd rfl (Or.inl rfl)) (s_cons (s_set (i:=6) S.nd rfl (Or.inl rfl) (w_callB ok_sortI (call_sortIK rfl) T.sorted_ boot_sorted (wa_cons (wx (w_lst (wa_cons (wx (w_fnI C.law_draw (hr.mono (by first|decide|omega)) (wa_cons (wn 0) (wa_cons (wn 5) wa_nil)))) (wa_cons (wx (w_fnI C.law_draw (hr.mono (by first|decide|omega)) (wa_cons (wn 0) (wa_cons (wn 5) wa_nil)))) wa_nil)))) wa_nil)))
     (s_cons (s_if (t_cmp ok_eq (op_eqE (K:=K) rfl hr.units) (wn 2) (wx w_int)) (s_one (s_set (i:=6) S.nd rfl (Or.inl rfl) (w_lst (wa_cons (wx w_int) (wa_cons (wx (w_bin ok_sub op_sub (wn 5) (wx w_int))) wa_nil))))) s_nil)
     (s_cons (s_if (t_cmp ok_eq (op_eqE (K:=K) rfl hr.units) (wn 2) (wx w_int)) (s_one (s_set (i:=6) S.nd rfl (Or.inl rfl) (w_lst (wa_cons (wx (w_ix rfl (wn 6) (wx w_int))) (wa_cons (wx (w_ix rfl (wn 6) (wx w_int))) wa_nil))))) s_nil)
     (s_cons (s_expr (w_m ok_append rfl PySem.F.slot_list_append PySem.F.type_list_append mt_append (wn 3) (wa_cons (wx (w_ix rfl (wn 6) (wx w_int))) wa_nil)))
     (s_one (s_expr (w_m ok_append rfl PySem.F.slot_list_append PySem.F.type_list_append mt_append (wn 4) (wa_cons (wx (w_ix rfl (wn 6) (wx w_int))) wa_nil)))))))))
     (s_one (s_ret (w_tup (wa_cons (wx (w_callT ok_tuple (call_tupleK (K:=K) rfl) T.tuple_ boot_tuple (wa_cons (wn 3) wa_nil))) (wa_cons (wx (w_callT ok_tuple (call_tupleK (K:=K) rfl) T.tuple_ boot_tuple (wa_cons (wn 4) wa_nil))) wa_nil)))))))))) ?_ ?_
 ·rintro args Qd ⟨a,b,c,sd,rfl,_⟩;rfl
 ·rintro args Qd ⟨a,b,c,sd,rfl,ha,hb,hc,hsd,q⟩
  refine ⟨noOw_of rfl,?_⟩
  refine ⟨a,b,c,_,rfl,ha,hb,hc,by decide,by decide,λwy a1 b1 c1 _ w0 w1 ha1 hb1 hc1=>?_⟩
  refine loopC (λrest ρ=>∃(lo hi dn rs:List Int) (a b c:Int),ρ=[some (.io (penD a b c)),some (.fz (tupD sd)),some (.fz (.int wy)),some (.ow (.list (lo.map q0))),some (.ow (.list (hi.map q0))),none,none]/\rest=rs.map q0/\dn++rs=sd/\Bx lo hi dn/\0<=a/\0<=b/\0<=c) ?_ ?_
   ⟨[],[],[],sd,a1,b1,c1,rfl,rfl,rfl,trivial,ha1,hb1,hc1⟩
  ·rintro d ds ρ ⟨lo,hi,dn,rs,a,b,c,rfl,er,hds,hbx,ha,hb,hc⟩ N hN
   cases rs with
   | nil=>cases er
   | cons t rs =>
    cases er
    have ht:1<=t:=hsd.p t (by rw[<- hds];simp)
    have ht2:=le_prodI hsd.p t (by rw[<- hds];simp)
    have hm:=hsd.m
    have h3:=hsd.l3
    have hl:=bx_len hbx
    have hdn:dn.length<=3:=by have e:=congrArg x8 hds;simp at e;omega
    with_reducible refine gnC rfl ?_
    with_reducible refine cutS (λρ=>∃(u v a b c:Int),ρ=[some (.io (penD a b c)),some (.fz (tupD sd)),some (.fz (.int wy)),some (.ow (.list (lo.map q0))),some (.ow (.list (hi.map q0))),some (.fz (.int t)),some (.ow (.list [.int u,.int v]))]/\0<=u/\u<=v/\v < t/\0<=a/\0<=b/\0<=c) ?_ ?_
    ·intro M hM
     refine ⟨a,b,c,t,rfl,ha,hb,hc,by omega,by omega,λx a2 b2 c2 _ x0 x1 ha2 hb2 hc2=>?_⟩
     refine ⟨a2,b2,c2,t,rfl,ha2,hb2,hc2,by omega,by omega,λy a3 b3 c3 _ y0 y1 ha3 hb3 hc3=>?_⟩
     refine ⟨[x,y],rfl,by simp,λns hp hs=>?_⟩
     have hlen:ns.length=2:=hp.length_eq
     obtain⟨u,v,rfl⟩:∃u v,ns=[u,v]:=by
      rcases ns with _|⟨u,_|⟨v,_|⟨z,ns⟩⟩⟩<;>first|exact ⟨_,_,rfl⟩|(simp at hlen)
     have hu:u=x\/u=y:=by have:=hp.mem_iff.mp (M0 (a:=u) (l:=[v]));simpa using this
     have hv:v=x\/v=y:=by have:=hp.mem_iff.mp (show v∈[u,v] by simp);simpa using this
     have huv:u<=v:=by simpa using hs
     exact hM _ ⟨u,v,a3,b3,c3,rfl,by omega,huv,by omega,ha3,hb3,hc3⟩
    rintro _ ⟨u,v,a4,b4,c4,rfl,hu,huv,hv,ha4,hb4,hc4⟩
    with_reducible refine cutS (λρ=>∃(u v:Int),ρ=[some (.io (penD a4 b4 c4)),some (.fz (tupD sd)),some (.fz (.int wy)),some (.ow (.list (lo.map q0))),some (.ow (.list (hi.map q0))),some (.fz (.int t)),some (.ow (.list [.int u,.int v]))]/\0<=u/\u<=v/\v < t) ?_ ?_
    ·intro M hM
     refine ite2 (λ_=>?_) (λ_=>?_)
     ·exact hM _ ⟨0,t - 1,rfl,by omega,by omega,by omega⟩
     ·exact hM _ ⟨u,v,rfl,hu,huv,hv⟩
    clear hu huv hv u v
    rintro _ ⟨u,v,rfl,hu,huv,hv⟩
    with_reducible refine cutS (λρ=>∃(u v:Int),ρ=[some (.io (penD a4 b4 c4)),some (.fz (tupD sd)),some (.fz (.int wy)),some (.ow (.list (lo.map q0))),some (.ow (.list (hi.map q0))),some (.fz (.int t)),some (.ow (.list [.int u,.int v]))]/\0<=u/\u<=v/\v < t) ?_ ?_
    ·intro M hM
     refine ite2 (λ_=>?_) (λ_=>?_)
     ·exact ⟨_,rfl,_,rfl,hM _ ⟨u,u,rfl,hu,V3 _,by omega⟩⟩
     ·exact hM _ ⟨u,v,rfl,hu,huv,hv⟩
    clear hu huv hv u v
    rintro _ ⟨u,v,rfl,hu,huv,hv⟩
    refine ⟨_,rfl,by rw[A0];exact E3 (show lo.length<=3 by omega) (by decide),?_⟩
    refine ⟨_,rfl,by rw[A0];exact E3 (show hi.length<=3 by omega) (by decide),?_⟩
    exact hN _ ⟨lo++[u],hi++[v],dn++[t],rs,a4,b4,c4,by rw[j2,j2];rfl,rfl,by rw[<- hds];simp,bx_snoc hbx hu huv hv,ha4,hb4,hc4⟩
  ·rintro ρ ⟨lo,hi,dn,rs,a,b,c,rfl,er,hds,hbx,ha,hb,hc⟩
   cases rs with
   | cons t rs=>cases er
   | nil =>
    rw[S3]at hds
    subst hds
    exact q (lo,hi) a b c _ hbx ha hb hc
noncomputable def cIn:Con:=λargs Q=>∃(lo hi p:List Int),args=[.fz (boxD (lo,hi)),.fz (tupD p)]/\lo.length=p.length/\hi.length=p.length/\p.length<=3/\∀o,Q (.fz (.bool (inB lo p hi))) o
theorem scIn:FnScope ["_law_box_here","_law_place","_law_low","_law_number_here","_law_high"] ["_law_box_here","_law_place"] (defScope (top 42)):=⟨rfl,rfl,rfl,by decide +kernel,rfl,by decide +kernel,by decide +kernel⟩
theorem ok_in{f:Addr}{fd:FuncData}(F:Fun K "_law_in" "_law_in" (top 42) f fd)(T:Txt mg):FnOk P w K mg base CX0 1 f fd ["_law_box_here","_law_place"] (conSp K cIn):=by
 have S:=scIn
 refine wfn F S (λcdv A outer s H E hr=>(s_cons (s_for [2,3,4] PassesOwn.never rfl (i_zip3 rfl T.zip_ (wa_cons (wx (w_ix rfl (wn 0) (wx w_int))) (wa_cons (wn 1) (wa_cons (wx (w_ix rfl (wn 0) (wx w_int))) wa_nil)))) (g_tup rfl rfl (gs_cons (g_name (i:=2) S.nd rfl (Or.inl rfl)) (gs_cons (g_name (i:=3) S.nd rfl (Or.inl rfl)) (gs_cons (g_name (i:=4) S.nd rfl (Or.inl rfl)) gs_nil)))) (s_one (s_if (t_not (t_chain op_le op_le (wn 2) (wn 3) (wn 4))) (s_one (s_ret w_bl)) s_nil)))
     (s_one (s_ret w_bl)))) ?_ ?_
 ·rintro args Qd ⟨lo,hi,p,rfl,_⟩;rfl
 ·rintro args Qd ⟨lo,hi,p,rfl,h1,h2,h3,q⟩
  refine ⟨noOw_of rfl,?_⟩
  refine ⟨_,rfl,_,rfl,?_⟩
  refine loopC (λrest ρ=>∃(l x h:List Int),ρ=[some (.fz (boxD (lo,hi))),some (.fz (tupD p)),none,none,none]/\rest=zip3D (l.map q0) (x.map q0) (h.map q0)/\l.length=x.length/\h.length=x.length/\inB l x h=inB lo p hi) ?_ ?_
   ⟨lo,p,hi,rfl,rfl,h1,h2,rfl⟩
  ·rintro d ds ρ ⟨l,x,h,rfl,er,g1,g2,g3⟩ N hN
   rcases l with _|⟨l0,l⟩<;>rcases x with _|⟨x0,x⟩<;>rcases h with _|⟨h0,h⟩<;>first|(simp at g1;done)|(simp at g2;done)|(cases er;done)|skip
   cases er
   refine ⟨rfl,?_⟩
   have e:inB (l0 :: l) (x0 :: x) (h0 :: h)=((decide (l0<=x0)&&decide (x0<=h0))&&inB l x h):=rfl
   refine ite2 (λz1=>?_) (λz1=>?_)
   ·have z1:decide (l0<=x0)=true:=z1
    rw[e,z1,P2]at g3
    cases z2:decide (x0<=h0) with
    | true =>
     rw[z2,P2]at g3
     refine ite2 (λz=>?_) (λ_=>hN _ ⟨l,x,h,rfl,rfl,by simpa using g1,by simpa using g2,g3⟩)
     have z:(!decide (x0<=h0))=true:=z
     rw[z2]at z
     cases z
    | false =>
     rw[z2,U1]at g3
     rw[<- g3]at q
     refine ite2 (λ_=>q _) (λz=>?_)
     have z:¬(!decide (x0<=h0))=true:=z
     rw[z2]at z
     exact absurd rfl z
   ·have z1:¬decide (l0<=x0)=true:=z1
    rw[e,E1.mpr z1,U1,U1]at g3
    rw[<- g3]at q
    exact q _
  ·rintro ρ ⟨l,x,h,rfl,er,g1,g2,g3⟩
   rcases l with _|⟨l0,l⟩<;>rcases x with _|⟨x0,x⟩<;>rcases h with _|⟨h0,h⟩<;>first|(simp at g1;done)|(simp at g2;done)|(cases er;done)|skip
   have g3:true=inB lo p hi:=g3
   rw[<- g3]at q
   exact q _
noncomputable def cWa:Con:=λargs Q=>∃b:Bxx,args=[.fz (boxD b)]/\b.2.length=b.1.length/\b.1.length<=100/\∀o,Q (.ow (.list ((lws b).map q0))) o
theorem scWa:FnScope ["_law_box_here"] ["_law_box_here"] (defScope (top 46)):=⟨rfl,rfl,rfl,by decide +kernel,rfl,by decide +kernel,by decide +kernel⟩
theorem ok_wa{f:Addr}{fd:FuncData}(F:Fun K "_law_ways" "_law_ways" (top 46) f fd)(T:Txt mg):FnOk P w K mg base CX0 1 f fd ["_law_box_here"] (conSp K cWa):=by
 have S:=scWa
 refine wfn F S (λcdv A outer s H E hr=>(s_one (s_ret (w_comp rfl (own:=["_law_way"]) (fr:=[0]) (by kernel_rfl) (i_rng1 T.range_ (wa_cons (wx (w_callB ok_len (call_lenK (K:=K) rfl) T.len_ PySem.boot_len (wa_cons (wx (w_ix rfl (wn 0) (wx w_int))) wa_nil))) wa_nil)) (λ_ _ _ _=>(g_name (i:=0) (by decide +kernel:K3 (["_law_way","_law_box_here"]:List Str)) rfl (Or.inl rfl))) (λ_ _ _ _=>if1 (t_cmp ok_lt op_lt (wx (w_ix rfl (wx (w_ix rfl (wn 1) (wx w_int))) (wn 0))) (wx (w_ix rfl (wx (w_ix rfl (wn 1) (wx w_int))) (wn 0))))) (λ_ _ _ _=>(wv 0)))))) ?_ ?_
 ·rintro args Qd ⟨b,rfl,_⟩;rfl
 ·rintro args Qd ⟨b,rfl,hl,hn,q⟩
  refine ⟨noOw_of rfl,?_⟩
  have hm:(b.1.map q0).length=b.1.length:=A0 _
  refine ⟨_,rfl,by rw[hm];omega,by rw[hm];omega,by rw[rangeD,A0,List.length_range,hm];exact le_size (by omega),?_⟩
  refine filC (λd=>decide (b.1.getD (unI d).toNat 0 < b.2.getD (unI d).toNat 0)) id ?_ ?_
  ·intro d hd N M hN hM
   rw[rangeD]at hd
   obtain⟨k,hk,rfl⟩:=U0.mp hd
   have hk:=Y2.mp hk
   rw[hm]at hk
   have hk:k < b.1.length:=by omega
   have e0:(0+(k:Int))=(k:Int):=by omega
   rw[e0]at hN hM ⊢
   have ek:(unI (.int (k:Int))).toNat=k:=by show (k:Int).toNat=k;omega
   simp only[ek]at hN hM
   refine ⟨_,rfl,_,at_ints hk,_,rfl,_,at_ints (by omega),ite2 (λh=>hN h) (λh=>hM (E1.mpr h))⟩
  have e:((rangeD 0 ((b.1.map q0).length:Int).toNat).filter λd=>decide (b.1.getD (unI d).toNat 0 < b.2.getD (unI d).toNat 0)).map id=(lws b).map q0:=by
   unfold lws
   rw[y8,rangeD,hm,x6,show ((b.1.length:Int)).toNat=b.1.length by omega,T1]
   have e:(A2 b.1.length).filter ((λd=>decide (b.1.getD (unI d).toNat 0 < b.2.getD (unI d).toNat 0)) ∘ λ(i:Nat)=>q0 (0+i))=(A2 b.1.length).filter λi=>decide (b.1.getD i 0 < b.2.getD i 0):=by
    refine Z6 λk _=>?_
    show decide (b.1.getD (0+(k:Int)).toNat 0 < b.2.getD (0+(k:Int)).toNat 0)=_
    rw[show (0+(k:Int)).toNat=k by omega]
   rw[e]
   refine N5 λk _=>?_
   show q0 (0+(k:Int))=q0 (k:Int)
   rw[Int.zero_add]
  rw[e]
  exact q _
noncomputable def cCut:Con:=λargs Q=>∃(b:Bxx) (w a:Int),args=[.fz (boxD b),.fz (.int w),.fz (.int a)]/\0<=w/\w < b.1.length/\b.2.length=b.1.length/\b.1.length<=3/\∀o,Q (.fz (.tuple [boxD (bxL b w a),boxD (bxR b w a)])) o
theorem scCut:FnScope ["_law_box_here","_law_way","_law_at","_law_low","_law_high"] ["_law_box_here","_law_way","_law_at"] (defScope (top 45)):=⟨rfl,rfl,rfl,by decide +kernel,rfl,by decide +kernel,by decide +kernel⟩
theorem ok_cut{f:Addr}{fd:FuncData}(F:Fun K "_law_cut" "_law_cut" (top 45) f fd):FnOk P w K mg base CX0 1 f fd ["_law_box_here","_law_way","_law_at"] (conSp K cCut):=by
 have S:=scCut
 refine wfn F S (λcdv A outer s H E hr=>(s_cons (s_asgG (wv 0) (g_tup rfl rfl (gs_cons (g_name (i:=3) S.nd rfl (Or.inl rfl)) (gs_cons (g_name (i:=4) S.nd rfl (Or.inl rfl)) gs_nil))))
     (s_one (s_ret (w_tup (wa_cons (wx (w_tup (wa_cons (wx (wv 3)) (wa_cons (wx (w_bin ok_add op_addD (wx (w_bin ok_add op_addD (wx (w_sl2T rfl (wn 4) (wn 1))) (wx (w_tup (wa_cons (wx (wv 2)) wa_nil))))) (wx (w_sl1T rfl (wn 4) (wx (w_bin ok_add op_addD (wn 1) (wx w_int))))))) wa_nil)))) (wa_cons (wx (w_tup (wa_cons (wx (w_bin ok_add op_addD (wx (w_bin ok_add op_addD (wx (w_sl2T rfl (wn 3) (wn 1))) (wx (w_tup (wa_cons (wx (w_bin ok_add op_addD (wn 2) (wx w_int))) wa_nil))))) (wx (w_sl1T rfl (wn 3) (wx (w_bin ok_add op_addD (wn 1) (wx w_int))))))) (wa_cons (wx (wv 4)) wa_nil)))) wa_nil))))))) ?_ ?_
 ·rintro args Qd ⟨b,w,a,rfl,_⟩;rfl
 ·rintro args Qd ⟨b,w,a,rfl,h0,h1,h2,h3,q⟩
  refine ⟨noOw_of rfl,?_⟩
  have e1:(b.1.set w.toNat (b.1.getD w.toNat 0))=b.1:=set_self (by omega)
  have e2:(b.2.set w.toNat (b.2.getD w.toNat 0))=b.2:=set_self (by omega)
  have ct:∀(l:List Int) (x:Int),w.toNat < l.length->(l.map q0).take w.toNat++[q0 x]++(l.map q0).drop (w+1).toNat=(l.set w.toNat x).map q0:=λl x hl=>by
   rw[show (w+1).toNat=w.toNat+1 by omega,<- set_cut l hl x]
   simp[Y7,Z7]
  have q2:∀o,Qd (.fz (.tuple [.tuple [tupD b.1,.tuple ((b.2.map q0).take w.toNat++[q0 a]++(b.2.map q0).drop (w+1).toNat)],.tuple [.tuple ((b.1.map q0).take w.toNat++[q0 (a+1)]++(b.1.map q0).drop (w+1).toNat),tupD b.2]])) o:=by
   rw[ct _ _ (by omega),ct _ _ (by omega)]
   unfold bxL bxR bset at q
   simp only[e1,e2]at q
   exact q
  refine ⟨rfl,?_⟩
  refine ⟨h0,le_size (by simp;omega),by show (0:Int)<=w+1;omega,le_size (by simp;omega),?_⟩
  exact ⟨h0,le_size (by simp;omega),by show (0:Int)<=w+1;omega,le_size (by simp;omega),q2 _⟩
structure CalsSl(P:Program)(w:World)(K:j0)(mg:Str->Option Value)(base:Heap):Prop where
 law_draw:Cal P w K mg base 1 "_law_draw" ["_law_pen_here","_law_many"] (conSp K cDraw)
noncomputable def cSlack:Con:=λargs Q=>∃(a b c t l h:Int) (m:Bool),args=[.io (penD a b c),.fz (tupD [t,l,h]),.fz (.bool m)]/\0<=a/\0<=b/\0<=c /\
 ∀(x y a' b' c':Int) (o:Ev),0<=x->x<=2->0<=y->y<=20->(m=false->x=0/\y=0)->0<=a'->0<=b'->0<=c'->Q (.fz (tupD [t,l - x,h+y])) (some (.io (penD a' b' c')) :: o)
theorem scSlack:FnScope ["_law_pen_here","_law_claim","_law_much","_law_less","_law_more"] ["_law_pen_here","_law_claim","_law_much"] (defScope (top 47)):=⟨rfl,rfl,rfl,by decide +kernel,rfl,by decide +kernel,by decide +kernel⟩
theorem ok_slack{f:Addr}{fd:FuncData}(F:Fun K "_law_slack" "_law_slack" (top 47) f fd)(C:CalsSl P w K mg base):FnOk P w K mg base CX0 2 f fd ["_law_pen_here","_law_claim","_law_much"] (conSp K cSlack):=by
 have S:=scSlack
 refine wfn F S (λcdv A outer s H E hr=>(s_cons (s_if (t_not (t_val (wv 2))) (s_one (s_retV (wn 1))) s_nil)
     (s_cons (s_set (i:=3) S.nd rfl (Or.inl rfl) (w_fnI C.law_draw (hr.mono (by first|decide|omega)) (wa_cons (wn 0) (wa_cons (wx w_int) wa_nil))))
     (s_cons (s_set (i:=4) S.nd rfl (Or.inl rfl) (w_bin ok_mul op_mulD (wx (w_fnI C.law_draw (hr.mono (by first|decide|omega)) (wa_cons (wn 0) (wa_cons (wx w_int) wa_nil)))) (wx (w_bin ok_add op_addD (wx w_int) (wx (w_bin ok_mul op_mulD (wx w_int) (wx (w_fnI C.law_draw (hr.mono (by first|decide|omega)) (wa_cons (wn 0) (wa_cons (wx w_int) wa_nil))))))))))
     (s_one (s_ret (w_tup (wa_cons (wx (w_ix rfl (wn 1) (wx w_int))) (wa_cons (wx (w_bin ok_sub op_sub (wx (w_ix rfl (wn 1) (wx w_int))) (wn 3))) (wa_cons (wx (w_bin ok_add op_addD (wx (w_ix rfl (wn 1) (wx w_int))) (wn 4))) wa_nil)))))))))) ?_ ?_
 ·rintro args Qd ⟨a,b,c,t,l,h,m,rfl,_⟩;rfl
 ·rintro args Qd ⟨a,b,c,t,l,h,m,rfl,ha,hb,hc,q⟩
  refine ⟨noOw_of rfl,?_⟩
  cases m with
  | false =>
   have:=q 0 0 a b c
   rw[o8,r8]at this
   exact this _ (by decide) (by decide) (by decide) (by decide) (λ_=>⟨rfl,rfl⟩) ha hb hc
  | true =>
   refine ⟨a,b,c,_,rfl,ha,hb,hc,by decide,by decide,λx a1 b1 c1 _ x0 x1 ha1 hb1 hc1=>?_⟩
   refine ⟨a1,b1,c1,_,rfl,ha1,hb1,hc1,by decide,by decide,λy a2 b2 c2 _ y0 y1 ha2 hb2 hc2=>?_⟩
   refine ⟨a2,b2,c2,_,rfl,ha2,hb2,hc2,by decide,by decide,λz a3 b3 c3 _ z0 z1 ha3 hb3 hc3=>?_⟩
   refine ⟨.inl ⟨by decide,by decide⟩,.inl ⟨by omega,by omega⟩,?_⟩
   refine ⟨_,rfl,_,rfl,_,rfl,?_⟩
   have hz:z=0\/z=1:=by omega
   refine q x (y * (1+9 * z)) a3 b3 c3 _ x0 (by omega) ?_ ?_ (λh=>by cases h) ha3 hb3 hc3
   ·rcases hz with rfl|rfl<;>omega
   ·rcases hz with rfl|rfl<;>omega
end
theorem joinS(sep:Str):∀ts:List Str,(Str.join sep ts).length<=(ts.map λt=>t.length+sep.length).sum
 | []=>by simp[Str.join,Str.length,Str.empty]
 | [x]=>by show x.length<=_;simp
 | x :: y :: r=>by
  have h2:=joinS sep (y :: r)
  show (x++sep++Str.join sep (y :: r)).length<=_
  rw[Str.length_append,Str.length_append,K1,V2]
  omega
theorem shown_tupS(l:List PyData):(K2 l).shown.length<=(l.map λd=>d.shown.length+2).sum+3:=by
 show (tupleText (P5 l)).length<=_
 rw[shownAll_map]
 have hj:=joinS (Str.ofString ", ") (l.map Z4)
 rw[T1,len_ofString,show (", ":String).length=2 by decide]at hj
 unfold tupleText
 rw[Str.length_append,Str.length_append,len_ofString,len_ofString]
 have e1:("(":String).length=1:=by decide
 have e3:(if (((l.map Z4).length==1)=true) then ",)" else ")":String).length<=2:=by split<;>decide
 have hj:(Str.join (Str.ofString ", ") (l.map Z4)).length<=(l.map λd=>d.shown.length+2).sum:=hj
 omega
noncomputable def Pp.lv:Pp->Nat
 | .cell _ _ _=>1
 | .cut _ _ _ _ _ p q=>p.lv+q.lv
noncomputable def Pp.sm:Pp->Prop
 | .cell t l h=>∀x∈[t,l,h],x.natAbs < 10 ^ 40
 | .cut t l h w a p q=>(∀x∈[t,l,h,w,a],x.natAbs < 10 ^ 40)/\p.sm/\q.sm
noncomputable def Pp.tg:Pp->Prop
 | .cell t l h=>l=t/\h=t
 | .cut t l h _ _ p q=>[t,l,h]=comb p.cl q.cl/\p.tg/\q.tg
theorem Pp.lv1(p:Pp):1<=p.lv:=by
 induction p with
 | cell=>exact N0 _
 | cut t l h w a p q ih1 ih2=>show 1<=p.lv+q.lv;omega
theorem Pp.szl(p:Pp):p.sz+1=2 * p.lv:=by
 induction p with
 | cell=>rfl
 | cut t l h w a p q ih1 ih2=>show 1+p.sz+q.sz+1=2 * (p.lv+q.lv);omega
theorem nice_word:Nice 0 (.str "cell")/\Nice 0 (.str "cut"):=by
 constructor<;>exact ⟨rfl,by rw[L6];decide +kernel,by simp[v7]⟩
theorem Pp.nice(p:Pp):Nice (p.lv+1) (pD p):=by
 induction p with
 | cell t l h =>
  refine Nice.tuple λd hd=>?_
  have hd:d=.str "cell"\/d=tupD [t,l,h]:=by simpa using hd
  rcases hd with rfl|rfl
  ·exact nice_word.1.mono (B4 _)
  ·exact Nice.tup _
 | cut t l h w a p q ih1 ih2 =>
  have h1:=p.lv1
  have h2:=q.lv1
  refine Nice.mono (n:=max (p.lv+1) (q.lv+1)+1) (Nice.tuple λd hd=>?_) (by show _<=p.lv+q.lv+1;omega)
  have hd:d=.str "cut"\/d=tupD [t,l,h]\/d=.int w\/d=.int a\/d=pD p\/d=pD q:=by simpa using hd
  rcases hd with rfl|rfl|rfl|rfl|rfl|rfl
  ·exact nice_word.2.mono (by omega)
  ·exact (Nice.tup _).mono (by omega)
  ·exact Nice.int _ _
  ·exact Nice.int _ _
  ·exact ih1.mono (by omega)
  ·exact ih2.mono (by omega)
theorem shown_one{x:Int}(h:x.natAbs < 10 ^ 40):(q0 x).shown.length<=41:=shown_int (by decide) h
theorem showable_one{x:Int}(h:x.natAbs < 10 ^ 40):(q0 x).showable=true:=showable_int (k:=200) (J5 h (by decide +kernel)) (by decide)
theorem shown_cl{t l h:Int}(hx:∀x∈[t,l,h],x.natAbs < 10 ^ 40):(tupD [t,l,h]).shown.length<=140/\(tupD [t,l,h]).showable=true:=by
 constructor
 ·have:=shown_tupS ([t,l,h].map q0)
  have h1:=shown_one (hx t (by simp))
  have h2:=shown_one (hx l (by simp))
  have h3:=shown_one (hx h (by simp))
  simp only[K1,O3,V2,G6]at this
  show (K2 ([t,l,h].map q0)).shown.length<=140
  simp only[K1,O3]
  omega
 ·refine showableAll_of (l:=[t,l,h].map q0) λd hd=>?_
  obtain⟨x,hx',rfl⟩:=U0.mp hd
  exact showable_one (hx x hx')
theorem len_word:(PyData.str "cell").shown.length=6/\(PyData.str "cut").shown.length=5:=by
 constructor<;>(rw[Z4];decide +kernel)
theorem Pp.shows(p:Pp)(h:p.sm):(pD p).showable=true/\(pD p).shown.length+250<=500 * p.lv:=by
 induction p with
 | cell t l hh =>
  have hc:=shown_cl h
  refine ⟨showableAll_of (l:=[.str "cell",tupD [t,l,hh]]) λd hd=>?_,?_⟩
  ·have hd:d=.str "cell"\/d=tupD [t,l,hh]:=by simpa using hd
   rcases hd with rfl|rfl
   ·rfl
   ·exact hc.2
  ·have:=shown_tupS [.str "cell",tupD [t,l,hh]]
   have e:=len_word.1
   simp only[K1,O3,V2,G6]at this
   show (K2 [.str "cell",tupD [t,l,hh]]).shown.length+250<=500 * 1
   have h2:=hc.1
   simp only[tupD,K1,O3]at this h2 ⊢
   omega
 | cut t l hh w a p q ih1 ih2 =>
  obtain⟨h0,h1,h2⟩:=h
  obtain⟨g1,g2⟩:=ih1 h1
  obtain⟨g3,g4⟩:=ih2 h2
  have hc:=shown_cl (t:=t) (l:=l) (h:=hh) λx hx=>h0 x (by simp at hx ⊢;omega)
  have hw:=h0 w (by simp)
  have ha:=h0 a (by simp)
  refine ⟨showableAll_of (l:=[.str "cut",tupD [t,l,hh],.int w,.int a,pD p,pD q]) λd hd=>?_,?_⟩
  ·have hd:d=.str "cut"\/d=tupD [t,l,hh]\/d=.int w\/d=.int a\/d=pD p\/d=pD q:=by simpa using hd
   rcases hd with rfl|rfl|rfl|rfl|rfl|rfl
   ·rfl
   ·exact hc.2
   ·exact showable_one hw
   ·exact showable_one ha
   ·exact g1
   ·exact g3
  ·have:=shown_tupS [.str "cut",tupD [t,l,hh],.int w,.int a,pD p,pD q]
   have e:=len_word.2
   have e1:=shown_one hw
   have e2:=shown_one ha
   have e3:=hc.1
   have e4:=p.lv1
   have e5:=q.lv1
   simp only[K1,O3,V2,G6]at this
   show (K2 [.str "cut",tupD [t,l,hh],.int w,.int a,pD p,pD q]).shown.length+250<=500 * (p.lv+q.lv)
   simp only[tupD,K1,O3]at this e3 ⊢
   omega
theorem cels_cut{sd cl:List Int}{b:Bxx}{w a:Int}(hb:Bx b.1 b.2 sd)(h:cutB b w a=true):(cels sd cl b.1 b.2).Perm (cels sd cl (bxL b w a).1 (bxL b w a).2++cels sd cl (bxR b w a).1 (bxR b w a).2):=by
 obtain⟨h1,h2,h3,h4⟩:=cutB_is h
 have hl:=bx_len hb
 have e1:b.1[w.toNat]?=some (b.1.getD w.toNat 0):=by rw[Q0,J0 (by omega)];rfl
 have e2:b.2[w.toNat]?=some (b.2.getD w.toNat 0):=by rw[Q0,J0 (by omega)];rfl
 exact cels_perm hb e1 e2 h3 h4 (bxL_bx hb h) (bxR_bx hb h)
theorem okP_cut{sd cl:List Int}{b:Bxx}{t l h w a:Int}{p q:Pp}(hk:okP sd cl b (.cut t l h w a p q)=true):cutB b w a=true/\letB [t,l,h] (comb p.cl q.cl)=true/\okP sd cl (bxL b w a) p=true/\okP sd cl (bxR b w a) q=true:=by
 have hk:(cutB b w a&&(letB [t,l,h] (comb p.cl q.cl)&&(okP sd cl (bxL b w a) p&&okP sd cl (bxR b w a) q)))=true:=hk
 simp only[Y0]at hk
 exact ⟨hk.1,hk.2.1,hk.2.2.1,hk.2.2.2⟩
theorem okP_cell{sd cl:List Int}{b:Bxx}{t l h:Int}(hk:okP sd cl b (.cell t l h)=true):b.1=b.2/\t=cel sd cl b.1/\l<=cel sd cl b.1/\cel sd cl b.1<=h:=by
 have hk:(decide (b.1=b.2)&&(decide (t=cel sd cl b.1)&&(decide (l<=cel sd cl b.1)&&decide (cel sd cl b.1<=h))))=true:=hk
 simp only[Y0,decide_eq_true_eq]at hk
 exact ⟨hk.1,hk.2.1,hk.2.2.1,hk.2.2.2⟩
theorem cels_one{sd cl:List Int}{b:Bxx}(h:b.1=b.2):cels sd cl b.1 b.2=[cel sd cl b.1]:=by
 rw[<- h]
 unfold cels btw
 rw[btw_self b.1 []]
 rfl
theorem okP_sum{sd cl:List Int}(p:Pp):∀{b:Bxx},Bx b.1 b.2 sd->okP sd cl b p=true->p.cl.getD 0 0=(cels sd cl b.1 b.2).sum/\p.lv=(cels sd cl b.1 b.2).length:=by
 induction p with
 | cell t l h =>
  intro b hb hk
  obtain⟨h1,h2,_⟩:=okP_cell hk
  rw[cels_one h1]
  exact ⟨by show t=_;rw[h2];simp,rfl⟩
 | cut t l h w a p q ih1 ih2 =>
  intro b hb hk
  obtain⟨h1,h2,h3,h4⟩:=okP_cut hk
  obtain⟨g1,g2⟩:=ih1 (bxL_bx hb h1) h3
  obtain⟨g3,g4⟩:=ih2 (bxR_bx hb h1) h4
  have hp:=cels_cut (cl:=cl) hb h1
  have h2:(decide (t=p.cl.getD 0 0+q.cl.getD 0 0)&&_)=true:=h2
  have h2:=of_decide_eq_true (Bool.and_eq_true_iff.mp h2).1
  refine ⟨?_,?_⟩
  ·show t=_
   rw[perm_sum hp,List.sum_append,h2,g1,g3]
  ·rw[hp.length_eq,Z0,<- g2,<- g4]
   rfl
noncomputable def fst1:PyData->List Int
 | .tuple (.tuple ds :: _)=>ds.map unI
 | _=>[]
noncomputable def snd1:PyData->PyData
 | .tuple [_,d]=>d
 | _=>.none
section
variable {P:Program}{w:World}{K:j0}{mg:Str->Option Value}{base:Heap}
structure CalsPr(P:Program)(w:World)(K:j0)(mg:Str->Option Value)(base:Heap):Prop where
 law_places:Cal P w K mg base 1 "_law_places" ["_law_sides_here"] (conSp K cPlaces)
 law_in:Cal P w K mg base 1 "_law_in" ["_law_box_here","_law_place"] (conSp K cIn)
noncomputable def cPart:Con:=λargs Q=>∃(sd cl:List Int) (b:Bxx),args=[.fz (tupD sd),.fz (liD cl),.fz (boxD b)]/\Sd sd/\cl.length=(plc sd).length/\Bx b.1 b.2 sd/\∀o,Q (.ow (liD (cels sd cl b.1 b.2))) o
theorem scPart:FnScope ["_law_sides_here","_law_numbers","_law_box_here"] ["_law_sides_here","_law_numbers","_law_box_here"] (defScope (top 43)):=⟨rfl,rfl,rfl,by decide +kernel,rfl,by decide +kernel,by decide +kernel⟩
theorem ok_part{f:Addr}{fd:FuncData}(F:Fun K "_law_part" "_law_part" (top 43) f fd)(T:Txt mg)(C:CalsPr P w K mg base):FnOk P w K mg base CX0 2 f fd ["_law_sides_here","_law_numbers","_law_box_here"] (conSp K cPart):=by
 have S:=scPart
 refine wfn F S (λcdv A outer s H E hr=>(s_one (s_ret (w_comp rfl (own:=["_law_place","_law_number_here"]) (fr:=[2]) (by kernel_rfl) (i_zip2 rfl T.zip_ (wa_cons (wx (w_fn C.law_places (hr.mono (by first|decide|omega)) (wa_cons (wn 0) wa_nil))) (wa_cons (wx (wv 1)) wa_nil))) (λ_ _ _ _=>(g_tup rfl rfl (gs_cons (g_name (i:=0) (by decide +kernel:K3 (["_law_place","_law_number_here","_law_box_here"]:List Str)) rfl (Or.inl rfl)) (gs_cons (g_name (i:=1) (by decide +kernel:K3 (["_law_place","_law_number_here","_law_box_here"]:List Str)) rfl (Or.inl rfl)) gs_nil)))) (λ_ _ _ _=>if1 (t_val (w_fn C.law_in (hr.mono (by first|decide|omega)) (wa_cons (wn 2) (wa_cons (wn 0) wa_nil))))) (λ_ _ _ _=>(wv 1)))))) ?_ ?_
 ·rintro args Qd ⟨sd,cl,b,rfl,_⟩;rfl
 ·rintro args Qd ⟨sd,cl,b,rfl,hsd,hcl,hb,q⟩
  refine ⟨noOw_of rfl,?_⟩
  have hm:=hsd.m
  have hpl:=plc_len hsd.p
  have hbl:=bx_len hb
  have h3:=hsd.l3
  refine ⟨sd,rfl,hsd,λo=>?_⟩
  have ez:zipD ((plc sd).map tupD) (cl.map q0)=((plc sd).zip cl).map λr=>K2 [tupD r.1,.int r.2]:=by
   rw[zipD,List.zip_map,T1];rfl
  refine ⟨by rw[ez,A0,u5];exact le_size (by omega),?_⟩
  rw[ez]
  refine filC (λd=>inB b.1 (fst1 d) b.2) snd1 ?_ ?_
  ·intro d hd N M hN hM
   obtain⟨⟨p,x⟩,hr,rfl⟩:=U0.mp hd
   have hp:=wi_len (plc_wi (N4 hr).1)
   have e:fst1 (.tuple [tupD p,.int x])=p:=unI_int p
   simp only[e]at hN hM
   refine ⟨rfl,b.1,b.2,p,rfl,by omega,by omega,by omega,λo=>?_⟩
   exact ite2 (λh=>hN h) (λh=>hM (E1.mpr h))
  ·have e:((((plc sd).zip cl).map λr=>K2 [tupD r.1,.int r.2]).filter λd=>inB b.1 (fst1 d) b.2).map snd1=(win sd cl b.1 b.2).map q0:=by
    unfold win
    rw[x6,T1,T1]
    have e2:((plc sd).zip cl).filter ((λd=>inB b.1 (fst1 d) b.2) ∘ λr=>K2 [tupD r.1,.int r.2])=((plc sd).zip cl).filter λr=>inB b.1 r.1 b.2:=by
     refine Z6 λr _=>?_
     show inB b.1 (fst1 (.tuple [tupD r.1,.int r.2])) b.2=_
     rw[show fst1 (.tuple [tupD r.1,.int r.2])=r.1 from unI_int r.1]
    rw[e2]
    rfl
   rw[e,win_cels hsd.p hcl hb]
   exact q _
noncomputable def cCell:Con:=λargs Q=>∃sd cl p:List Int,args=[.fz (tupD sd),.fz (liD cl),.fz (tupD p)]/\Sd sd/\cl.length=(plc sd).length/\Wi p sd/\∀o,Q (.fz (.int (cel sd cl p))) o
theorem scCell:FnScope ["_law_sides_here","_law_numbers","_law_place","_law_at","_law_side","_law_number_here"] ["_law_sides_here","_law_numbers","_law_place"] (defScope (top 44)):=⟨rfl,rfl,rfl,by decide +kernel,rfl,by decide +kernel,by decide +kernel⟩
theorem ok_cell{f:Addr}{fd:FuncData}(F:Fun K "_law_cell" "_law_cell" (top 44) f fd)(T:Txt mg):FnOk P w K mg base CX0 1 f fd ["_law_sides_here","_law_numbers","_law_place"] (conSp K cCell):=by
 have S:=scCell
 refine wfn F S (λcdv A outer s H E hr=>(s_cons (s_set (i:=3) S.nd rfl (Or.inl rfl) w_int)
     (s_cons (s_for [4,5] PassesOwn.never rfl (i_zip2 rfl T.zip_ (wa_cons (wn 0) (wa_cons (wn 2) wa_nil))) (g_tup rfl rfl (gs_cons (g_name (i:=4) S.nd rfl (Or.inl rfl)) (gs_cons (g_name (i:=5) S.nd rfl (Or.inl rfl)) gs_nil))) (s_one (s_set (i:=3) S.nd rfl (Or.inl rfl) (w_bin ok_add op_addD (wx (w_bin ok_mul op_mulD (wn 3) (wn 4))) (wn 5)))))
     (s_one (s_ret (w_ix rfl (wn 1) (wn 3))))))) ?_ ?_
 ·rintro args Qd ⟨sd,cl,p,rfl,_⟩;rfl
 ·rintro args Qd ⟨sd,cl,p,rfl,hsd,hcl,hp,q⟩
  refine ⟨noOw_of rfl,?_⟩
  have hm:=hsd.m
  have hpl:=plc_len hsd.p
  have hi:=idx_nn hp
  refine loopC (λrest ρ=>∃(i:Int) (rs:List (Int×Int)),ρ=[some (.fz (tupD sd)),some (.fz (liD cl)),some (.fz (tupD p)),some (.fz (.int i)),none,none]/\rest=rs.map (λp=>K2 [.int p.1,.int p.2])/\(∀r∈rs,r∈sd.zip p)/\rs.foldl (λi p=>i * p.1+p.2) i=idx sd p) ?_ ?_
   ⟨0,sd.zip p,rfl,zipD_ints _ _,λ_ h=>h,rfl⟩
  ·rintro d ds ρ ⟨i,rs,rfl,er,hin,hf⟩ N hN
   cases rs with
   | nil=>cases er
   | cons r rs =>
    cases er
    have h1:=(N4 (hin r M0)).1
    have h2:=hsd.p r.1 h1
    have h3:=le_prodI hsd.p r.1 h1
    exact ⟨rfl,.inr ⟨by omega,by omega⟩,hN _ ⟨i * r.1+r.2,rs,rfl,rfl,λx hx=>hin x (G0 _ hx),hf⟩⟩
  ·rintro ρ ⟨i,rs,rfl,er,hin,hf⟩
   cases rs with
   | nil =>
    have hf:i=idx sd p:=hf
    subst hf
    obtain⟨n,hn⟩:=T2 hi.1
    have hnl:n < cl.length:=by omega
    refine ⟨.int (cel sd cl p),?_,q _⟩
    unfold cel
    rw[hn]
    exact at_ints hnl
   | cons _ _=>cases er
end
noncomputable def ex:List Int->List Int->Nat
 | x :: lo,y :: hi=>(y - x).toNat+ex lo hi
 | _,_=>0
theorem ex_set:∀{lo hi:List Int}{i:Nat}{x y:Int},i < lo.length->i < hi.length->ex (lo.set i x) (hi.set i y)+(hi.getD i 0 - lo.getD i 0).toNat=ex lo hi+(y - x).toNat
 | a :: lo,b :: hi,0,x,y,_,_=>by
  show (y - x).toNat+ex lo hi+(b - a).toNat=(b - a).toNat+ex lo hi+(y - x).toNat
  omega
 | a :: lo,b :: hi,i+1,x,y,h1,h2=>by
  have:=ex_set (lo:=lo) (hi:=hi) (i:=i) (x:=x) (y:=y) (by simpa using h1) (by simpa using h2)
  show (b - a).toNat+ex (lo.set i x) (hi.set i y)+(hi.getD i 0 - lo.getD i 0).toNat=(b - a).toNat+ex lo hi+(y - x).toNat
  omega
 | [],_,_,_,_,h,_=>by simp at h
 | _ :: _,[],_,_,_,_,h=>by simp at h
theorem ex_le:∀{lo hi sd:List Int},Bx lo hi sd->(ex lo hi:Int)+1<=prodI sd
 | [],[],[],_=>by decide
 | x :: lo,y :: hi,s :: sd,h=>by
  have ih:=ex_le h.2
  have h1:=h.1
  show (((y - x).toNat+ex lo hi:Nat):Int)+1<=s * prodI sd
  obtain⟨k,hk⟩:∃k,prodI sd=k+1:=⟨prodI sd - 1,by omega⟩
  obtain⟨m,hm⟩:∃m,s=m+1:=⟨s - 1,by omega⟩
  have h2:0<=m * k:=Int.mul_nonneg (by omega) (by omega)
  rw[hk,hm,Int.add_mul,Int.mul_add]
  omega
 | [],[],_ :: _,h=>h.elim
 | [],_ :: _,z,h=>by cases z<;>exact h.elim
 | _ :: _,[],z,h=>by cases z<;>exact h.elim
 | _ :: _,_ :: _,[],h=>h.elim
theorem ex_cut{b:Bxx}{w a:Int}(hl:b.2.length=b.1.length)(h:cutB b w a=true):ex (bxL b w a).1 (bxL b w a).2 < ex b.1 b.2/\ex (bxR b w a).1 (bxR b w a).2 < ex b.1 b.2:=by
 obtain⟨h1,h2,h3,h4⟩:=cutB_is h
 have e1:=ex_set (lo:=b.1) (hi:=b.2) (i:=w.toNat) (x:=b.1.getD w.toNat 0) (y:=a) (by omega) (by omega)
 have e2:=ex_set (lo:=b.1) (hi:=b.2) (i:=w.toNat) (x:=a+1) (y:=b.2.getD w.toNat 0) (by omega) (by omega)
 exact ⟨by show ex (b.1.set w.toNat (b.1.getD w.toNat 0)) (b.2.set w.toNat a) < _;omega,by show ex (b.1.set w.toNat (a+1)) (b.2.set w.toNat (b.2.getD w.toNat 0)) < _;omega⟩
structure Made(sd cl:List Int)(b:Bxx)(tight:Bool)(p:Pp):Prop where
 ok:okP sd cl b p=true
 sm:p.sm
 tg:tight=true->p.tg
 bd:∀x∈p.cl,x.natAbs<=p.lv * 10 ^ 28
theorem big_abs{x:Int}(h:Big x):x.natAbs < 10 ^ 27:=by
 obtain⟨h1,h2⟩:=h
 omega
theorem cel_big{sd cl:List Int}(hB:∀x∈cl,Big x)(p:List Int):Big (cel sd cl p):=by
 unfold cel
 rw[Q0]
 cases e:cl[(idx sd p).toNat]? with
 | none=>exact ⟨by decide,by decide⟩
 | some v=>exact hB v (Q1 e)
theorem made_cell{sd cl:List Int}{b:Bxx}{tight:Bool}{x y:Int}(hB:∀x∈cl,Big x)(h:b.1=b.2)(x0:0<=x)(x2:x<=2)(y0:0<=y)(y2:y<=20)(ht:tight=true->x=0/\y=0) :
  Made sd cl b tight (.cell (cel sd cl b.1) (cel sd cl b.1 - x) (cel sd cl b.1+y)):=by
 have hb:=big_abs (cel_big (sd:=sd) hB b.1)
 refine ⟨?_,?_,?_,?_⟩
 ·show (decide (b.1=b.2)&&letB [cel sd cl b.1,cel sd cl b.1 - x,cel sd cl b.1+y] [cel sd cl b.1,cel sd cl b.1,cel sd cl b.1])=true
  generalize cel sd cl b.1=v
  rw[decide_eq_true h,P2]
  show (decide (v=v)&&(decide (v - x<=v)&&decide (v<=v+y)))=true
  rw[decide_eq_true rfl,decide_eq_true (by omega),decide_eq_true (by omega)]
  rfl
 ·intro z hz
  generalize cel sd cl b.1=v at hb hz
  have hz:z=v\/z=v - x\/z=v+y:=by simpa using hz
  omega
 ·intro t
  obtain⟨rfl,rfl⟩:=ht t
  exact ⟨o8 _,r8 _⟩
 ·intro z hz
  generalize cel sd cl b.1=v at hb hz
  have hz:z=v\/z=v - x\/z=v+y:=by simpa [Pp.cl]using hz
  show z.natAbs<=1 * 10 ^ 28
  omega
theorem cl_is(p:Pp):∃t l h,p.cl=[t,l,h]:=by cases p<;>exact ⟨_,_,_,rfl⟩
theorem made_cut{sd cl:List Int}{b:Bxx}{tight:Bool}{w a x y:Int}{p q:Pp}(hc:cutB b w a=true)(hb:Bx b.1 b.2 sd)(hsd:Sd sd)(m1:Made sd cl (bxL b w a) tight p)(m2:Made sd cl (bxR b w a) tight q)(hlp:p.lv<=120)(hlq:q.lv<=120)(x0:0<=x)(x2:x<=2)(y0:0<=y)(y2:y<=20)(ht:tight=true->x=0/\y=0) :
  Made sd cl b tight (.cut (p.cl.getD 0 0+q.cl.getD 0 0) (min (p.cl.getD 1 0) (q.cl.getD 1 0) - x) (max (p.cl.getD 2 0) (q.cl.getD 2 0)+y) w a p q):=by
 obtain⟨g1,g2,g3,g4⟩:=cutB_is hc
 have hl:=bx_len hb
 have h3:=hsd.l3
 have ha:a.natAbs < 10 ^ 40:=by
  have hm:=hsd.m
  have hbR:=(bx_wi (bxL_bx hb hc)).2
  have he:=ex_le (bxL_bx hb hc)
  have:∀{hi sd:List Int}{i:Nat},Wi hi sd->i < hi.length->0<=hi.getD i 0/\∃s∈sd,hi.getD i 0 < s:=by
   intro hi
   induction hi with
   | nil=>intro sd i _ h;simp at h
   | cons z hi ih =>
    intro sd i hw h
    cases sd with
    | nil=>exact hw.elim
    | cons s sd =>
     cases i with
     | zero=>exact ⟨hw.1.1,s,by simp,hw.1.2⟩
     | succ i =>
      obtain⟨r1,s',r2,r3⟩:=ih hw.2 (by simpa using h)
      exact ⟨r1,s',by simp[r2],r3⟩
  obtain⟨r1,s,r2,r3⟩:=this (bx_wi hb).2 (i:=w.toNat) (by omega)
  obtain⟨r4,_⟩:=this (bx_wi hb).1 (i:=w.toNat) (by omega)
  have:=le_prodI hsd.p s r2
  omega
 obtain⟨t1,l1,h1,e1⟩:=cl_is p
 obtain⟨t2,l2,h2,e2⟩:=cl_is q
 have b1:=m1.bd
 have b2:=m2.bd
 rw[e1]at b1
 rw[e2]at b2
 have c1:=b1 t1 (by simp)
 have c2:=b1 l1 (by simp)
 have c3:=b1 h1 (by simp)
 have c4:=b2 t2 (by simp)
 have c5:=b2 l2 (by simp)
 have c6:=b2 h2 (by simp)
 have v1:=p.lv1
 have v2:=q.lv1
 refine ⟨?_,?_,?_,?_⟩
 ·show (cutB b w a&&(letB _ (comb p.cl q.cl)&&(okP sd cl (bxL b w a) p&&okP sd cl (bxR b w a) q)))=true
  rw[hc,m1.ok,m2.ok,e1,e2]
  show (true&&((decide (t1+t2=t1+t2)&&(decide (min l1 l2 - x<=min l1 l2)&&decide (max h1 h2<=max h1 h2+y)))&&(true&&true)))=true
  rw[decide_eq_true rfl,decide_eq_true (by omega),decide_eq_true (by omega)]
  rfl
 ·refine ⟨λz hz=>?_,m1.sm,m2.sm⟩
  rw[e1,e2]at hz
  have hz:z=t1+t2\/z=min l1 l2 - x\/z=max h1 h2+y\/z=w\/z=a:=by simpa using hz
  omega
 ·intro t
  obtain⟨rfl,rfl⟩:=ht t
  refine ⟨?_,m1.tg t,m2.tg t⟩
  rw[o8,r8]
  rfl
 ·intro z hz
  have hz:z=t1+t2\/z=min l1 l2 - x\/z=max h1 h2+y:=by
   have hz:z∈[p.cl.getD 0 0+q.cl.getD 0 0,min (p.cl.getD 1 0) (q.cl.getD 1 0) - x,max (p.cl.getD 2 0) (q.cl.getD 2 0)+y]:=hz
   rw[e1,e2]at hz
   simpa using hz
  show z.natAbs<=(p.lv+q.lv) * 10 ^ 28
  omega
theorem Made.lv{sd cl:List Int}{b:Bxx}{tight:Bool}{p:Pp}(m:Made sd cl b tight p)(hb:Bx b.1 b.2 sd)(hsd:Sd sd):(p.lv:Int)<=prodI sd:=by
 have h1:=(okP_sum p hb m.ok).2
 have h2:=bx_lenP hb
 have:(cels sd cl b.1 b.2).length=(btw b.1 b.2).length:=by unfold cels;rw[A0]
 rw[h1,this]
 unfold btw
 rw[eachA_len]
 simpa using h2.1
theorem same_nil(l:List Int):same (.list (l.map q0)) (.list [])=decide (l=[]):=sameAll_ints l []
theorem mix_nil(l:List Int):SeqAt.noMix (.list (l.map q0)) (.list [])=true:=mixAll_ints l []
theorem pD_is(p:Pp):∃w r,pD p=.tuple (w :: tupD p.cl :: r):=by cases p<;>exact ⟨_,_,rfl⟩
theorem comb_if(u1 v1 z1 u2 v2 z2:Int):comb [u1,v1,z1] [u2,v2,z2]=[u1+u2,if v2 < v1 then v2 else v1,if z2 > z1 then z2 else z1]:=by
 show [u1+u2,min v1 v2,max z1 z2]=_
 congr 1
 congr 1
 ·split<;>omega
 ·congr 1
  split<;>omega
structure Slf(K:j0)(mg:Str->Option Value)(x:Str)(f:Addr)(fd:FuncData)(ps:List Str):Prop where
 m:mg x=some (.ref f)
 k:W3 K (.ref f)=true
 b:Binds K fd ps []
theorem ok_no{P:Program}{w:World}{K:j0}{mg:Str->Option Value}{base:Heap}{k:Nat}{f:Addr}{fd:FuncData}{ps:List Str}:FnOk P w K mg base CX0 k f fd ps (conSp K λ_ _=>False) :=
 ⟨λvs H Q E h=>by obtain⟨_,_,_,_,_,h,_⟩:=h;exact h.elim,λA outer s H args us vs Q E _ _ _ _ h=>by obtain⟨_,_,_,_,_,h,_⟩:=h;exact h.elim⟩
section
variable {P:Program}{w:World}{K:j0}{mg:Str->Option Value}{base:Heap}
structure CalsP0(P:Program)(w:World)(K:j0)(mg:Str->Option Value)(base:Heap):Prop where
 law_ways:Cal P w K mg base 1 "_law_ways" ["_law_box_here"] (conSp K cWa)
 law_cell:Cal P w K mg base 1 "_law_cell" ["_law_sides_here","_law_numbers","_law_place"] (conSp K cCell)
 law_slack:Cal P w K mg base 2 "_law_slack" ["_law_pen_here","_law_claim","_law_much"] (conSp K cSlack)
 law_draw:Cal P w K mg base 1 "_law_draw" ["_law_pen_here","_law_many"] (conSp K cDraw)
 law_cut:Cal P w K mg base 1 "_law_cut" ["_law_box_here","_law_way","_law_at"] (conSp K cCut)
noncomputable def cPap:Nat->Con
 | 0=>λ_ _=>False
 | n+1=>λargs Q=>∃(a b c:Int) (sd cl:List Int) (bx:Bxx) (much:Bool),args=[.io (penD a b c),.fz (tupD sd),.fz (liD cl),.fz (boxD bx),.fz (.bool much)]/\0<=a/\0<=b/\0<=c/\Sd sd/\cl.length=(plc sd).length/\(∀x∈cl,Big x)/\Bx bx.1 bx.2 sd/\ex bx.1 bx.2<=n /\
  ∀(p:Pp) (a' b' c':Int) (o:Ev),Made sd cl bx (!much) p->0<=a'->0<=b'->0<=c'->Q (.fz (pD p)) (some (.io (penD a' b' c')) :: o)
structure CalsPa(n:Nat)(P:Program)(w:World)(K:j0)(mg:Str->Option Value)(base:Heap):Prop extends CalsP0 P w K mg base where
 law_paper:Cal P w K mg base (n+3) "_law_paper" ["_law_pen_here","_law_sides_here","_law_numbers","_law_box_here","_law_much"] (conSp K (cPap n))
theorem scPap:FnScope ["_law_pen_here","_law_sides_here","_law_numbers","_law_box_here","_law_much","_law_some","_law_own","_law_way","_law_at","_law_here","_law_there","_law_first","_law_second","_law_one","_law_other","_law_claim"] ["_law_pen_here","_law_sides_here","_law_numbers","_law_box_here","_law_much"] (defScope (top 48)):=⟨rfl,rfl,rfl,by decide +kernel,rfl,by decide +kernel,by decide +kernel⟩
theorem ok_papG{n:Nat}{f:Addr}{fd:FuncData}(F:Fun K "_law_paper" "_law_paper" (top 48) f fd)(T:Txt mg)(C:CalsPa n P w K mg base):FnOk P w K mg base CX0 (n+4) f fd ["_law_pen_here","_law_sides_here","_law_numbers","_law_box_here","_law_much"] (conSp K (cPap (n+1))):=by
 have S:=scPap
 refine wfn F S (λcdv A outer s H E hr=>(s_cons (s_set (i:=5) S.nd rfl (Or.inl rfl) (w_fn C.law_ways (hr.mono (by first|decide|omega)) (wa_cons (wn 3) wa_nil)))
     (s_cons (s_if (t_cmp ok_eq (op_eqE (K:=K) rfl hr.units) (wn 5) (wx (w_lst wa_nil))) (s_cons (s_set (i:=6) S.nd rfl (Or.inl rfl) (w_fn C.law_cell (hr.mono (by first|decide|omega)) (wa_cons (wn 1) (wa_cons (wn 2) (wa_cons (wx (w_ix rfl (wn 3) (wx w_int))) wa_nil)))))
     (s_one (s_ret (w_tup (wa_cons (wx w_str) (wa_cons (wx (w_fnI C.law_slack (hr.mono (by first|decide|omega)) (wa_cons (wn 0) (wa_cons (wx (w_tup (wa_cons (wx (wv 6)) (wa_cons (wx (wv 6)) (wa_cons (wx (wv 6)) wa_nil))))) (wa_cons (wn 4) wa_nil))))) wa_nil)))))) s_nil)
     (s_cons (s_set (i:=7) S.nd rfl (Or.inl rfl) (w_ix rfl (wn 5) (wx (w_fnI C.law_draw (hr.mono (by first|decide|omega)) (wa_cons (wn 0) (wa_cons (wx (w_callB ok_len (call_lenK (K:=K) rfl) T.len_ PySem.boot_len (wa_cons (wn 5) wa_nil))) wa_nil))))))
     (s_cons (s_set (i:=8) S.nd rfl (Or.inl rfl) (w_bin ok_add op_addD (wx (w_ix rfl (wx (w_ix rfl (wn 3) (wx w_int))) (wn 7))) (wx (w_fnI C.law_draw (hr.mono (by first|decide|omega)) (wa_cons (wn 0) (wa_cons (wx (w_bin ok_sub op_sub (wx (w_ix rfl (wx (w_ix rfl (wn 3) (wx w_int))) (wn 7))) (wx (w_ix rfl (wx (w_ix rfl (wn 3) (wx w_int))) (wn 7))))) wa_nil))))))
     (s_cons (s_asgG (w_fn C.law_cut (hr.mono (by first|decide|omega)) (wa_cons (wn 3) (wa_cons (wn 7) (wa_cons (wn 8) wa_nil)))) (g_tup rfl rfl (gs_cons (g_name (i:=9) S.nd rfl (Or.inl rfl)) (gs_cons (g_name (i:=10) S.nd rfl (Or.inl rfl)) gs_nil))))
     (s_cons (s_set (i:=11) S.nd rfl (Or.inl rfl) (w_fnI C.law_paper (hr.mono (by first|decide|omega)) (wa_cons (wn 0) (wa_cons (wn 1) (wa_cons (wn 2) (wa_cons (wn 9) (wa_cons (wn 4) wa_nil)))))))
     (s_cons (s_set (i:=12) S.nd rfl (Or.inl rfl) (w_fnI C.law_paper (hr.mono (by first|decide|omega)) (wa_cons (wn 0) (wa_cons (wn 1) (wa_cons (wn 2) (wa_cons (wn 10) (wa_cons (wn 4) wa_nil)))))))
     (s_cons (s_set (i:=13) S.nd rfl (Or.inl rfl) (w_ix rfl (wn 11) (wx w_int)))
     (s_cons (s_set (i:=14) S.nd rfl (Or.inl rfl) (w_ix rfl (wn 12) (wx w_int)))
     (s_cons (s_set (i:=15) S.nd rfl (Or.inl rfl) (w_tup (wa_cons (wx (w_bin ok_add op_addD (wx (w_ix rfl (wn 13) (wx w_int))) (wx (w_ix rfl (wn 14) (wx w_int))))) (wa_cons (wx (w_callB ok_2I (call_min2 rfl) T.min_ boot_min (wa_cons (wx (w_ix rfl (wn 13) (wx w_int))) (wa_cons (wx (w_ix rfl (wn 14) (wx w_int))) wa_nil)))) (wa_cons (wx (w_callB ok_2I (call_max2 rfl) T.max_ boot_max (wa_cons (wx (w_ix rfl (wn 13) (wx w_int))) (wa_cons (wx (w_ix rfl (wn 14) (wx w_int))) wa_nil)))) wa_nil)))))
     (s_one (s_ret (w_tup (wa_cons (wx w_str) (wa_cons (wx (w_fnI C.law_slack (hr.mono (by first|decide|omega)) (wa_cons (wn 0) (wa_cons (wn 15) (wa_cons (wn 4) wa_nil))))) (wa_cons (wx (wv 7)) (wa_cons (wx (wv 8)) (wa_cons (wx (wv 11)) (wa_cons (wx (wv 12)) wa_nil)))))))))))))))))))) ?_ ?_
 ·rintro args Qd ⟨a,b,c,sd,cl,bx,much,rfl,_⟩;rfl
 ·rintro args Qd ⟨a,b,c,sd,cl,bx,much,rfl,ha,hb,hc,hsd,hcl,hB,hbx,hex,q⟩
  refine ⟨noOw_of rfl,?_⟩
  have hbl:=bx_len hbx
  have h3:=hsd.l3
  with_reducible refine cutS (λρ=>ρ=[some (.io (penD a b c)),some (.fz (tupD sd)),some (.fz (liD cl)),some (.fz (boxD bx)),some (.fz (.bool much)),some (.ow (.list ((lws bx).map q0))),none,none,none,none,none,none,none,none,none,none]) ?_ ?_
  ·intro N hN
   exact ⟨bx,rfl,by omega,by omega,λo=>hN _ rfl⟩
  rintro _ rfl
  have nl:=Nice.ints (lws bx)
  have nn:Nice 1 (Q3 []):=Nice.ints []
  with_reducible refine cutS (λρ=>ρ=[some (.io (penD a b c)),some (.fz (tupD sd)),some (.fz (liD cl)),some (.fz (boxD bx)),some (.fz (.bool much)),some (.ow (.list ((lws bx).map q0))),none,none,none,none,none,none,none,none,none,none]/\lws bx≠[]) ?_ ?_
  ·intro N hN
   refine ⟨nl.p,nn.p,nl.sh (by decide),nn.sh (by decide),mix_nil _,ite2 (λh=>?_) (λh=>?_)⟩
   ·have h:same (.list ((lws bx).map q0)) (.list [])=true:=h
    rw[same_nil]at h
    have hnil:=of_decide_eq_true h
    have heq:=(lws_nil hbx hnil).symm
    refine ⟨_,rfl,sd,cl,bx.1,rfl,hsd,hcl,(bx_wi hbx).1,λo=>?_⟩
    refine ⟨a,b,c,_,_,_,much,rfl,ha,hb,hc,λx y a1 b1 c1 _ x0 x2 y0 y2 ht ha1 hb1 hc1=>?_⟩
    exact q (.cell (cel sd cl bx.1) (cel sd cl bx.1 - x) (cel sd cl bx.1+y)) a1 b1 c1 _ (made_cell hB heq x0 x2 y0 y2 λz=>ht (by simpa using z)) ha1 hb1 hc1
   ·have h:¬same (.list ((lws bx).map q0)) (.list [])=true:=h
    rw[same_nil]at h
    exact hN _ ⟨rfl,λz=>h (decide_eq_true z)⟩
  rintro _ ⟨rfl,hne⟩
  with_reducible refine cutS (λρ=>∃(wy a b c:Int),ρ=[some (.io (penD a b c)),some (.fz (tupD sd)),some (.fz (liD cl)),some (.fz (boxD bx)),some (.fz (.bool much)),some (.ow (.list ((lws bx).map q0))),none,some (.fz (.int wy)),none,none,none,none,none,none,none,none]/\wy∈lws bx/\0<=a/\0<=b/\0<=c) ?_ ?_
  ·intro N hN
   have hpos:0 < (lws bx).length:=o4.mpr hne
   have hlen:(lws bx).length<=3:=by unfold lws;rw[A0];exact O1 (L7 _ _) (by rw[List.length_range];omega)
   refine ⟨a,b,c,((lws bx).length:Int),by rw[<- A0 (f:=q0) (as:=lws bx)];rfl,ha,hb,hc,by omega,by omega,λr a1 b1 c1 _ r0 r1 ha1 hb1 hc1=>?_⟩
   obtain⟨j,rfl⟩:=T2 r0
   have hj:j < (lws bx).length:=by omega
   refine ⟨_,at_ints hj,hN _ ⟨_,a1,b1,c1,rfl,?_,ha1,hb1,hc1⟩⟩
   rw[Q0,J0 hj]
   exact S2 _
  rintro _ ⟨wy,a,b,c,rfl,hwy,ha,hb,hc⟩
  obtain⟨i,lo,hi,rfl,hi1,e1,e2,hlt⟩:=lws_mem (by omega) hwy
  have g1:bx.1.getD i 0=lo:=getD_at e1
  have g2:bx.2.getD i 0=hi:=getD_at e2
  have hlo:=(bx_pair hbx (lo,hi) ?_)
  rotate_left
  ·have hz:(bx.1.zip bx.2)[i]?=some (lo,hi):=by rw[U3];exact ⟨e1,e2⟩
   exact Q1 hz
  obtain⟨hl0,_,sx,hsx,hsx2⟩:=hlo
  have hsx3:=le_prodI hsd.p sx hsx
  have hsm:=hsd.m
  with_reducible refine cutS (λρ=>∃(at_ a b c:Int),ρ=[some (.io (penD a b c)),some (.fz (tupD sd)),some (.fz (liD cl)),some (.fz (boxD bx)),some (.fz (.bool much)),some (.ow (.list ((lws bx).map q0))),none,some (.fz (.int (i:Int))),some (.fz (.int at_)),none,none,none,none,none,none,none]/\lo<=at_/\at_ < hi/\0<=a/\0<=b/\0<=c) ?_ ?_
  ·intro N hN
   refine ⟨_,rfl,_,at_ints hi1,_,rfl,_,at_ints (by omega),_,rfl,_,at_ints hi1,a,b,c,_,rfl,ha,hb,hc,?_,?_,λr a1 b1 c1 _ r0 r1 ha1 hb1 hc1=>?_⟩
   ·rw[g1,g2];omega
   ·rw[g1,g2];simp only at hsx2 hl0;omega
   ·rw[g1,g2]at r1
    rw[g1]
    exact hN _ ⟨lo+r,a1,b1,c1,rfl,by omega,by omega,ha1,hb1,hc1⟩
  rintro _ ⟨at_,a,b,c,rfl,h1,h2,ha,hb,hc⟩
  generalize ewy:(i:Int)=wy at hwy
  have hcut:cutB bx wy at_=true:=by
   unfold cutB
   have ei:wy.toNat=i:=by omega
   rw[ei,g1,g2,decide_eq_true (show 0<=wy by omega),decide_eq_true (show wy < (bx.1.length:Int) by omega),decide_eq_true h1,decide_eq_true h2]
   rfl
  obtain⟨k1,k2,k3,k4⟩:=cutB_is hcut
  have hexc:=ex_cut (b:=bx) (w:=wy) (a:=at_) (by omega) hcut
  obtain⟨m,rfl⟩:∃m,n=m+1:=⟨n - 1,by omega⟩
  with_reducible refine cutS (λρ=>ρ=[some (.io (penD a b c)),some (.fz (tupD sd)),some (.fz (liD cl)),some (.fz (boxD bx)),some (.fz (.bool much)),some (.ow (.list ((lws bx).map q0))),none,some (.fz (.int wy)),some (.fz (.int at_)),some (.fz (boxD (bxL bx wy at_))),some (.fz (boxD (bxR bx wy at_))),none,none,none,none,none]) ?_ ?_
  ·intro N hN
   exact ⟨bx,wy,at_,rfl,k1,k2,by omega,by omega,λo=>⟨rfl,hN _ rfl⟩⟩
  rintro _ rfl
  with_reducible refine cutS (λρ=>∃(p:Pp) (a b c:Int),ρ=[some (.io (penD a b c)),some (.fz (tupD sd)),some (.fz (liD cl)),some (.fz (boxD bx)),some (.fz (.bool much)),some (.ow (.list ((lws bx).map q0))),none,some (.fz (.int wy)),some (.fz (.int at_)),some (.fz (boxD (bxL bx wy at_))),some (.fz (boxD (bxR bx wy at_))),some (.fz (pD p)),none,none,none,none]/\Made sd cl (bxL bx wy at_) (!much) p/\0<=a/\0<=b/\0<=c) ?_ ?_
  ·intro N hN
   exact ⟨a,b,c,sd,cl,bxL bx wy at_,much,rfl,ha,hb,hc,hsd,hcl,hB,bxL_bx hbx hcut,by omega,λp a1 b1 c1 _ mp ha1 hb1 hc1=>hN _ ⟨p,a1,b1,c1,rfl,mp,ha1,hb1,hc1⟩⟩
  rintro _ ⟨p,a,b,c,rfl,mp,ha,hb,hc⟩
  with_reducible refine cutS (λρ=>∃(q:Pp) (a b c:Int),ρ=[some (.io (penD a b c)),some (.fz (tupD sd)),some (.fz (liD cl)),some (.fz (boxD bx)),some (.fz (.bool much)),some (.ow (.list ((lws bx).map q0))),none,some (.fz (.int wy)),some (.fz (.int at_)),some (.fz (boxD (bxL bx wy at_))),some (.fz (boxD (bxR bx wy at_))),some (.fz (pD p)),some (.fz (pD q)),none,none,none]/\Made sd cl (bxR bx wy at_) (!much) q/\0<=a/\0<=b/\0<=c) ?_ ?_
  ·intro N hN
   exact ⟨a,b,c,sd,cl,bxR bx wy at_,much,rfl,ha,hb,hc,hsd,hcl,hB,bxR_bx hbx hcut,by omega,λq a1 b1 c1 _ mq ha1 hb1 hc1=>hN _ ⟨q,a1,b1,c1,rfl,mq,ha1,hb1,hc1⟩⟩
  rintro _ ⟨p2,a,b,c,rfl,mq,ha,hb,hc⟩
  have hlp:=mp.lv (bxL_bx hbx hcut) hsd
  have hlq:=mq.lv (bxR_bx hbx hcut) hsd
  obtain⟨w1,r1,e1⟩:=pD_is p
  obtain⟨w2,r2,e2⟩:=pD_is p2
  with_reducible refine cutS (λρ=>ρ=[some (.io (penD a b c)),some (.fz (tupD sd)),some (.fz (liD cl)),some (.fz (boxD bx)),some (.fz (.bool much)),some (.ow (.list ((lws bx).map q0))),none,some (.fz (.int wy)),some (.fz (.int at_)),some (.fz (boxD (bxL bx wy at_))),some (.fz (boxD (bxR bx wy at_))),some (.fz (pD p)),some (.fz (pD p2)),some (.fz (tupD p.cl)),none,none]) ?_ ?_
  ·intro N hN
   rw[e1]at hN ⊢
   exact ⟨_,atI_nat (j:=1) rfl,hN _ rfl⟩
  rintro _ rfl
  with_reducible refine cutS (λρ=>ρ=[some (.io (penD a b c)),some (.fz (tupD sd)),some (.fz (liD cl)),some (.fz (boxD bx)),some (.fz (.bool much)),some (.ow (.list ((lws bx).map q0))),none,some (.fz (.int wy)),some (.fz (.int at_)),some (.fz (boxD (bxL bx wy at_))),some (.fz (boxD (bxR bx wy at_))),some (.fz (pD p)),some (.fz (pD p2)),some (.fz (tupD p.cl)),some (.fz (tupD p2.cl)),none]) ?_ ?_
  ·intro N hN
   rw[e2]at hN ⊢
   exact ⟨_,atI_nat (j:=1) rfl,hN _ rfl⟩
  rintro _ rfl
  with_reducible refine cutS (λρ=>ρ=[some (.io (penD a b c)),some (.fz (tupD sd)),some (.fz (liD cl)),some (.fz (boxD bx)),some (.fz (.bool much)),some (.ow (.list ((lws bx).map q0))),none,some (.fz (.int wy)),some (.fz (.int at_)),some (.fz (boxD (bxL bx wy at_))),some (.fz (boxD (bxR bx wy at_))),some (.fz (pD p)),some (.fz (pD p2)),some (.fz (tupD p.cl)),some (.fz (tupD p2.cl)),some (.fz (tupD (comb p.cl p2.cl)))]) ?_ ?_
  ·intro N hN
   obtain⟨u1,v1,z1,f1⟩:=cl_is p
   obtain⟨u2,v2,z2,f2⟩:=cl_is p2
   rw[f1,f2]at hN ⊢
   rw[comb_if]at hN
   exact ⟨_,rfl,_,rfl,_,rfl,_,rfl,_,rfl,_,rfl,hN _ rfl⟩
  rintro _ rfl
  refine ⟨a,b,c,_,_,_,much,rfl,ha,hb,hc,λx y a1 b1 c1 _ x0 x2 y0 y2 ht ha1 hb1 hc1=>?_⟩
  exact q (.cut (p.cl.getD 0 0+p2.cl.getD 0 0) (min (p.cl.getD 1 0) (p2.cl.getD 1 0) - x) (max (p.cl.getD 2 0) (p2.cl.getD 2 0)+y) wy at_ p p2) a1 b1 c1 _ (made_cut hcut hbx hsd mp mq (by omega) (by omega) x0 x2 y0 y2 λz=>ht (by simpa using z)) ha1 hb1 hc1
theorem ok_pap{f:Addr}{fd:FuncData}(F:Fun K "_law_paper" "_law_paper" (top 48) f fd)(T:Txt mg)(C:CalsP0 P w K mg base)(R:Slf K mg "_law_paper" f fd ["_law_pen_here","_law_sides_here","_law_numbers","_law_box_here","_law_much"]):FnOk P w K mg base CX0 34 f fd ["_law_pen_here","_law_sides_here","_law_numbers","_law_box_here","_law_much"] (conSp K (cPap 31)):=by
 have all:∀n,Cal P w K mg base (n+3) "_law_paper" ["_law_pen_here","_law_sides_here","_law_numbers","_law_box_here","_law_much"] (conSp K (cPap n)):=λn=>by
  induction n with
  | zero=>exact ⟨⟨f,fd,ok_no,R.m,R.k,R.b⟩⟩
  | succ n ih=>exact ⟨⟨f,fd,ok_papG F T ⟨C,ih⟩,R.m,R.k,R.b⟩⟩
 exact ok_papG F T ⟨C,all 30⟩
end
theorem cutB_lws{b:Bxx}{w a:Int}(hl:b.2.length=b.1.length)(h:cutB b w a=true):w∈lws b:=by
 obtain⟨h1,h2,h3,h4⟩:=cutB_is h
 refine U0.mpr ⟨w.toNat,j5.mpr ⟨Y2.mpr (by omega),decide_eq_true (by omega)⟩,by omega⟩
theorem letB_comb{t l h u1 v1 z1 u2 v2 z2:Int}:letB [t,l,h] (comb [u1,v1,z1] [u2,v2,z2])=(decide (t=u1+u2)&&(decide (l<=if v2 < v1 then v2 else v1)&&decide ((if z2 > z1 then z2 else z1)<=h))):=by
 show (decide (t=u1+u2)&&(decide (l<=min v1 v2)&&decide (max z1 z2<=h)))=_
 rw[show min v1 v2=if v2 < v1 then v2 else v1 by split<;>omega,show max z1 z2=if z2 > z1 then z2 else z1 by split<;>omega]
section
variable {P:Program}{w:World}{K:j0}{mg:Str->Option Value}{base:Heap}
noncomputable def cAw:Con:=λargs Q=>∃l:List Int,args=[.fz (tupD l)]/\l.length<=10/\∀o,Q (.fz (.bool true)) o
theorem scAw:FnScope ["_law_some"] ["_law_some"] (defScope (top 49)):=⟨rfl,rfl,rfl,by decide +kernel,rfl,by decide +kernel,by decide +kernel⟩
theorem ok_aw{f:Addr}{fd:FuncData}(F:Fun K "_law_are_whole" "_law_are_whole" (top 49) f fd)(T:Txt mg):FnOk P w K mg base CX0 1 f fd ["_law_some"] (conSp K cAw):=by
 have S:=scAw
 refine wfn F S (λcdv A outer s H E hr=>(s_one (s_ret (w_cmp ok_eq (op_eqE (K:=K) rfl hr.units) (wx (w_comp rfl (own:=["_law_one"]) (fr:=[]) (by kernel_rfl) (i_seq rfl (wv 0)) (λ_ _ _ _=>(g_name (i:=0) (by decide +kernel:K3 (["_law_one"]:List Str)) rfl (Or.inl rfl))) (λ_ _ _ _=>if1 (t_w (t_or (t_not (t_val (w_isiA .int rfl T.isinstance_ T.int_ boot_int (wn 0)))) (t_or1 (t_val (w_isiA .bl rfl T.isinstance_ T.bool_ boot_bool (wn 0))))))) (λ_ _ _ _=>w_int))) (wx (w_lst wa_nil)))))) ?_ ?_
 ·rintro args Qd ⟨l,rfl,_⟩;rfl
 ·rintro args Qd ⟨l,rfl,hl,q⟩
  refine ⟨noOw_of rfl,?_⟩
  refine ⟨by rw[A0];exact le_size (by omega),filC (λ_=>false) (λ_=>.int 1) ?_ ?_⟩
  ·intro d hd M1 M2 hM1 hM2
   obtain⟨i,_,rfl⟩:=U0.mp hd
   exact hM2 rfl
  ·have e:(List.map (λ_=>q0 1) (List.filter (λ_=>false) (List.map q0 l)))=[]:=by rw[E7.mpr (by simp)];rfl
   rw[e]
   have nn:Nice 1 (Q3 []):=Nice.ints []
   exact ⟨nn.p,nn.p,nn.sh (by decide),nn.sh (by decide),rfl,q _⟩
structure CalsIcl(P:Program)(w:World)(K:j0)(mg:Str->Option Value)(base:Heap):Prop where
 law_are_whole:Cal P w K mg base 1 "_law_are_whole" ["_law_some"] (conSp K cAw)
noncomputable def cIcl:Con:=λargs Q=>∃l:List Int,args=[.fz (tupD l)]/\l.length=3/\∀o,Q (.fz (.bool true)) o
theorem scIcl:FnScope ["_law_thing"] ["_law_thing"] (defScope (top 50)):=⟨rfl,rfl,rfl,by decide +kernel,rfl,by decide +kernel,by decide +kernel⟩
theorem ok_icl{f:Addr}{fd:FuncData}(F:Fun K "_law_is_claim" "_law_is_claim" (top 50) f fd)(T:Txt mg)(C:CalsIcl P w K mg base):FnOk P w K mg base CX0 2 f fd ["_law_thing"] (conSp K cIcl):=by
 have S:=scIcl
 refine wfn F S (λcdv A outer s H E hr=>(s_one (s_ret (w_and (w_isiA .tup rfl T.isinstance_ T.tuple_ boot_tuple (wn 0)) (w_and (w_cmp ok_eq (op_eqE (K:=K) rfl hr.units) (wx (w_callB ok_len (call_lenK (K:=K) rfl) T.len_ PySem.boot_len (wa_cons (wn 0) wa_nil))) (wx w_int)) (w_one (w_fn C.law_are_whole (hr.mono (by first|decide|omega)) (wa_cons (wn 0) wa_nil)))))))) ?_ ?_
 ·rintro args Qd ⟨l,rfl,_⟩;rfl
 ·rintro args Qd ⟨l,rfl,hl,q⟩
  refine ⟨noOw_of rfl,?_⟩
  obtain⟨x,y,z,rfl⟩:∃a b c',l=[a,b,c']:=by
   rcases l with _|⟨a,_|⟨b,_|⟨c,_|⟨d,ts⟩⟩⟩⟩<;>first|exact ⟨_,_,_,rfl⟩|(simp at hl)
  exact ⟨_,rfl,by simp,λo=>q _⟩
structure CalsH0(P:Program)(w:World)(K:j0)(mg:Str->Option Value)(base:Heap):Prop where
 law_are_whole:Cal P w K mg base 1 "_law_are_whole" ["_law_some"] (conSp K cAw)
 law_is_claim:Cal P w K mg base 2 "_law_is_claim" ["_law_thing"] (conSp K cIcl)
 law_cell:Cal P w K mg base 1 "_law_cell" ["_law_sides_here","_law_numbers","_law_place"] (conSp K cCell)
 law_ways:Cal P w K mg base 1 "_law_ways" ["_law_box_here"] (conSp K cWa)
 law_cut:Cal P w K mg base 1 "_law_cut" ["_law_box_here","_law_way","_law_at"] (conSp K cCut)
noncomputable def cHol:Nat->Con
 | 0=>λ_ _=>False
 | n+1=>λargs Q=>∃(sd cl:List Int) (bx:Bxx) (p:Pp),args=[.fz (tupD sd),.fz (liD cl),.fz (boxD bx),.fz (pD p)]/\Sd sd/\cl.length=(plc sd).length/\Bx bx.1 bx.2 sd/\ex bx.1 bx.2<=n/\∀o,Q (.fz (.bool (okP sd cl bx p))) o
structure CalsHl(n:Nat)(P:Program)(w:World)(K:j0)(mg:Str->Option Value)(base:Heap):Prop extends CalsH0 P w K mg base where
 law_holds:Cal P w K mg base (n+3) "_law_holds" ["_law_sides_here","_law_numbers","_law_box_here","_law_thing"] (conSp K (cHol n))
theorem scHol:FnScope ["_law_sides_here","_law_numbers","_law_box_here","_law_thing","_law_total","_law_low","_law_high","_law_own","_law_here","_law_there","_law_one","_law_other"] ["_law_sides_here","_law_numbers","_law_box_here","_law_thing"] (defScope (top 51)):=⟨rfl,rfl,rfl,by decide +kernel,rfl,by decide +kernel,by decide +kernel⟩
theorem ok_holG{n:Nat}{f:Addr}{fd:FuncData}(F:Fun K "_law_holds" "_law_holds" (top 51) f fd)(T:Txt mg)(C:CalsHl n P w K mg base):FnOk P w K mg base CX0 (n+4) f fd ["_law_sides_here","_law_numbers","_law_box_here","_law_thing"] (conSp K (cHol (n+1))):=by
 have S:=scHol
 refine wfn F S (λcdv A outer s H E hr=>(s_cons (s_if (t_w (t_or (t_not (t_val (w_isiA .tup rfl T.isinstance_ T.tuple_ boot_tuple (wn 3)))) (t_or (t_notinI rfl (wx (w_callB ok_len (call_lenK (K:=K) rfl) T.len_ PySem.boot_len (wa_cons (wn 3) wa_nil))) (wx (w_tup (wa_cons (wx w_int) (wa_cons (wx w_int) wa_nil))))) (t_or1 (t_not (t_val (w_isiA .str rfl T.isinstance_ T.str_ boot_str (wx (w_ix rfl (wn 3) (wx w_int)))))))))) (s_one (s_ret w_bl)) s_nil)
     (s_cons (s_if (t_not (t_val (w_fn C.law_is_claim (hr.mono (by first|decide|omega)) (wa_cons (wx (w_ix rfl (wn 3) (wx w_int))) wa_nil)))) (s_one (s_ret w_bl)) s_nil)
     (s_cons (s_asgG (w_ix rfl (wn 3) (wx w_int)) (g_tup rfl rfl (gs_cons (g_name (i:=4) S.nd rfl (Or.inl rfl)) (gs_cons (g_name (i:=5) S.nd rfl (Or.inl rfl)) (gs_cons (g_name (i:=6) S.nd rfl (Or.inl rfl)) gs_nil)))))
     (s_cons (s_if (t_cmp ok_eq (op_eqE (K:=K) rfl hr.units) (wx (w_callB ok_len (call_lenK (K:=K) rfl) T.len_ PySem.boot_len (wa_cons (wn 3) wa_nil))) (wx w_int)) (s_cons (s_set (i:=7) S.nd rfl (Or.inl rfl) (w_fn C.law_cell (hr.mono (by first|decide|omega)) (wa_cons (wn 0) (wa_cons (wn 1) (wa_cons (wx (w_ix rfl (wn 2) (wx w_int))) wa_nil)))))
     (s_one (s_ret (w_and (w_cmp ok_eq (op_eqE (K:=K) rfl hr.units) (wx (w_ix rfl (wn 3) (wx w_int))) (wx w_str)) (w_and (w_cmp ok_eq (op_eqE (K:=K) rfl hr.units) (wx (w_ix rfl (wn 2) (wx w_int))) (wx (w_ix rfl (wn 2) (wx w_int)))) (w_and (w_cmp ok_eq (op_eqE (K:=K) rfl hr.units) (wn 4) (wn 7)) (w_one (w_chain op_le op_le (wn 5) (wn 7) (wn 6))))))))) s_nil)
     (s_cons (s_if (t_w (t_or (t_cmp ok_ne (op_neE (K:=K) rfl hr.units) (wx (w_ix rfl (wn 3) (wx w_int))) (wx w_str)) (t_or (t_not (t_val (w_fn C.law_are_whole (hr.mono (by first|decide|omega)) (wa_cons (wx (w_sl3T rfl (wn 3) (wx w_int) (wx w_int))) wa_nil)))) (t_or1 (t_notinI rfl (wx (w_ix rfl (wn 3) (wx w_int))) (wx (w_fn C.law_ways (hr.mono (by first|decide|omega)) (wa_cons (wn 2) wa_nil)))))))) (s_one (s_ret w_bl)) s_nil)
     (s_cons (s_if (t_not (t_chain op_le op_lt (wx (w_ix rfl (wx (w_ix rfl (wn 2) (wx w_int))) (wx (w_ix rfl (wn 3) (wx w_int))))) (wx (w_ix rfl (wn 3) (wx w_int))) (wx (w_ix rfl (wx (w_ix rfl (wn 2) (wx w_int))) (wx (w_ix rfl (wn 3) (wx w_int))))))) (s_one (s_ret w_bl)) s_nil)
     (s_cons (s_asgG (w_fn C.law_cut (hr.mono (by first|decide|omega)) (wa_cons (wn 2) (wa_cons (wx (w_ix rfl (wn 3) (wx w_int))) (wa_cons (wx (w_ix rfl (wn 3) (wx w_int))) wa_nil)))) (g_tup rfl rfl (gs_cons (g_name (i:=8) S.nd rfl (Or.inl rfl)) (gs_cons (g_name (i:=9) S.nd rfl (Or.inl rfl)) gs_nil))))
     (s_cons (s_if (t_w (t_or (t_not (t_val (w_fn C.law_holds (hr.mono (by first|decide|omega)) (wa_cons (wn 0) (wa_cons (wn 1) (wa_cons (wn 8) (wa_cons (wx (w_ix rfl (wn 3) (wx w_int))) wa_nil))))))) (t_or1 (t_not (t_val (w_fn C.law_holds (hr.mono (by first|decide|omega)) (wa_cons (wn 0) (wa_cons (wn 1) (wa_cons (wn 9) (wa_cons (wx (w_ix rfl (wn 3) (wx w_int))) wa_nil)))))))))) (s_one (s_ret w_bl)) s_nil)
     (s_cons (s_set (i:=10) S.nd rfl (Or.inl rfl) (w_ix rfl (wx (w_ix rfl (wn 3) (wx w_int))) (wx w_int)))
     (s_cons (s_set (i:=11) S.nd rfl (Or.inl rfl) (w_ix rfl (wx (w_ix rfl (wn 3) (wx w_int))) (wx w_int)))
     (s_one (s_ret (w_and (w_cmp ok_eq (op_eqE (K:=K) rfl hr.units) (wn 4) (wx (w_bin ok_add op_addD (wx (w_ix rfl (wn 10) (wx w_int))) (wx (w_ix rfl (wn 11) (wx w_int)))))) (w_and (w_cmp ok_le op_le (wn 5) (wx (w_callB ok_2I (call_min2 rfl) T.min_ boot_min (wa_cons (wx (w_ix rfl (wn 10) (wx w_int))) (wa_cons (wx (w_ix rfl (wn 11) (wx w_int))) wa_nil))))) (w_one (w_cmp ok_ge op_ge (wn 6) (wx (w_callB ok_2I (call_max2 rfl) T.max_ boot_max (wa_cons (wx (w_ix rfl (wn 10) (wx w_int))) (wa_cons (wx (w_ix rfl (wn 11) (wx w_int))) wa_nil))))))))))))))))))))) ?_ ?_
 ·rintro args Qd ⟨sd,cl,bx,p,rfl,_⟩;rfl
 ·rintro args Qd ⟨sd,cl,bx,p,rfl,hsd,hcl,hbx,hex,q⟩
  refine ⟨noOw_of rfl,?_⟩
  have hbl:=bx_len hbx
  have h3:=hsd.l3
  cases p with
  | cell t l h =>
   refine ⟨[2,6],rfl,?_⟩
   refine ⟨_,rfl,?_⟩
   refine ⟨_,rfl,[t,l,h],rfl,rfl,λo=>?_⟩
   refine ⟨_,rfl,rfl,?_⟩
   refine ⟨_,rfl,sd,cl,bx.1,rfl,hsd,hcl,(bx_wi hbx).1,λo=>?_⟩
   have n1:=Nice.tup bx.1
   have n2:=Nice.tup bx.2
   have eo:okP sd cl bx (.cell t l h)=(decide (bx.1=bx.2)&&(decide (t=cel sd cl bx.1)&&(decide (l<=cel sd cl bx.1)&&decide (cel sd cl bx.1<=h)))):=rfl
   rw[eo]at q
   refine ⟨_,rfl,?_⟩
   refine ⟨_,rfl,_,rfl,n1.p,n2.p,n1.sh (by decide),n2.sh (by decide),mix_tup _ _,?_⟩
   refine ite2 (λh1=>?_) (λh1=>?_)
   ·have h1:same (tupD bx.1) (tupD bx.2)=true:=h1
    rw[same_tup]at h1
    rw[h1,P2]at q
    refine ite2 (λh2=>?_) (λh2=>?_)
    ·have h2:decide (t=cel sd cl bx.1)=true:=h2
     rw[h2,P2]at q
     refine ite2 (λh4=>?_) (λh4=>?_)
     ·have h4:decide (l<=cel sd cl bx.1)=true:=h4
      rw[h4,P2]at q
      exact q _
     ·have h4:¬decide (l<=cel sd cl bx.1)=true:=h4
      rw[E1.mpr h4,U1]at q
      exact q _
    ·have h2:¬decide (t=cel sd cl bx.1)=true:=h2
     rw[E1.mpr h2,U1]at q
     exact q _
   ·have h1:¬same (tupD bx.1) (tupD bx.2)=true:=h1
    rw[same_tup]at h1
    rw[E1.mpr h1,U1]at q
    exact q _
  | cut t l h wy at_ p1 p2 =>
   have eo:okP sd cl bx (.cut t l h wy at_ p1 p2)=(cutB bx wy at_&&(letB [t,l,h] (comb p1.cl p2.cl)&&(okP sd cl (bxL bx wy at_) p1&&okP sd cl (bxR bx wy at_) p2))):=rfl
   rw[eo]at q
   refine ⟨[2,6],rfl,_,rfl,?_⟩
   refine ⟨_,rfl,[t,l,h],rfl,rfl,λo=>?_⟩
   refine ⟨_,rfl,rfl,?_⟩
   refine ⟨_,rfl,?_⟩
   refine ⟨by decide,by decide,[wy,at_],rfl,by simp,λo=>?_⟩
   refine ⟨_,rfl,bx,rfl,by omega,by omega,λo=>⟨lws bx,rfl,?_⟩⟩
   refine ite2 (λh1=>?_) (λh1=>?_)
   ·have h1:(!decide (wy∈lws bx))=true:=h1
    have h1:wy∉lws bx:=by simpa using h1
    rw[show cutB bx wy at_=false from E1.mpr λz=>h1 (cutB_lws (by omega) z),U1]at q
    exact q _
   have h1:¬(!decide (wy∈lws bx))=true:=h1
   have h1:wy∈lws bx:=by simpa using h1
   obtain⟨i,lo,hi,rfl,hi1,e1,e2,hlt⟩:=lws_mem (by omega) h1
   have g1:bx.1.getD i 0=lo:=getD_at e1
   have g2:bx.2.getD i 0=hi:=getD_at e2
   have ec:cutB bx (i:Int) at_=(decide (lo<=at_)&&decide (at_ < hi)):=by
    unfold cutB
    rw[T4,g1,g2,decide_eq_true (show (0:Int)<=i by omega),decide_eq_true (show (i:Int) < bx.1.length by omega)]
    rfl
   refine ⟨_,rfl,_,rfl,_,at_ints hi1,_,rfl,?_⟩
   rw[g1]
   refine ite2 (λh2=>?_) (λh2=>?_)
   rotate_left
   ·have h2:¬decide (lo<=at_)=true:=h2
    rw[ec,E1.mpr h2,U1,U1]at q
    exact q _
   have h2:decide (lo<=at_)=true:=h2
   refine ⟨_,rfl,_,rfl,_,at_ints (by omega),?_⟩
   rw[g2]
   refine ite2 (λh4=>?_) (λh4=>?_)
   ·have h4:(!decide (at_ < hi))=true:=h4
    rw[ec,show decide (at_ < hi)=false by simpa using h4,B5,U1]at q
    exact q _
   have h4:¬(!decide (at_ < hi))=true:=h4
   have h4:decide (at_ < hi)=true:=by simpa using h4
   have hcut:cutB bx (i:Int) at_=true:=by rw[ec,h2,h4];rfl
   rw[hcut,P2]at q
   obtain⟨k1,k2,k3,k4⟩:=cutB_is hcut
   have hexc:=ex_cut (b:=bx) (w:=(i:Int)) (a:=at_) (by omega) hcut
   obtain⟨m,rfl⟩:∃m,n=m+1:=⟨n - 1,by omega⟩
   refine ⟨_,rfl,_,rfl,bx,(i:Int),at_,rfl,k1,k2,by omega,by omega,λo=>⟨rfl,?_⟩⟩
   refine ⟨_,rfl,sd,cl,bxL bx (i:Int) at_,p1,rfl,hsd,hcl,bxL_bx hbx hcut,by omega,λo=>?_⟩
   cases f1:okP sd cl (bxL bx (i:Int) at_) p1 with
   | false =>
    rw[f1,U1,B5]at q
    exact q _
   | true =>
    rw[f1,P2]at q
    refine ⟨_,rfl,sd,cl,bxR bx (i:Int) at_,p2,rfl,hsd,hcl,bxR_bx hbx hcut,by omega,λo=>?_⟩
    cases f2:okP sd cl (bxR bx (i:Int) at_) p2 with
    | false =>
     rw[f2,B5]at q
     exact q _
    | true =>
     rw[f2,b8]at q
     have fin:∀(u1 v1 z1 u2 v2 z2:Int),p1.cl=[u1,v1,z1]->p2.cl=[u2,v2,z2]->∀o,Qd (.fz (.bool (decide (t=u1+u2)&&(decide (l<=if v2 < v1 then v2 else v1)&&decide ((if z2 > z1 then z2 else z1)<=h))))) o:=λu1 v1 z1 u2 v2 z2 y1 y2 o=>by
      have:=q o
      rw[y1,y2,letB_comb]at this
      exact this
     clear q f1 f2 eo
     cases p1<;>cases p2
     all_goals
      replace fin:=fin _ _ _ _ _ _ rfl rfl
      refine ⟨_,rfl,_,rfl,_,rfl,_,rfl,?_⟩
      refine ⟨_,rfl,_,rfl,?_⟩
      refine ite2 (λm1=>?_) (λm1=>?_)
      ·rw[m1,P2]at fin
       refine ⟨_,rfl,_,rfl,?_⟩
       refine ite2 (λm2=>?_) (λm2=>?_)
       ·rw[m2,P2]at fin
        exact ⟨_,rfl,_,rfl,fin _⟩
       ·rw[E1.mpr m2,U1]at fin
        exact fin _
      ·rw[E1.mpr m1,U1]at fin
       exact fin _
theorem ok_hol{f:Addr}{fd:FuncData}(F:Fun K "_law_holds" "_law_holds" (top 51) f fd)(T:Txt mg)(C:CalsH0 P w K mg base)(R:Slf K mg "_law_holds" f fd ["_law_sides_here","_law_numbers","_law_box_here","_law_thing"]):FnOk P w K mg base CX0 34 f fd ["_law_sides_here","_law_numbers","_law_box_here","_law_thing"] (conSp K (cHol 31)):=by
 have all:∀n,Cal P w K mg base (n+3) "_law_holds" ["_law_sides_here","_law_numbers","_law_box_here","_law_thing"] (conSp K (cHol n)):=λn=>by
  induction n with
  | zero=>exact ⟨⟨f,fd,ok_no,R.m,R.k,R.b⟩⟩
  | succ n ih=>exact ⟨⟨f,fd,ok_holG F T ⟨C,ih⟩,R.m,R.k,R.b⟩⟩
 exact ok_holG F T ⟨C,all 30⟩
end
theorem okP_ends{sd cl:List Int}(p:Pp):∀{b:Bxx},Bx b.1 b.2 sd->okP sd cl b p=true->∀x∈cels sd cl b.1 b.2,p.cl.getD 1 0<=x/\x<=p.cl.getD 2 0:=by
 induction p with
 | cell t l h =>
  intro b hb hk x hx
  obtain⟨h1,h2,h3,h4⟩:=okP_cell hk
  rw[cels_one h1]at hx
  rw[A1.mp hx]
  exact ⟨h3,h4⟩
 | cut t l h w a p q ihp ihq =>
  intro b hb hk x hx
  obtain⟨h1,h2,h3,h4⟩:=okP_cut hk
  have h2:(decide (t=(comb p.cl q.cl).getD 0 0)&&(decide (l<=(comb p.cl q.cl).getD 1 0)&&decide ((comb p.cl q.cl).getD 2 0<=h)))=true:=h2
  simp only[Y0,decide_eq_true_eq]at h2
  have k1:l<=min (p.cl.getD 1 0) (q.cl.getD 1 0):=h2.2.1
  have k2:max (p.cl.getD 2 0) (q.cl.getD 2 0)<=h:=h2.2.2
  show l<=x/\x<=h
  rcases Z2.mp ((cels_cut hb h1).mem_iff.mp hx) with z|z
  ·have:=ihp (bxL_bx hb h1) h3 x z;omega
  ·have:=ihq (bxR_bx hb h1) h4 x z;omega
section
variable {P:Program}{w:World}{K:j0}{mg:Str->Option Value}{base:Heap}
structure CalsSh(P:Program)(w:World)(K:j0)(mg:Str->Option Value)(base:Heap):Prop where
 law_part:Cal P w K mg base 2 "_law_part" ["_law_sides_here","_law_numbers","_law_box_here"] (conSp K cPart)
noncomputable def cSh:Con:=λargs Q=>∃(sd cl:List Int) (bx:Bxx) (p:Pp),args=[.fz (tupD sd),.fz (liD cl),.fz (boxD bx),.fz (pD p)]/\Sd sd/\cl.length=(plc sd).length/\Bx bx.1 bx.2 sd/\okP sd cl bx p=true/\∀o,Q (.fz (.bool true)) o
theorem scSh:FnScope ["_law_sides_here","_law_numbers","_law_box_here","_law_paper_here","_law_part_here","_law_total","_law_low","_law_high"] ["_law_sides_here","_law_numbers","_law_box_here","_law_paper_here"] (defScope (top 55)):=⟨rfl,rfl,rfl,by decide +kernel,rfl,by decide +kernel,by decide +kernel⟩
theorem ok_sh{f:Addr}{fd:FuncData}(F:Fun K "_law_shows" "_law_shows" (top 55) f fd)(T:Txt mg)(C:CalsSh P w K mg base):FnOk P w K mg base CX0 3 f fd ["_law_sides_here","_law_numbers","_law_box_here","_law_paper_here"] (conSp K cSh):=by
 have S:=scSh
 refine wfn F S (λcdv A outer s H E hr=>(s_cons (s_set (i:=4) S.nd rfl (Or.inl rfl) (w_fn C.law_part (hr.mono (by first|decide|omega)) (wa_cons (wn 0) (wa_cons (wn 1) (wa_cons (wn 2) wa_nil)))))
     (s_cons (s_asgG (w_ix rfl (wn 3) (wx w_int)) (g_tup rfl rfl (gs_cons (g_name (i:=5) S.nd rfl (Or.inl rfl)) (gs_cons (g_name (i:=6) S.nd rfl (Or.inl rfl)) (gs_cons (g_name (i:=7) S.nd rfl (Or.inl rfl)) gs_nil)))))
     (s_one (s_ret (w_and (w_cmp ok_eq (op_eqE (K:=K) rfl hr.units) (wn 5) (wx (w_callB ok_sum (call_sumK (K:=K) rfl rfl) T.sum_ boot_sum (wa_cons (wn 4) wa_nil)))) (w_and (w_cmp ok_le op_le (wn 6) (wx (w_callB ok_mnI (call_mnI (K:=K) rfl rfl) T.min_ boot_min (wa_cons (wn 4) wa_nil)))) (w_one (w_cmp ok_ge op_ge (wn 7) (wx (w_callB ok_mxI (call_mxI (K:=K) rfl rfl) T.max_ boot_max (wa_cons (wn 4) wa_nil)))))))))))) ?_ ?_
 ·rintro args Qd ⟨sd,cl,bx,p,rfl,_⟩;rfl
 ·rintro args Qd ⟨sd,cl,bx,p,rfl,hsd,hcl,hbx,hok,q⟩
  refine ⟨noOw_of rfl,?_⟩
  have hne:cels sd cl bx.1 bx.2≠[]:=cels_ne hbx
  have hsum:=(okP_sum p hbx hok).1
  have hend:=okP_ends p hbx hok
  obtain⟨w1,r1,e1⟩:=pD_is p
  obtain⟨t,l,h,e2⟩:=cl_is p
  rw[e2]at e1 hsum hend
  rw[e1]
  with_reducible refine cutS (λρ=>ρ=[some (.fz (tupD sd)),some (.fz (liD cl)),some (.fz (boxD bx)),some (.fz (.tuple (w1 :: tupD [t,l,h] :: r1))),some (.ow (liD (cels sd cl bx.1 bx.2))),none,none,none]) ?_ ?_
  ·intro N hN
   exact ⟨sd,cl,bx,rfl,hsd,hcl,hbx,λo=>hN _ rfl⟩
  rintro _ rfl
  generalize ecs:cels sd cl bx.1 bx.2=cs at hne hsum hend
  refine ⟨_,atI_nat (j:=1) rfl,rfl,?_⟩
  refine ⟨cs,rfl,?_⟩
  have ht:t=cs.sum:=hsum
  refine ite2 (λ_=>?_) (λz=>(z (decide_eq_true ht)).elim)
  refine ⟨cs,rfl,o4.mpr hne,λm1 hm1 hm2=>?_⟩
  have hl:l<=m1:=(hend m1 hm1).1
  refine ite2 (λ_=>?_) (λz=>(z (decide_eq_true hl)).elim)
  refine ⟨cs,rfl,o4.mpr hne,λm2 hm3 hm4=>?_⟩
  have hh:m2<=h:=(hend m2 hm3).2
  have e:decide (m2<=h)=true:=decide_eq_true hh
  show Qd (.fz (.bool (decide (m2<=h)))) _
  rw[e]
  exact q _
end
noncomputable def Pp.sub:Pp->List Int->Option Pp
 | p,[]=>some p
 | .cut _ _ _ _ _ p q,x :: r=>if x=4 then p.sub r else if x=5 then q.sub r else none
 | .cell _ _ _,_ :: _=>none
noncomputable def Pp.put:Pp->List Int->Pp->Pp
 | _,[],f=>f
 | .cut t l h w a p q,x :: r,f=>if x=4 then .cut t l h w a (p.put r f) q else .cut t l h w a p (q.put r f)
 | .cell t l h,_ :: _,_=>.cell t l h
theorem Pp.sub_sz(p:Pp):∀{r:List Int}{o:Pp},p.sub r=some o->r.length+o.sz<=p.sz:=by
 induction p with
 | cell t l h =>
  intro r o e
  cases r with
  | nil=>cases e;simp
  | cons x r=>cases e
 | cut t l h w a p q ihp ihq =>
  intro r o e
  cases r with
  | nil=>cases e;simp
  | cons x r =>
   have e:(if x=4 then p.sub r else if x=5 then q.sub r else none)=some o:=e
   show (x :: r).length+o.sz<=1+p.sz+q.sz
   rw[Z1]
   by_cases h4:x=4
   ·rw[if_pos h4]at e
    have:=ihp e
    omega
   ·rw[if_neg h4]at e
    by_cases h5:x=5
    ·rw[if_pos h5]at e
     have:=ihq e
     omega
    ·rw[if_neg h5]at e
     cases e
theorem Pp.put_sz(p:Pp):∀{r:List Int}{o:Pp} (f:Pp),p.sub r=some o->(p.put r f).sz+o.sz=p.sz+f.sz:=by
 induction p with
 | cell t l h =>
  intro r o f e
  cases r with
  | nil=>cases e;show f.sz+1=1+f.sz;omega
  | cons x r=>cases e
 | cut t l h w a p q ihp ihq =>
  intro r o f e
  cases r with
  | nil=>cases e;show f.sz+_=_+f.sz;omega
  | cons x r =>
   have e:(if x=4 then p.sub r else if x=5 then q.sub r else none)=some o:=e
   show (if x=4 then Pp.cut t l h w a (p.put r f) q else .cut t l h w a p (q.put r f)).sz+o.sz=1+p.sz+q.sz+f.sz
   by_cases h4:x=4
   ·rw[if_pos h4]at e ⊢
    have:=ihp f e
    show 1+(p.put r f).sz+q.sz+o.sz=_
    omega
   ·rw[if_neg h4]at e ⊢
    by_cases h5:x=5
    ·rw[if_pos h5]at e
     have:=ihq f e
     show 1+p.sz+(q.put r f).sz+o.sz=_
     omega
    ·rw[if_neg h5]at e
     cases e
theorem Pp.sub_snoc(p:Pp):∀{r:List Int}{t l h w a:Int}{p1 p2:Pp},p.sub r=some (.cut t l h w a p1 p2)->p.sub (r++[4])=some p1/\p.sub (r++[5])=some p2:=by
 induction p with
 | cell t l h =>
  intro r t l h w a p1 p2 e
  cases r with
  | nil=>cases e
  | cons x r=>cases e
 | cut t l h w a p q ihp ihq =>
  intro r t' l' h' w' a' p1 p2 e
  cases r with
  | nil=>cases e;exact ⟨by simp[Pp.sub],by simp[Pp.sub]⟩
  | cons x r =>
   have e:(if x=4 then p.sub r else if x=5 then q.sub r else none)=some (.cut t' l' h' w' a' p1 p2):=e
   show (if x=4 then p.sub (r++[4]) else if x=5 then q.sub (r++[4]) else none)=some p1/\(if x=4 then p.sub (r++[5]) else if x=5 then q.sub (r++[5]) else none)=some p2
   by_cases h4:x=4
   ·rw[if_pos h4]at e ⊢
    rw[if_pos h4]
    exact ihp e
   ·rw[if_neg h4]at e ⊢
    rw[if_neg h4]
    by_cases h5:x=5
    ·rw[if_pos h5]at e ⊢
     rw[if_pos h5]
     exact ihq e
    ·rw[if_neg h5]at e
     cases e
noncomputable abbrev rdD(x:List Int×Pp):PyData:=.tuple [tupD x.1,pD x.2]
noncomputable def szs(ws:List (List Int×Pp)):Nat:=(ws.map λz=>z.2.sz).sum
theorem szs_app(a b:List (List Int×Pp)):szs (a++b)=szs a+szs b:=by unfold szs;rw[j2,List.sum_append]
theorem szs_len:∀ws:List (List Int×Pp),ws.length<=szs ws
 | []=>by simp
 | z :: ws=>by
  have:=z.2.sz1
  have:=szs_len ws
  unfold szs at *
  simp only[K1,V2,Z1]
  omega
theorem same_nilR(l:List PyData):same (.list l) (.list [])=decide (l=[]):=by
 cases l with
 | nil=>rfl
 | cons a l=>simp[same,sameAll]
theorem mix_nilR(l:List PyData):SeqAt.noMix (.list l) (.list [])=true:=by
 cases l<;>simp[SeqAt.noMix,SeqAt.noMixAll]
section
variable {P:Program}{w:World}{K:j0}{mg:Str->Option Value}{base:Heap}
noncomputable def cRo:Con:=λargs Q=>∃p:Pp,args=[.fz (pD p)]/\p.sz<=35/\∀(rs:List (List Int×Pp)) (o:Ev),rs≠[]->rs.length<=35->(∀z∈rs,p.sub z.1=some z.2)->Q (.ow (.list (rs.map rdD))) o
theorem scRo:FnScope ["_law_paper_here","_law_left","_law_found","_law_road","_law_one"] ["_law_paper_here"] (defScope (top 52)):=⟨rfl,rfl,rfl,by decide +kernel,rfl,by decide +kernel,by decide +kernel⟩
theorem ok_ro{f:Addr}{fd:FuncData}(F:Fun K "_law_roads" "_law_roads" (top 52) f fd):FnOk P w K mg base CX0 1 f fd ["_law_paper_here"] (conSp K cRo):=by
 have S:=scRo
 refine wfn F S (λcdv A outer s H E hr=>(s_cons (s_set (i:=1) S.nd rfl (Or.inl rfl) (w_lst (wa_cons (wx (w_tup (wa_cons (wx (w_tup wa_nil)) (wa_cons (wx (wv 0)) wa_nil)))) wa_nil)))
     (s_cons (s_set (i:=2) S.nd rfl (Or.inl rfl) (w_lst wa_nil))
     (s_cons (s_while PassesOwn.never (t_cmp ok_ne (op_neE (K:=K) rfl hr.units) (wn 1) (wx (w_lst wa_nil))) (s_cons (s_asgG (w_m0 ok_pop rfl PySem.F.slot_list_pop PySem.F.type_list_pop mt_pop (wn 1)) (g_tup rfl rfl (gs_cons (g_name (i:=3) S.nd rfl (Or.inl rfl)) (gs_cons (g_name (i:=4) S.nd rfl (Or.inl rfl)) gs_nil))))
     (s_cons (s_expr (w_m ok_append rfl PySem.F.slot_list_append PySem.F.type_list_append mt_append (wn 2) (wa_cons (wx (w_tup (wa_cons (wx (wv 3)) (wa_cons (wx (wv 4)) wa_nil)))) wa_nil)))
     (s_one (s_if (t_cmp ok_eq (op_eqE (K:=K) rfl hr.units) (wx (w_ix rfl (wn 4) (wx w_int))) (wx w_str)) (s_one (s_expr (w_m ok_extend rfl PySem.F.slot_list_extend PySem.F.type_list_extend mt_extend (wn 1) (wa_cons (wx (w_lst (wa_cons (wx (w_tup (wa_cons (wx (w_bin ok_add op_addD (wn 3) (wx (w_tup (wa_cons (wx w_int) wa_nil))))) (wa_cons (wx (w_ix rfl (wn 4) (wx w_int))) wa_nil)))) (wa_cons (wx (w_tup (wa_cons (wx (w_bin ok_add op_addD (wn 3) (wx (w_tup (wa_cons (wx w_int) wa_nil))))) (wa_cons (wx (w_ix rfl (wn 4) (wx w_int))) wa_nil)))) wa_nil)))) wa_nil)))) s_nil)))))
     (s_one (s_retV (wn 2))))))) ?_ ?_
 ·rintro args Qd ⟨p,rfl,_⟩;rfl
 ·rintro args Qd ⟨p,rfl,hz,q⟩
  refine ⟨noOw_of rfl,?_⟩
  refine ⟨λm ρ=>∃(ws fs:List (List Int×Pp)) (x y:Option Sl),ρ=[some (.fz (pD p)),some (.ow (.list (ws.map rdD))),some (.ow (.list (fs.map rdD))),x,y]/\(∀z∈ws,p.sub z.1=some z.2)/\(∀z∈fs,p.sub z.1=some z.2)/\fs.length+szs ws=p.sz/\m=szs ws/\((x=none/\y=none)\/∃d e,x=some (.fz d)/\y=some (.fz e)),⟨_,[([],p)],[],none,none,rfl,by intro z hz;rw[A1.mp hz];cases p<;>rfl,by simp,by simp[szs],rfl,.inl ⟨rfl,rfl⟩⟩,?_⟩
  rintro m ρ ⟨ws,fs,x,y,rfl,hws,hfs,hsz,rfl,hxy⟩
  have hwl:=szs_len ws
  have nn:Nice 1 (Q3 []):=Nice.ints []
  have nl:Nice 54 (.list (ws.map rdD)):=Nice.list λd hd=>by
   obtain⟨z,hz,rfl⟩:=U0.mp hd
   refine Nice.tuple (n:=52) λd hd=>?_
   have hd:d=tupD z.1\/d=pD z.2:=by simpa using hd
   have h50:=p.sub_sz (hws z hz)
   have h51:=z.2.szl
   rcases hd with rfl|rfl
   ·exact (Nice.tup z.1).mono (by decide)
   ·exact z.2.nice.mono (by omega)
  rcases hxy with⟨rfl,rfl⟩|⟨d,e,rfl,rfl⟩
  all_goals
   refine ⟨nl.p,nn.p,nl.sh (by decide),nn.sh (by decide),mix_nilR _,ite2 (λh=>?_) (λh=>?_)⟩
   ·have h:(!same (.list (ws.map rdD)) (.list []))=true:=h
    rw[same_nilR]at h
    refine ⟨λρ'=>∃m',m' < szs ws/\_,λρ' h=>h,?_⟩
    obtain⟨ws,⟨rr,pp⟩,rfl⟩:∃ws' x,ws=ws'++[x]:=by
     rcases J7 ws with e|⟨a,b,e⟩
     ·subst e;simp at h
     ·exact ⟨a,b,by simpa using e⟩
    have e1:((ws++[(rr,pp)]).map rdD)[((ws++[(rr,pp)]).map rdD).length - 1]?=some (rdD (rr,pp)):=by simp
    have e2:((ws++[(rr,pp)]).map rdD).dropLast=ws.map rdD:=by simp
    have hko:p.sub rr=some pp:=hws (rr,pp) (by simp)
    have hw':∀z∈ws,p.sub z.1=some z.2:=λz hz=>hws z (by simp[hz])
    have hf':∀z∈fs++[(rr,pp)],p.sub z.1=some z.2:=λz hz=>by
     rcases Z2.mp hz with hz|hz
     ·exact hfs z hz
     ·rw[A1.mp hz];exact hko
    have hsum:szs (ws++[(rr,pp)])=szs ws+pp.sz:=by rw[szs_app];simp[szs]
    have ef:(fs++[(rr,pp)]).map rdD=fs.map rdD++[rdD (rr,pp)]:=by rw[j2];rfl
    rw[hsum]at hsz ⊢
    have hpos:=pp.sz1
    have hrl:=p.sub_sz hko
    have hwl:=szs_len ws
    refine ⟨_,e1,?_⟩
    rw[e2]
    refine ⟨rfl,?_⟩
    refine ⟨by rw[A0];exact E3 (show fs.length<=35 by omega) (by decide),?_⟩
    cases pp with
    | cell t l hh =>
     refine ⟨_,rfl,?_⟩
     exact ⟨_,by show szs ws < szs ws+1;omega,ws,fs++[(rr,.cell t l hh)],_,_,by rw[ef];rfl,hw',hf',by rw[Z0];simp only[Pp.sz,A3]at hsz ⊢;omega,rfl,.inr ⟨_,_,rfl,rfl⟩⟩
    | cut t l hh wy at_ p1 p2 =>
     obtain⟨k1,k2⟩:=p.sub_snoc hko
     have esz:(Pp.cut t l hh wy at_ p1 p2).sz=1+p1.sz+p2.sz:=rfl
     rw[esz]at hsz hrl ⊢
     have z1:=p1.sz1
     have z2:=p2.sz1
     have eb:(ws++[(rr++[4],p1),(rr++[5],p2)]).map rdD=ws.map rdD++[.tuple [.tuple (rr.map q0++[.int 4]),pD p1],.tuple [.tuple (rr.map q0++[.int 5]),pD p2]]:=by rw[j2];simp
     have es:szs (ws++[(rr++[4],p1),(rr++[5],p2)])=szs ws+(p1.sz+p2.sz):=by rw[szs_app];simp[szs]
     refine ⟨_,rfl,?_⟩
     refine ⟨le_size (by simp;omega),_,rfl,le_size (by simp;omega),_,rfl,le_size (by simp;omega),?_⟩
     refine ⟨_,?_,ws++[(rr++[4],p1),(rr++[5],p2)],fs++[(rr,.cut t l hh wy at_ p1 p2)],_,_,by rw[eb,ef];rfl,λz hz=>?_,hf',?_,rfl,.inr ⟨_,_,rfl,rfl⟩⟩
     ·rw[es];omega
     ·rcases Z2.mp hz with hz|hz
      ·exact hw' z hz
      ·have hz:z=(rr++[4],p1)\/z=(rr++[5],p2):=by simpa using hz
       rcases hz with rfl|rfl
       ·exact k1
       ·exact k2
     ·rw[es,Z0,A3];omega
   ·have h:¬(!same (.list (ws.map rdD)) (.list []))=true:=h
    rw[same_nilR]at h
    have e:ws=[]:=by
     cases ws with
     | nil=>rfl
     | cons a b=>simp at h
    subst e
    have hsz:fs.length+0=p.sz:=hsz
    have:=p.sz1
    exact q fs _ (λz=>by rw[z]at hsz;simp at hsz;omega) (by omega) hfs
noncomputable def cWi:Nat->Con
 | 0=>λ_ _=>False
 | n+1=>λargs Q=>∃(p f o:Pp) (r:List Int),args=[.fz (pD p),.fz (tupD r),.fz (pD f)]/\p.sub r=some o/\r.length<=n/\n<=100/\∀o,Q (.fz (pD (p.put r f))) o
structure CalsWi(n:Nat)(P:Program)(w:World)(K:j0)(mg:Str->Option Value)(base:Heap):Prop where
 law_with:Cal P w K mg base n "_law_with" ["_law_paper_here","_law_road","_law_fresh"] (conSp K (cWi n))
theorem scWi:FnScope ["_law_paper_here","_law_road","_law_fresh","_law_at","_law_inner"] ["_law_paper_here","_law_road","_law_fresh"] (defScope (top 53)):=⟨rfl,rfl,rfl,by decide +kernel,rfl,by decide +kernel,by decide +kernel⟩
theorem ok_wiG{n:Nat}{f:Addr}{fd:FuncData}(F:Fun K "_law_with" "_law_with" (top 53) f fd)(C:CalsWi n P w K mg base):FnOk P w K mg base CX0 (n+1) f fd ["_law_paper_here","_law_road","_law_fresh"] (conSp K (cWi (n+1))):=by
 have S:=scWi
 refine wfn F S (λcdv A outer s H E hr=>(s_cons (s_if (t_cmp ok_eq (op_eqE (K:=K) rfl hr.units) (wn 1) (wx (w_tup wa_nil))) (s_one (s_retV (wn 2))) s_nil)
     (s_cons (s_set (i:=3) S.nd rfl (Or.inl rfl) (w_ix rfl (wn 1) (wx w_int)))
     (s_cons (s_set (i:=4) S.nd rfl (Or.inl rfl) (w_fn C.law_with (hr.mono (by first|decide|omega)) (wa_cons (wx (w_ix rfl (wn 0) (wn 3))) (wa_cons (wx (w_sl1T rfl (wn 1) (wx w_int))) (wa_cons (wn 2) wa_nil)))))
     (s_one (s_ret (w_bin ok_add op_addD (wx (w_bin ok_add op_addD (wx (w_sl2T rfl (wn 0) (wn 3))) (wx (w_tup (wa_cons (wx (wv 4)) wa_nil))))) (wx (w_sl1T rfl (wn 0) (wx (w_bin ok_add op_addD (wn 3) (wx w_int)))))))))))) ?_ ?_
 ·rintro args Qd ⟨p,f,o,r,rfl,_⟩;rfl
 ·rintro args Qd ⟨p,f,o,r,rfl,hs,hl,hn,q⟩
  refine ⟨noOw_of rfl,?_⟩
  have n1:=Nice.tup r
  have n2:=Nice.tup []
  refine ⟨n1.p,n2.p,n1.sh (by decide),n2.sh (by decide),mix_tup r [],ite2 (λh=>?_) (λh=>?_)⟩
  ·have h:same (tupD r) (tupD [])=true:=h
   rw[same_tup]at h
   have h:=of_decide_eq_true h
   subst h
   have e:p.put [] f=f:=by cases p<;>rfl
   rw[e]at q
   exact q _
  ·have h:¬same (tupD r) (tupD [])=true:=h
   rw[same_tup]at h
   cases r with
   | nil=>exact absurd (decide_eq_true rfl) h
   | cons x r =>
    cases p with
    | cell t l hh=>cases hs
    | cut t l hh wy at_ p1 p2 =>
     have hs:(if x=4 then p1.sub r else if x=5 then p2.sub r else none)=some o:=hs
     rw[Z1]at hl
     obtain⟨m,rfl⟩:∃m,n=m+1:=⟨n - 1,by omega⟩
     by_cases h4:x=4
     ·subst h4
      rw[if_pos rfl]at hs
      refine ⟨_,atI_nat (j:=0) rfl,?_⟩
      refine ⟨_,rfl,by decide,p1,f,o,r,rfl,hs,by omega,by omega,λo'=>?_⟩
      exact ⟨by decide,le_size (by simp),by decide,le_size (by simp),q _⟩
     ·rw[if_neg h4]at hs
      by_cases h5:x=5
      ·subst h5
       rw[if_pos rfl]at hs
       refine ⟨_,atI_nat (j:=0) rfl,?_⟩
       refine ⟨_,rfl,by decide,p2,f,o,r,rfl,hs,by omega,by omega,λo'=>?_⟩
       exact ⟨by decide,le_size (by simp),by decide,le_size (by simp),q _⟩
      ·rw[if_neg h5]at hs
       cases hs
theorem ok_wi{f:Addr}{fd:FuncData}(F:Fun K "_law_with" "_law_with" (top 53) f fd)(R:Slf K mg "_law_with" f fd ["_law_paper_here","_law_road","_law_fresh"]):FnOk P w K mg base CX0 38 f fd ["_law_paper_here","_law_road","_law_fresh"] (conSp K (cWi 38)):=by
 have all:∀n,Cal P w K mg base n "_law_with" ["_law_paper_here","_law_road","_law_fresh"] (conSp K (cWi n)):=λn=>by
  induction n with
  | zero=>exact ⟨⟨f,fd,ok_no,R.m,R.k,R.b⟩⟩
  | succ n ih=>exact ⟨⟨f,fd,ok_wiG F ⟨ih⟩,R.m,R.k,R.b⟩⟩
 exact ok_wiG F ⟨all 37⟩
end
section
variable {P:Program}{w:World}{K:j0}{mg:Str->Option Value}{base:Heap}
structure CalsBe(P:Program)(w:World)(K:j0)(mg:Str->Option Value)(base:Heap):Prop where
 law_roads:Cal P w K mg base 1 "_law_roads" ["_law_paper_here"] (conSp K cRo)
 law_draw:Cal P w K mg base 1 "_law_draw" ["_law_pen_here","_law_many"] (conSp K cDraw)
 law_with:Cal P w K mg base 38 "_law_with" ["_law_paper_here","_law_road","_law_fresh"] (conSp K (cWi 38))
noncomputable def cBe:Con:=λargs Q=>∃(a b c:Int) (p:Pp),args=[.io (penD a b c),.fz (pD p)]/\0<=a/\0<=b/\0<=c/\p.sz<=35 /\
 ∀(p':Pp) (a' b' c':Int) (o:Ev),p'.sz<=35->0<=a'->0<=b'->0<=c'->Q (.fz (pD p')) (some (.io (penD a' b' c')) :: o)
theorem scBe:FnScope ["_law_pen_here","_law_paper_here","_law_some","_law_road","_law_one","_law_way","_law_more","_law_within","_law_claim","_law_spot"] ["_law_pen_here","_law_paper_here"] (defScope (top 54)):=⟨rfl,rfl,rfl,by decide +kernel,rfl,by decide +kernel,by decide +kernel⟩
theorem ok_be{f:Addr}{fd:FuncData}(F:Fun K "_law_bent" "_law_bent" (top 54) f fd)(T:Txt mg)(C:CalsBe P w K mg base):FnOk P w K mg base CX0 39 f fd ["_law_pen_here","_law_paper_here"] (conSp K cBe):=by
 have S:=scBe
 refine wfn F S (λcdv A outer s H E hr=>(s_cons (s_set (i:=2) S.nd rfl (Or.inl rfl) (w_fn C.law_roads (hr.mono (by first|decide|omega)) (wa_cons (wn 1) wa_nil)))
     (s_cons (s_asgG (w_ix rfl (wn 2) (wx (w_fnI C.law_draw (hr.mono (by first|decide|omega)) (wa_cons (wn 0) (wa_cons (wx (w_callB ok_len (call_lenK (K:=K) rfl) T.len_ PySem.boot_len (wa_cons (wn 2) wa_nil))) wa_nil))))) (g_tup rfl rfl (gs_cons (g_name (i:=3) S.nd rfl (Or.inl rfl)) (gs_cons (g_name (i:=4) S.nd rfl (Or.inl rfl)) gs_nil))))
     (s_cons (s_set (i:=5) S.nd rfl (Or.inl rfl) (w_fnI C.law_draw (hr.mono (by first|decide|omega)) (wa_cons (wn 0) (wa_cons (wx w_int) wa_nil))))
     (s_cons (s_set (i:=6) S.nd rfl (Or.inl rfl) (w_bin ok_sub op_sub (wx w_int) (wx (w_bin ok_mul op_mulD (wx w_int) (wx (w_fnI C.law_draw (hr.mono (by first|decide|omega)) (wa_cons (wn 0) (wa_cons (wx w_int) wa_nil))))))))
     (s_cons (s_if (t_cmp ok_eq (op_eqE (K:=K) rfl hr.units) (wn 5) (wx w_int)) (s_cons (s_set (i:=7) S.nd rfl (Or.inl rfl) (w_fn C.law_roads (hr.mono (by first|decide|omega)) (wa_cons (wn 4) wa_nil)))
     (s_one (s_ret (w_fn C.law_with (hr.mono (by first|decide|omega)) (wa_cons (wn 1) (wa_cons (wn 3) (wa_cons (wx (w_ix rfl (wx (w_ix rfl (wn 7) (wx (w_fnI C.law_draw (hr.mono (by first|decide|omega)) (wa_cons (wn 0) (wa_cons (wx (w_callB ok_len (call_lenK (K:=K) rfl) T.len_ PySem.boot_len (wa_cons (wn 7) wa_nil))) wa_nil)))))) (wx w_int))) wa_nil))))))) s_nil)
     (s_cons (s_if (t_w (t_and (t_cmp ok_eq (op_eqE (K:=K) rfl hr.units) (wn 5) (wx w_int)) (t_and1 (t_cmp ok_eq (op_eqE (K:=K) rfl hr.units) (wx (w_ix rfl (wn 4) (wx w_int))) (wx w_str))))) (s_one (s_ret (w_fn C.law_with (hr.mono (by first|decide|omega)) (wa_cons (wn 1) (wa_cons (wn 3) (wa_cons (wx (w_bin ok_add op_addD (wx (w_sl2T rfl (wn 4) (wx w_int))) (wx (w_tup (wa_cons (wx (w_ix rfl (wn 4) (wx w_int))) (wa_cons (wx (w_ix rfl (wn 4) (wx w_int))) wa_nil)))))) wa_nil)))))) s_nil)
     (s_cons (s_if (t_w (t_and (t_cmp ok_eq (op_eqE (K:=K) rfl hr.units) (wn 5) (wx w_int)) (t_and1 (t_cmp ok_eq (op_eqE (K:=K) rfl hr.units) (wx (w_ix rfl (wn 4) (wx w_int))) (wx w_str))))) (s_one (s_ret (w_fn C.law_with (hr.mono (by first|decide|omega)) (wa_cons (wn 1) (wa_cons (wn 3) (wa_cons (wx (w_bin ok_add op_addD (wx (w_bin ok_add op_addD (wx (w_sl2T rfl (wn 4) (wx w_int))) (wx (w_tup (wa_cons (wx (w_bin ok_add op_addD (wx (w_ix rfl (wn 4) (wx w_int))) (wn 6))) wa_nil))))) (wx (w_sl1T rfl (wn 4) (wx w_int))))) wa_nil)))))) s_nil)
     (s_cons (s_set (i:=8) S.nd rfl (Or.inl rfl) (w_callT ok_list (call_listK (K:=K) rfl) T.list_ boot_list (wa_cons (wx (w_ix rfl (wn 4) (wx w_int))) wa_nil)))
     (s_cons (s_set (i:=9) S.nd rfl (Or.inl rfl) (w_fnI C.law_draw (hr.mono (by first|decide|omega)) (wa_cons (wn 0) (wa_cons (wx w_int) wa_nil))))
     (s_cons (s_ix (w_bin ok_add op_addD (wx (w_ix rfl (wn 8) (wn 9))) (wn 6)) (wn 8) (wn 9))
     (s_one (s_ret (w_fn C.law_with (hr.mono (by first|decide|omega)) (wa_cons (wn 1) (wa_cons (wn 3) (wa_cons (wx (w_bin ok_add op_addD (wx (w_tup (wa_cons (wx (w_ix rfl (wn 4) (wx w_int))) (wa_cons (wx (w_callT ok_tuple (call_tupleK (K:=K) rfl) T.tuple_ boot_tuple (wa_cons (wn 8) wa_nil))) wa_nil)))) (wx (w_sl1T rfl (wn 4) (wx w_int))))) wa_nil))))))))))))))))) ?_ ?_
 ·rintro args Qd ⟨a,b,c,p,rfl,_⟩;rfl
 ·rintro args Qd ⟨a,b,c,p,rfl,ha,hb,hc,hz,q⟩
  refine ⟨noOw_of rfl,?_⟩
  with_reducible refine cutS (λρ=>∃(rs:List (List Int×Pp)),ρ=[some (.io (penD a b c)),some (.fz (pD p)),some (.ow (.list (rs.map rdD))),none,none,none,none,none,none,none]/\rs≠[]/\rs.length<=35/\∀z∈rs,p.sub z.1=some z.2) ?_ ?_
  ·intro N hN
   exact ⟨p,rfl,hz,λrs o h1 h2 h3=>hN _ ⟨rs,rfl,h1,h2,h3⟩⟩
  rintro _ ⟨rs,rfl,hne,hlen,hrs⟩
  have hpos:0 < rs.length:=o4.mpr hne
  with_reducible refine cutS (λρ=>∃(r:List Int) (o:Pp) (x:Option Sl) (a b c:Int),ρ=[some (.io (penD a b c)),some (.fz (pD p)),x,some (.fz (tupD r)),some (.fz (pD o)),none,none,none,none,none]/\(x=some (.ow (.list (rs.map rdD)))\/x=some (.fz (.list (rs.map rdD))))/\p.sub r=some o/\0<=a/\0<=b/\0<=c) ?_ ?_
  ·intro N hN
   refine ⟨a,b,c,(rs.length:Int),by rw[<- A0 (f:=rdD) (as:=rs)];rfl,ha,hb,hc,by omega,by omega,λu a1 b1 c1 _ u0 u1 ha1 hb1 hc1=>?_⟩
   obtain⟨j,rfl⟩:=T2 u0
   have hj:j < rs.length:=by omega
   exact ⟨rdD rs[j],atI_nat (by rw[W0,J0 hj];rfl),rfl,hN _ ⟨rs[j].1,rs[j].2,_,a1,b1,c1,rfl,by first|exact .inl rfl|exact .inr rfl,hrs rs[j] (S2 hj),ha1,hb1,hc1⟩⟩
  clear ha hb hc
  rintro _ ⟨r,o,x,a,b,c,rfl,hx,hs,ha,hb,hc⟩
  have hsz:=p.sub_sz hs
  have hop:=o.sz1
  have fin:∀(f:Pp) (a b c:Int) (e:Ev),f.sz<=o.sz->0<=a->0<=b->0<=c->Qd (.fz (pD (p.put r f))) (some (.io (penD a b c)) :: e):=λf a b c e h1 h2 h3 h4=>by
   have:=p.put_sz f hs
   exact q _ a b c e (by omega) h2 h3 h4
  with_reducible refine cutS (λρ=>∃(wy a b c:Int),ρ=[some (.io (penD a b c)),some (.fz (pD p)),x,some (.fz (tupD r)),some (.fz (pD o)),some (.fz (.int wy)),none,none,none,none]/\0<=a/\0<=b/\0<=c) ?_ ?_
  ·intro N hN
   rcases hx with rfl|rfl
   all_goals exact ⟨a,b,c,_,rfl,ha,hb,hc,by decide,by decide,λu a1 b1 c1 _ u0 u1 ha1 hb1 hc1=>hN _ ⟨u,a1,b1,c1,rfl,ha1,hb1,hc1⟩⟩
  clear ha hb hc
  rintro _ ⟨wy,a,b,c,rfl,ha,hb,hc⟩
  with_reducible refine cutS (λρ=>∃(mo a b c:Int),ρ=[some (.io (penD a b c)),some (.fz (pD p)),x,some (.fz (tupD r)),some (.fz (pD o)),some (.fz (.int wy)),some (.fz (.int mo)),none,none,none]/\0<=a/\0<=b/\0<=c) ?_ ?_
  ·intro N hN
   rcases hx with rfl|rfl
   all_goals exact ⟨a,b,c,_,rfl,ha,hb,hc,by decide,by decide,λu a1 b1 c1 _ u0 u1 ha1 hb1 hc1=>⟨.inl ⟨by decide,by decide⟩,hN _ ⟨_,a1,b1,c1,rfl,ha1,hb1,hc1⟩⟩⟩
  clear ha hb hc
  rintro _ ⟨mo,a,b,c,rfl,ha,hb,hc⟩
  with_reducible refine cutS (λρ=>ρ=[some (.io (penD a b c)),some (.fz (pD p)),x,some (.fz (tupD r)),some (.fz (pD o)),some (.fz (.int wy)),some (.fz (.int mo)),none,none,none]) ?_ ?_
  ·intro N hN
   rcases hx with rfl|rfl
   all_goals
    refine ite2 (λh=>?_) (λh=>hN _ rfl)
    refine ⟨o,rfl,by omega,λws e h1 h2 h3=>?_⟩
    have hpos2:0 < ws.length:=o4.mpr h1
    refine ⟨a,b,c,(ws.length:Int),by rw[<- A0 (f:=rdD) (as:=ws)];rfl,ha,hb,hc,by omega,by omega,λu a1 b1 c1 _ u0 u1 ha1 hb1 hc1=>?_⟩
    obtain⟨j,rfl⟩:=T2 u0
    have hj:j < ws.length:=by omega
    have hsj:=h3 ws[j] (S2 hj)
    have hsj2:=o.sub_sz hsj
    refine ⟨rdD ws[j],atI_nat (by rw[W0,J0 hj];rfl),?_⟩
    exact ⟨_,rfl,p,ws[j].2,o,r,rfl,hs,(show r.length<=37 by omega),by decide,λe=>fin _ a1 b1 c1 _ (by omega) ha1 hb1 hc1⟩
  rintro _ rfl
  with_reducible refine cutS (λρ=>ρ=[some (.io (penD a b c)),some (.fz (pD p)),x,some (.fz (tupD r)),some (.fz (pD o)),some (.fz (.int wy)),some (.fz (.int mo)),none,none,none]) ?_ ?_
  ·intro N hN
   rcases hx with rfl|rfl
   all_goals
    refine ite2 (λh=>?_) (λh=>hN _ rfl)
    cases o with
    | cell t l hh=>exact ⟨_,rfl,hN _ rfl⟩
    | cut t l hh wy2 at_ p1 p2 =>
     refine ⟨_,rfl,?_⟩
     refine ⟨by decide,_,rfl,_,rfl,le_size (by simp),?_⟩
     exact ⟨p,.cut t l hh wy2 at_ p2 p1,_,r,rfl,hs,(show r.length<=37 by omega),by decide,λe=>fin _ a b c _ (by simp only[Pp.sz];omega) ha hb hc⟩
  rintro _ rfl
  with_reducible refine cutS (λρ=>ρ=[some (.io (penD a b c)),some (.fz (pD p)),x,some (.fz (tupD r)),some (.fz (pD o)),some (.fz (.int wy)),some (.fz (.int mo)),none,none,none]) ?_ ?_
  ·intro N hN
   rcases hx with rfl|rfl
   all_goals
    refine ite2 (λh=>?_) (λh=>hN _ rfl)
    cases o with
    | cell t l hh=>exact ⟨_,rfl,hN _ rfl⟩
    | cut t l hh wy2 at_ p1 p2 =>
     refine ⟨_,rfl,?_⟩
     refine ⟨by decide,_,rfl,le_size (by simp),by decide,le_size (by simp),?_⟩
     exact ⟨p,.cut t l hh wy2 (at_+mo) p1 p2,_,r,rfl,hs,(show r.length<=37 by omega),by decide,λe=>fin _ a b c _ (by simp only[Pp.sz];omega) ha hb hc⟩
  rintro _ rfl
  obtain⟨w1,r1,e1⟩:=pD_is o
  obtain⟨t,l,h,e2⟩:=cl_is o
  with_reducible refine cutS (λρ=>ρ=[some (.io (penD a b c)),some (.fz (pD p)),x,some (.fz (tupD r)),some (.fz (pD o)),some (.fz (.int wy)),some (.fz (.int mo)),none,some (.ow (liD [t,l,h])),none]) ?_ ?_
  ·intro N hN
   rw[e1,e2]at hN ⊢
   rcases hx with rfl|rfl
   all_goals exact ⟨_,atI_nat (j:=1) rfl,hN _ rfl⟩
  rintro _ rfl
  with_reducible refine cutS (λρ=>∃(sp a b c:Int),ρ=[some (.io (penD a b c)),some (.fz (pD p)),x,some (.fz (tupD r)),some (.fz (pD o)),some (.fz (.int wy)),some (.fz (.int mo)),none,some (.ow (liD [t,l,h])),some (.fz (.int sp))]/\0<=sp/\sp < 3/\0<=a/\0<=b/\0<=c) ?_ ?_
  ·intro N hN
   rcases hx with rfl|rfl
   all_goals exact ⟨a,b,c,_,rfl,ha,hb,hc,by decide,by decide,λu a1 b1 c1 _ u0 u1 ha1 hb1 hc1=>hN _ ⟨u,a1,b1,c1,rfl,u0,u1,ha1,hb1,hc1⟩⟩
  clear ha hb hc
  rintro _ ⟨sp,a,b,c,rfl,s0,s1,ha,hb,hc⟩
  with_reducible refine cutS (λρ=>∃t l h:Int,ρ=[some (.io (penD a b c)),some (.fz (pD p)),x,some (.fz (tupD r)),some (.fz (pD o)),some (.fz (.int wy)),some (.fz (.int mo)),none,some (.ow (liD [t,l,h])),some (.fz (.int sp))]) ?_ ?_
  ·intro N hN
   rcases (show sp=0\/sp=1\/sp=2 by omega) with rfl|rfl|rfl
   ·rcases hx with rfl|rfl
    all_goals exact ⟨_,rfl,0,rfl,hN _ ⟨_,_,_,rfl⟩⟩
   ·rcases hx with rfl|rfl
    all_goals exact ⟨_,rfl,1,rfl,hN _ ⟨_,_,_,rfl⟩⟩
   ·rcases hx with rfl|rfl
    all_goals exact ⟨_,rfl,2,rfl,hN _ ⟨_,_,_,rfl⟩⟩
  clear e2 t l h
  rintro _ ⟨t,l,h,rfl⟩
  rcases hx with rfl|rfl
  all_goals
   cases o with
   | cell t' l' h' =>
    refine ⟨_,rfl,by decide,le_size (by simp),?_⟩
    exact ⟨p,.cell t l h,_,r,rfl,hs,(show r.length<=37 by omega),by decide,λe=>fin _ a b c _ (by simp only[Pp.sz];omega) ha hb hc⟩
   | cut t' l' h' wy2 at_ p1 p2 =>
    refine ⟨_,rfl,by decide,le_size (by simp),?_⟩
    exact ⟨p,.cut t l h wy2 at_ p1 p2,_,r,rfl,hs,(show r.length<=37 by omega),by decide,λe=>fin _ a b c _ (by simp only[Pp.sz];omega) ha hb hc⟩
end
section
variable {P:Program}{w:World}{K:j0}{mg:Str->Option Value}{base:Heap}
structure CalsLo(P:Program)(w:World)(K:j0)(mg:Str->Option Value)(base:Heap):Prop where
 law_draw:Cal P w K mg base 1 "_law_draw" ["_law_pen_here","_law_many"] (conSp K cDraw)
 law_paper:Cal P w K mg base 34 "_law_paper" ["_law_pen_here","_law_sides_here","_law_numbers","_law_box_here","_law_much"] (conSp K (cPap 31))
 law_bent:Cal P w K mg base 39 "_law_bent" ["_law_pen_here","_law_paper_here"] (conSp K cBe)
 law_holds:Cal P w K mg base 34 "_law_holds" ["_law_sides_here","_law_numbers","_law_box_here","_law_thing"] (conSp K (cHol 31))
 field_of:Cal P w K mg base 4 "field_of" ["sides","cells"] (conSp K cFO)
 holds_paper:Cal P w K mg base 7 "holds_paper" ["field","box","thing"] (conSp K cHP)
 law_shows:Cal P w K mg base 3 "_law_shows" ["_law_sides_here","_law_numbers","_law_box_here","_law_paper_here"] (conSp K cSh)
noncomputable def cLo:Con:=λargs Q=>∃(a b c:Int) (sd cl:List Int) (bx:Bxx),args=[.io (penD a b c),.fz (tupD sd),.fz (liD cl),.fz (boxD bx)]/\0<=a/\0<=b/\0<=c/\Sd sd/\prodI sd<=18/\cl.length=(plc sd).length/\(∀x∈cl,Big x)/\Bx bx.1 bx.2 sd /\
 ∀(a' b' c':Int) (o:Ev),0<=a'->0<=b'->0<=c'->Q (.fz (.bool true)) (some (.io (penD a' b' c')) :: o)
theorem scLo:FnScope ["_law_pen_here","_law_sides_here","_law_numbers","_law_box_here","_law_paper_here","_law_turn","_law_due_here","_law_found"] ["_law_pen_here","_law_sides_here","_law_numbers","_law_box_here"] (defScope (top 56)):=⟨rfl,rfl,rfl,by decide +kernel,rfl,by decide +kernel,by decide +kernel⟩
theorem ok_lo{f:Addr}{fd:FuncData}(F:Fun K "_law_looked_at" "_law_looked_at" (top 56) f fd)(T:Txt mg)(C:CalsLo P w K mg base):FnOk P w K mg base CX0 40 f fd ["_law_pen_here","_law_sides_here","_law_numbers","_law_box_here"] (conSp K cLo):=by
 have S:=scLo
 refine wfn F S (λcdv A outer s H E hr=>(s_cons (s_set (i:=4) S.nd rfl (Or.inl rfl) (w_fnI C.law_paper (hr.mono (by first|decide|omega)) (wa_cons (wn 0) (wa_cons (wn 1) (wa_cons (wn 2) (wa_cons (wn 3) (wa_cons (wx (w_cmp ok_eq (op_eqE (K:=K) rfl hr.units) (wx (w_fnI C.law_draw (hr.mono (by first|decide|omega)) (wa_cons (wn 0) (wa_cons (wx w_int) wa_nil)))) (wx w_int))) wa_nil)))))))
     (s_cons (s_for [5] PassesOwn.never rfl (i_rng1 T.range_ (wa_cons (wx (w_fnI C.law_draw (hr.mono (by first|decide|omega)) (wa_cons (wn 0) (wa_cons (wx w_int) wa_nil)))) wa_nil)) (g_name (i:=5) S.nd rfl (Or.inl rfl)) (s_one (s_set (i:=4) S.nd rfl (Or.inl rfl) (w_fnI C.law_bent (hr.mono (by first|decide|omega)) (wa_cons (wn 0) (wa_cons (wn 4) wa_nil))))))
     (s_cons (s_set (i:=6) S.nd rfl (Or.inl rfl) (w_fn C.law_holds (hr.mono (by first|decide|omega)) (wa_cons (wn 1) (wa_cons (wn 2) (wa_cons (wn 3) (wa_cons (wn 4) wa_nil))))))
     (s_cons (s_set (i:=7) S.nd rfl (Or.inl rfl) (w_fn C.holds_paper (hr.mono (by first|decide|omega)) (wa_cons (wx (w_fn C.field_of (hr.mono (by first|decide|omega)) (wa_cons (wn 1) (wa_cons (wn 2) wa_nil)))) (wa_cons (wn 3) (wa_cons (wn 4) wa_nil)))))
     (s_cons (s_if (t_w (t_or (t_not (t_val (w_isiA .bl rfl T.isinstance_ T.bool_ boot_bool (wn 7)))) (t_or1 (t_cmp ok_ne (op_neE (K:=K) rfl hr.units) (wn 7) (wn 6))))) (s_one (s_ret w_bl)) s_nil)
     (s_one (s_ret (w_or (w_not (wv 7)) (w_one (w_fn C.law_shows (hr.mono (by first|decide|omega)) (wa_cons (wn 1) (wa_cons (wn 2) (wa_cons (wn 3) (wa_cons (wn 4) wa_nil))))))))))))))) ?_ ?_
 ·rintro args Qd ⟨a,b,c,sd,cl,bx,rfl,_⟩;rfl
 ·rintro args Qd ⟨a,b,c,sd,cl,bx,rfl,ha,hb,hc,hsd,h18,hcl,hB,hbx,q⟩
  refine ⟨noOw_of rfl,?_⟩
  have hex:=ex_le hbx
  with_reducible refine cutS (λρ=>∃(p:Pp) (a b c:Int),ρ=[some (.io (penD a b c)),some (.fz (tupD sd)),some (.fz (liD cl)),some (.fz (boxD bx)),some (.fz (pD p)),none,none,none]/\p.sz<=35/\0<=a/\0<=b/\0<=c) ?_ ?_
  ·intro N hN
   refine ⟨a,b,c,_,rfl,ha,hb,hc,by decide,by decide,λr a1 b1 c1 _ _ _ ha1 hb1 hc1=>?_⟩
   refine ⟨a1,b1,c1,sd,cl,bx,decide (r=1),rfl,ha1,hb1,hc1,hsd,hcl,hB,hbx,(show ex bx.1 bx.2<=30 by omega),λp a2 b2 c2 _ mp ha2 hb2 hc2=>?_⟩
   have h1:=mp.lv hbx hsd
   have h2:=p.szl
   exact hN _ ⟨p,a2,b2,c2,rfl,by omega,ha2,hb2,hc2⟩
  clear ha hb hc
  rintro _ ⟨p,a,b,c,rfl,hz,ha,hb,hc⟩
  with_reducible refine cutS (λρ=>∃(p:Pp) (a b c:Int),ρ=[some (.io (penD a b c)),some (.fz (tupD sd)),some (.fz (liD cl)),some (.fz (boxD bx)),some (.fz (pD p)),none,none,none]/\p.sz<=35/\0<=a/\0<=b/\0<=c) ?_ ?_
  ·intro N hN
   refine ⟨a,b,c,_,rfl,ha,hb,hc,by decide,by decide,λr a1 b1 c1 _ r0 r1 ha1 hb1 hc1=>?_⟩
   refine ⟨by omega,by omega,?_⟩
   generalize rangeD 0 (Int.toNat r)=rg
   refine loopC (λ_ ρ=>∃(p:Pp) (a b c:Int),ρ=[some (.io (penD a b c)),some (.fz (tupD sd)),some (.fz (liD cl)),some (.fz (boxD bx)),some (.fz (pD p)),none,none,none]/\p.sz<=35/\0<=a/\0<=b/\0<=c) ?_ ?_ ⟨p,a1,b1,c1,rfl,hz,ha1,hb1,hc1⟩
   ·rintro d ds ρ ⟨p,a,b,c,rfl,hz,ha,hb,hc⟩ M hM
    exact ⟨a,b,c,p,rfl,ha,hb,hc,hz,λp' a2 b2 c2 _ hz2 ha2 hb2 hc2=>hM _ ⟨p',a2,b2,c2,rfl,hz2,ha2,hb2,hc2⟩⟩
   ·rintro ρ ⟨p,a,b,c,rfl,hz,ha,hb,hc⟩
    exact hN _ ⟨p,a,b,c,rfl,hz,ha,hb,hc⟩
  clear ha hb hc hz
  rintro _ ⟨p,a,b,c,rfl,hz,ha,hb,hc⟩
  with_reducible refine cutS (λρ=>ρ=[some (.io (penD a b c)),some (.fz (tupD sd)),some (.fz (liD cl)),some (.fz (boxD bx)),some (.fz (pD p)),none,some (.fz (.bool (okP sd cl bx p))),none]) ?_ ?_
  ·intro N hN
   exact ⟨sd,cl,bx,p,rfl,hsd,hcl,hbx,(show ex bx.1 bx.2<=30 by omega),λo=>hN _ rfl⟩
  rintro _ rfl
  with_reducible refine cutS (λρ=>ρ=[some (.io (penD a b c)),some (.fz (tupD sd)),some (.fz (liD cl)),some (.fz (boxD bx)),some (.fz (pD p)),none,some (.fz (.bool (okP sd cl bx p))),some (.fz (.bool (okP sd cl bx p)))]) ?_ ?_
  ·intro N hN
   exact ⟨sd,cl,rfl,hsd,hcl,λo=>⟨sd,cl,bx,p,rfl,hsd,hcl,hbx,by omega,λo=>hN _ rfl⟩⟩
  rintro _ rfl
  cases hok:okP sd cl bx p with
  | false=>exact ⟨rfl,rfl,rfl,rfl,rfl,q a b c _ ha hb hc⟩
  | true=>exact ⟨rfl,rfl,rfl,rfl,rfl,sd,cl,bx,p,rfl,hsd,hcl,hbx,hok,λo=>q a b c _ ha hb hc⟩
end
theorem set_cutG{α:Type}(p:List α){i:Nat}(h:i < p.length)(x:α):p.take i++[x]++p.drop (i+1)=p.set i x:=by
 rw[S5,if_pos h,U5];rfl
noncomputable def anew(w a:Int)(p q:Pp):Pp:=.cut ((comb p.cl q.cl).getD 0 0) ((comb p.cl q.cl).getD 1 0) ((comb p.cl q.cl).getD 2 0) w a p q
noncomputable def rnw(pl:List Int)(n:Int):Pp->Pp
 | .cell _ _ _=>.cell n n n
 | .cut _ _ _ w a p q=>if pl.getD w.toNat 0<=a then anew w a (rnw pl n p) q else anew w a p (rnw pl n q)
noncomputable def rbx(pl:List Int):Bxx->Pp->List Bxx
 | b,.cell _ _ _=>[b]
 | b,.cut _ _ _ w a p q=>b :: if pl.getD w.toNat 0<=a then rbx pl (bxL b w a) p else rbx pl (bxR b w a) q
noncomputable def putA(c:Pp×Nat)(f:Pp):Pp:=match c.1 with
 | .cut _ _ _ w a p q=>if c.2=4 then anew w a f q else anew w a p f
 | .cell _ _ _=>f
noncomputable def back:List (Pp×Nat)->Pp->Pp
 | [],f=>f
 | c :: cs,f=>putA c (back cs f)
theorem back_snoc:∀(cs:List (Pp×Nat)) (c:Pp×Nat) (f:Pp),back (cs++[c]) f=back cs (putA c f)
 | [],_,_=>rfl
 | d :: cs,c,f=>by show putA d (back (cs++[c]) f)=putA d (back cs (putA c f));rw[back_snoc cs c f]
noncomputable abbrev ctD(c:Pp×Nat):PyData:=.tuple [pD c.1,.int (c.2:Int)]
theorem rbx_len(pl:List Int)(p:Pp):∀b,(rbx pl b p).length<=p.sz:=by
 induction p with
 | cell t l h=>intro b;exact N0 1
 | cut t l h w a p q ihp ihq =>
  intro b
  show (b :: if pl.getD w.toNat 0<=a then rbx pl (bxL b w a) p else rbx pl (bxR b w a) q).length<=1+p.sz+q.sz
  rw[Z1]
  split
  ·have:=ihp (bxL b w a);omega
  ·have:=ihq (bxR b w a);omega
theorem at_end{α:Type}(l:List α)(z:α):atI (l++[z]) (-1)=some z:=by
 unfold atI ixN
 rw[if_neg (by decide),Z0,A3,if_pos (by omega)]
 show (l++[z])[((-1:Int)+((l.length+1:Nat):Int)).toNat]?=_
 rw[show ((-1:Int)+((l.length+1:Nat):Int)).toNat=l.length by omega]
 simp
section
variable {P:Program}{w:World}{K:j0}{mg:Str->Option Value}{base:Heap}
noncomputable def cRpG:Con:=λargs Q=>∃(ds:List PyData) (i:Nat) (d:PyData),args=[.fz (.tuple ds),.fz (.int i),.fz d]/\i < ds.length/\ds.length<=100/\∀o,Q (.fz (.tuple (ds.set i d))) o
theorem ok_rpG{f:Addr}{fd:FuncData}(F:Fun K "replaced" "replaced" (top 8) f fd):FnOk P w K mg base CX0 1 f fd ["numbers","way","number"] (conSp K cRpG):=by
 have S:=scRp
 refine wfn F S (λcdv A outer s H E hr=>(s_one (s_ret (w_bin ok_add op_addD (wx (w_bin ok_add op_addD (wx (w_sl2T rfl (wn 0) (wn 1))) (wx (w_tup (wa_cons (wx (wv 2)) wa_nil))))) (wx (w_sl1T rfl (wn 0) (wx (w_bin ok_add op_addD (wn 1) (wx w_int))))))))) ?_ ?_
 ·rintro args Qd ⟨ds,i,d,rfl,_⟩;rfl
 ·rintro args Qd ⟨ds,i,d,rfl,hi,hl,q⟩
  refine ⟨noOw_of rfl,?_⟩
  have e:ds.take ((i:Int)).toNat++[d]++ds.drop ((i:Int)+1).toNat=ds.set i d:=by
   rw[T4,show ((i:Int)+1).toNat=i+1 by omega]
   exact set_cutG ds hi d
  have q2:∀o,Qd (.fz (.tuple (ds.take ((i:Int)).toNat++[d]++ds.drop ((i:Int)+1).toNat))) o:=by rw[e];exact q
  exact ⟨by show (0:Int)<=i;omega,le_size (by simp;omega),by show (0:Int)<=(i:Int)+1;omega,le_size (by simp;omega),q2 _⟩
structure CalsAn(P:Program)(w:World)(K:j0)(mg:Str->Option Value)(base:Heap):Prop where
 parts_of:Cal P w K mg base 1 "parts_of" ["paper"] (conSp K cPo)
 put_together:Cal P w K mg base 1 "put_together" ["parts"] (conSp K cPt)
 replacedG:Cal P w K mg base 1 "replaced" ["numbers","way","number"] (conSp K cRpG)
noncomputable def cAn:Con:=λargs Q=>∃(t l h w a:Int) (p q:Pp),args=[.fz (pD (.cut t l h w a p q))]/\∀o,Q (.fz (pD (anew w a p q))) o
theorem scAn:FnScope ["paper"] ["paper"] (defScope (top 34)):=⟨rfl,rfl,rfl,by decide +kernel,rfl,by decide +kernel,by decide +kernel⟩
theorem ok_an{f:Addr}{fd:FuncData}(F:Fun K "cut_anew" "cut_anew" (top 34) f fd)(T:Txt mg)(C:CalsAn P w K mg base):FnOk P w K mg base CX0 2 f fd ["paper"] (conSp K cAn):=by
 have S:=scAn
 refine wfn F S (λcdv A outer s H E hr=>(s_one (s_ret (w_fn C.replacedG (hr.mono (by first|decide|omega)) (wa_cons (wn 0) (wa_cons (wx w_int) (wa_cons (wx (w_fn C.put_together (hr.mono (by first|decide|omega)) (wa_cons (wx (w_comp rfl (own:=["part"]) (fr:=[]) (by kernel_rfl) (i_seq rfl (w_fn C.parts_of (hr.mono (by first|decide|omega)) (wa_cons (wn 0) wa_nil))) (λ_ _ _ _=>(g_name (i:=0) (by decide +kernel:K3 (["part"]:List Str)) rfl (Or.inl rfl))) (λ_ _ _ _=>if0) (λ_ _ _ _=>(w_ix rfl (wn 0) (wx w_int))))) wa_nil))) wa_nil))))))) ?_ ?_
 ·rintro args Qd ⟨t,l,h,w,a,p,q,rfl,_⟩;rfl
 ·rintro args Qd ⟨t,l,h,w,a,p,q,rfl,k⟩
  refine ⟨noOw_of rfl,?_⟩
  refine ⟨t,l,h,w,a,p,q,rfl,λo=>?_⟩
  have fin:∀o,Qd (.fz (pD (anew w a p q))) o:=k
  cases p<;>cases q
  all_goals exact ⟨le_size (by simp),_,rfl,_,rfl,_,_,rfl,rfl,rfl,λo=>⟨_,1,_,rfl,by simp,by simp,λo=>fin _⟩⟩
theorem scRe:FnScope ["box","paper","place","number","boxes","cuts","inner","half","fresh","cut","part"] ["box","paper","place","number"] (defScope (top 33)):=⟨rfl,rfl,rfl,by decide +kernel,rfl,by decide +kernel,by decide +kernel⟩
noncomputable def cRe:Con:=λargs Q=>∃(sd cl pl:List Int) (b:Bxx) (p:Pp) (n:Int),args=[.fz (boxD b),.fz (pD p),.fz (tupD pl),.fz (.int n)]/\Sd sd/\Bx b.1 b.2 sd/\okP sd cl b p=true/\pl.length=sd.length/\p.sz<=60/\∀(bs:List Bxx) (o:Ev),bs.Perm (rbx pl b p)->bs.Pairwise (λx y=>ltB y x=false)->Q (.fz (.tuple [pD (rnw pl n p),.list (bs.map boxD)])) o
structure CalsRe(P:Program)(w:World)(K:j0)(mg:Str->Option Value)(base:Heap):Prop where
 is_cut:Cal P w K mg base 4 "is_cut" ["thing"] (conSp K cIt)
 cut_boxes:Cal P w K mg base 3 "cut_boxes" ["box","way","at"] (conSp K cCB)
 thrice:Cal P w K mg base 1 "thrice" ["number"] (conSp K cTh)
 cut_anew:Cal P w K mg base 2 "cut_anew" ["paper"] (conSp K cAn)
 replacedG:Cal P w K mg base 1 "replaced" ["numbers","way","number"] (conSp K cRpG)
theorem ok_re{f:Addr}{fd:FuncData}(F:Fun K "renewed" "renewed" (top 33) f fd)(T:Txt mg)(L:Cls K mg)(C:CalsRe P w K mg base):FnOk P w K mg base CX0 5 f fd ["box","paper","place","number"] (conSp K cRe):=by
 have S:=scRe
 refine wfn F S (λcdv A outer s H E hr=>(s_cons (s_set (i:=4) S.nd rfl (Or.inl rfl) (w_lst (wa_cons (wx (wv 0)) wa_nil)))
     (s_cons (s_set (i:=5) S.nd rfl (Or.inl rfl) (w_lst wa_nil))
     (s_cons (s_move (i:=6) S.nd rfl (Or.inl rfl) (wn 1))
     (s_cons (s_while PassesOwn.never (t_val (w_fn C.is_cut (hr.mono (by first|decide|omega)) (wa_cons (wn 6) wa_nil))) (s_cons (s_set (i:=7) S.nd rfl (Or.inl rfl) (w_ifE (t_cmp ok_le op_le (wx (w_ix rfl (wn 2) (wx (w_ix rfl (wn 6) (wx w_int))))) (wx (w_ix rfl (wn 6) (wx w_int)))) w_int w_int))
     (s_cons (s_expr (w_m ok_append rfl PySem.F.slot_list_append PySem.F.type_list_append mt_append (wn 5) (wa_cons (wx (w_tup (wa_cons (wx (wv 6)) (wa_cons (wx (w_gtix rfl L.PARTS_ (wn 7))) wa_nil)))) wa_nil)))
     (s_cons (s_expr (w_m ok_append rfl PySem.F.slot_list_append PySem.F.type_list_append mt_append (wn 4) (wa_cons (wx (w_ix rfl (wx (w_fn C.cut_boxes (hr.mono (by first|decide|omega)) (wa_cons (wx (w_ix rfl (wn 4) (wx (w_neg (wx w_int))))) (wa_cons (wx (w_ix rfl (wn 6) (wx w_int))) (wa_cons (wx (w_ix rfl (wn 6) (wx w_int))) wa_nil))))) (wn 7))) wa_nil)))
     (s_one (s_set (i:=6) S.nd rfl (Or.inl rfl) (w_ix rfl (wn 6) (wx (w_gtix rfl L.PARTS_ (wn 7))))))))))
     (s_cons (s_set (i:=8) S.nd rfl (Or.inl rfl) (w_tup (wa_cons (wx w_str) (wa_cons (wx (w_fn C.thrice (hr.mono (by first|decide|omega)) (wa_cons (wn 3) wa_nil))) wa_nil))))
     (s_cons (s_for [9,10] PassesOwn.never rfl (i_revL rfl T.reversed_ (wa_cons (wx (wv 5)) wa_nil)) (g_tup rfl rfl (gs_cons (g_name (i:=9) S.nd rfl (Or.inl rfl)) (gs_cons (g_name (i:=10) S.nd rfl (Or.inl rfl)) gs_nil))) (s_one (s_set (i:=8) S.nd rfl (Or.inl rfl) (w_fn C.cut_anew (hr.mono (by first|decide|omega)) (wa_cons (wx (w_fn C.replacedG (hr.mono (by first|decide|omega)) (wa_cons (wn 9) (wa_cons (wn 10) (wa_cons (wn 8) wa_nil))))) wa_nil)))))
     (s_one (s_ret (w_tup (wa_cons (wx (wv 8)) (wa_cons (wx (w_callB ok_sortB64 (call_sortBK64 rfl (hu2_of hr)) T.sorted_ boot_sorted (wa_cons (wn 4) wa_nil))) wa_nil)))))))))))) ?_ ?_
 ·rintro args Qd ⟨sd,cl,pl,b,p,n,rfl,_⟩;rfl
 ·rintro args Qd ⟨sd,cl,pl,b,p,n,rfl,hsd,hb,hok,hpl,hz,q⟩
  refine ⟨noOw_of rfl,?_⟩
  have h3:=hsd.l3
  with_reducible refine cutS (λρ=>ρ=[some (.fz (boxD b)),some (.fz (pD p)),some (.fz (tupD pl)),some (.fz (.int n)),some (.ow (.list [boxD b])),none,none,none,none,none,none]) ?_ ?_
  ·intro N hN
   exact hN _ rfl
  rintro _ rfl
  with_reducible refine cutS (λρ=>ρ=[some (.fz (boxD b)),some (.fz (pD p)),some (.fz (tupD pl)),some (.fz (.int n)),some (.ow (.list [boxD b])),some (.ow (.list [])),none,none,none,none,none]) ?_ ?_
  ·intro N hN
   exact hN _ rfl
  rintro _ rfl
  with_reducible refine cutS (λρ=>ρ=[some (.fz (boxD b)),some (.fz (pD p)),some (.fz (tupD pl)),some (.fz (.int n)),some (.ow (.list [boxD b])),some (.ow (.list [])),some (.fz (pD p)),none,none,none,none]) ?_ ?_
  ·intro N hN
   exact hN _ rfl
  rintro _ rfl
  with_reducible refine cutS (λρ=>∃(bs:List Bxx) (cs:List (Pp×Nat)) (c:Pp) (x:Option Sl),ρ=[some (.fz (boxD b)),some (.fz (pD p)),some (.fz (tupD pl)),some (.fz (.int n)),some (.ow (.list (bs.map boxD))),some (.ow (.list (cs.map ctD))),some (.fz (pD c)),x,none,none,none]/\(x=none\/∃d,x=some (.fz d))/\bs=rbx pl b p/\rnw pl n p=back cs (.cell n n n)/\cs.length<=60/\∀z∈cs,z.1.isCut=true/\(z.2=4\/z.2=5)) ?_ ?_
  ·intro N hN
   refine ⟨λm ρ=>∃(bs:List Bxx) (cs:List (Pp×Nat)) (c:Pp) (b':Bxx) (x:Option Sl),ρ=[some (.fz (boxD b)),some (.fz (pD p)),some (.fz (tupD pl)),some (.fz (.int n)),some (.ow (.list ((bs++[b']).map boxD))),some (.ow (.list (cs.map ctD))),some (.fz (pD c)),x,none,none,none]/\(x=none\/∃d,x=some (.fz d))/\rbx pl b p=bs++rbx pl b' c/\rnw pl n p=back cs (rnw pl n c)/\Bx b'.1 b'.2 sd/\okP sd cl b' c=true/\cs.length+c.sz<=60/\bs.length+c.sz<=60/\(∀z∈cs,z.1.isCut=true/\(z.2=4\/z.2=5))/\m=c.sz,⟨_,[],[],p,b,none,rfl,.inl rfl,rfl,rfl,hb,hok,by simpa using hz,by simpa using hz,by simp,rfl⟩,?_⟩
   rintro m ρ ⟨bs,cs,c,b',x,rfl,hx,e1,e2,hb',hok',hcz,hbz,hcs,rfl⟩
   have hbl:=bx_len hb'
   refine ⟨c,by rcases hx with rfl|⟨d,rfl⟩<;>rfl,λo=>?_⟩
   cases c with
   | cell t l h =>
    have e3:rbx pl b p=bs++[b']:=e1
    have e4:rnw pl n p=back cs (.cell n n n):=e2
    rcases hx with rfl|⟨d,rfl⟩
    ·exact hN _ ⟨bs++[b'],cs,.cell t l h,_,rfl,.inl rfl,e3.symm,e4,by omega,hcs⟩
    ·exact hN _ ⟨bs++[b'],cs,.cell t l h,_,rfl,.inr ⟨_,rfl⟩,e3.symm,e4,by omega,hcs⟩
   | cut t l h wy at_ p1 p2 =>
    obtain⟨hcut,_,k1,k2⟩:=okP_cut hok'
    obtain⟨g1,g2,g3,g4⟩:=cutB_is hcut
    have esz:(Pp.cut t l h wy at_ p1 p2).sz=1+p1.sz+p2.sz:=rfl
    rw[esz]at hcz hbz ⊢
    have z1:=p1.sz1
    have z2:=p2.sz1
    have ae:atI ((bs++[b']).map boxD) (-1)=some (boxD b'):=by rw[j2];exact at_end _ _
    have apl:atI (pl.map q0) wy=some (.int (pl.getD wy.toNat 0)):=at_nat g1 (by omega)
    have hlt:((cs.map ctD).length < sizeLine)/\((bs++[b']).map boxD).length < sizeLine:=⟨E3 (show _<=60 by rw[A0];omega) (by decide),E3 (show _<=61 by rw[A0,Z0,A3];omega) (by decide)⟩
    have stL:pl.getD wy.toNat 0<=at_->rbx pl b p=(bs++[b'])++rbx pl (bxL b' wy at_) p1/\rnw pl n p=back (cs++[(.cut t l h wy at_ p1 p2,4)]) (rnw pl n p1):=λhle=>by
     rw[e1,e2,back_snoc]
     refine ⟨?_,?_⟩
     ·show bs++(b' :: if pl.getD wy.toNat 0<=at_ then rbx pl (bxL b' wy at_) p1 else rbx pl (bxR b' wy at_) p2)=_
      rw[if_pos hle];simp
     ·show back cs (if pl.getD wy.toNat 0<=at_ then anew wy at_ (rnw pl n p1) p2 else anew wy at_ p1 (rnw pl n p2))=_
      rw[if_pos hle];rfl
    have stR:¬pl.getD wy.toNat 0<=at_->rbx pl b p=(bs++[b'])++rbx pl (bxR b' wy at_) p2/\rnw pl n p=back (cs++[(.cut t l h wy at_ p1 p2,5)]) (rnw pl n p2):=λhle=>by
     rw[e1,e2,back_snoc]
     refine ⟨?_,?_⟩
     ·show bs++(b' :: if pl.getD wy.toNat 0<=at_ then rbx pl (bxL b' wy at_) p1 else rbx pl (bxR b' wy at_) p2)=_
      rw[if_neg hle];simp
     ·show back cs (if pl.getD wy.toNat 0<=at_ then anew wy at_ (rnw pl n p1) p2 else anew wy at_ p1 (rnw pl n p2))=_
      rw[if_neg hle];rfl
    have hcs':∀k:Nat,k=4\/k=5->∀z∈cs++[((.cut t l h wy at_ p1 p2:Pp),k)],z.1.isCut=true/\(z.2=4\/z.2=5):=λk hk z hz=>by
     rcases Z2.mp hz with hz|hz
     ·exact hcs z hz
     ·rw[A1.mp hz];exact ⟨rfl,hk⟩
    rcases hx with rfl|⟨d,rfl⟩
    all_goals
     refine ⟨λρ'=>∃m',m' < 1+p1.sz+p2.sz/\_,λρ' h=>h,?_⟩
     refine ⟨_,rfl,_,apl,_,rfl,ite2 (λhle=>?_) (λhle=>?_)⟩
     ·obtain⟨s1,s2⟩:=stL (of_decide_eq_true hle)
      refine ⟨4,rfl,hlt.1,?_⟩
      refine ⟨_,ae,_,rfl,_,rfl,b',wy,at_,rfl,g1,g2,by omega,by omega,λo=>?_⟩
      refine ⟨_,rfl,hlt.2,?_⟩
      refine ⟨4,rfl,_,rfl,?_⟩
      exact ⟨p1.sz,by omega,bs++[b'],cs++[(.cut t l h wy at_ p1 p2,4)],p1,bxL b' wy at_,_,by rw[j2 (l₁:=bs++[b']),j2 (l₁:=cs)];rfl,.inr ⟨_,rfl⟩,s1,s2,bxL_bx hb' hcut,k1,by simp;omega,by simp;omega,hcs' 4 (.inl rfl),rfl⟩
     ·obtain⟨s1,s2⟩:=stR λz=>hle (decide_eq_true z)
      refine ⟨5,rfl,hlt.1,?_⟩
      refine ⟨_,ae,_,rfl,_,rfl,b',wy,at_,rfl,g1,g2,by omega,by omega,λo=>?_⟩
      refine ⟨_,rfl,hlt.2,?_⟩
      refine ⟨5,rfl,_,rfl,?_⟩
      exact ⟨p2.sz,by omega,bs++[b'],cs++[(.cut t l h wy at_ p1 p2,5)],p2,bxR b' wy at_,_,by rw[j2 (l₁:=bs++[b']),j2 (l₁:=cs)];rfl,.inr ⟨_,rfl⟩,s1,s2,bxR_bx hb' hcut,k2,by simp;omega,by simp;omega,hcs' 5 (.inr rfl),rfl⟩
  rintro _ ⟨bs,cs,c,x,rfl,hx,e1,e2,hcz,hcs⟩
  have hrl:=rbx_len pl p b
  with_reducible refine cutS (λρ=>ρ=[some (.fz (boxD b)),some (.fz (pD p)),some (.fz (tupD pl)),some (.fz (.int n)),some (.ow (.list (bs.map boxD))),some (.ow (.list (cs.map ctD))),some (.fz (pD c)),x,some (.fz (pD (.cell n n n))),none,none]) ?_ ?_
  ·intro N hN
   rcases hx with rfl|⟨d,rfl⟩
   all_goals exact ⟨n,rfl,λo=>hN _ rfl⟩
  rintro _ rfl
  with_reducible refine cutS (λρ=>∃(y x:Option Sl),(x=none\/∃d,x=some (.fz d))/\ρ=[some (.fz (boxD b)),some (.fz (pD p)),some (.fz (tupD pl)),some (.fz (.int n)),some (.ow (.list (bs.map boxD))),y,some (.fz (pD c)),x,some (.fz (pD (rnw pl n p))),none,none]) ?_ ?_
  ·intro N hN
   rcases hx with rfl|⟨d,rfl⟩
   all_goals
    refine loopC (λrest ρ=>∃(rs:List (Pp×Nat)) (g:Pp) (x:Option Sl),ρ=[some (.fz (boxD b)),some (.fz (pD p)),some (.fz (tupD pl)),some (.fz (.int n)),some (.ow (.list (bs.map boxD))),some (.fz (.list (cs.map ctD))),some (.fz (pD c)),x,some (.fz (pD g)),none,none]/\(x=none\/∃d,x=some (.fz d))/\rest=rs.map ctD/\back rs.reverse g=rnw pl n p/\∀z∈rs,z.1.isCut=true/\(z.2=4\/z.2=5)) ?_ ?_ ⟨cs.reverse,.cell n n n,_,rfl,by first|exact .inl rfl|exact .inr ⟨_,rfl⟩,by rw[List.map_reverse],by rw[List.reverse_reverse];exact e2.symm,λz hz=>hcs z (List.mem_reverse.mp hz)⟩
    ·rintro d ds ρ ⟨rs,g,x,rfl,hx,er,hbk,hrs⟩ M hM
     cases rs with
     | nil=>cases er
     | cons z rs =>
      cases er
      obtain⟨cp,k⟩:=z
      obtain⟨hz1,hz2⟩:=hrs (cp,k) M0
      have hrs':∀z∈rs,z.1.isCut=true/\(z.2=4\/z.2=5):=λz hz=>hrs z (G0 _ hz)
      rw[List.reverse_cons,back_snoc]at hbk
      cases cp with
      | cell t l h=>cases hz1
      | cut t l h wy at_ p1 p2 =>
       rcases hz2 with hz2|hz2
       ·simp only at hz2
        subst hz2
        rcases hx with rfl|⟨d,rfl⟩
        ·exact ⟨rfl,_,4,pD g,rfl,by simp,by simp,λo=>⟨t,l,h,wy,at_,g,p2,rfl,λo=>hM _ ⟨rs,anew wy at_ g p2,_,rfl,.inl rfl,rfl,hbk,hrs'⟩⟩⟩
        ·exact ⟨rfl,_,4,pD g,rfl,by simp,by simp,λo=>⟨t,l,h,wy,at_,g,p2,rfl,λo=>hM _ ⟨rs,anew wy at_ g p2,_,rfl,.inr ⟨_,rfl⟩,rfl,hbk,hrs'⟩⟩⟩
       ·simp only at hz2
        subst hz2
        rcases hx with rfl|⟨d,rfl⟩
        ·exact ⟨rfl,_,5,pD g,rfl,by simp,by simp,λo=>⟨t,l,h,wy,at_,p1,g,rfl,λo=>hM _ ⟨rs,anew wy at_ p1 g,_,rfl,.inl rfl,rfl,hbk,hrs'⟩⟩⟩
        ·exact ⟨rfl,_,5,pD g,rfl,by simp,by simp,λo=>⟨t,l,h,wy,at_,p1,g,rfl,λo=>hM _ ⟨rs,anew wy at_ p1 g,_,rfl,.inr ⟨_,rfl⟩,rfl,hbk,hrs'⟩⟩⟩
    ·rintro ρ ⟨rs,g,x,rfl,hx,er,hbk,hrs⟩
     cases rs with
     | cons z rs=>cases er
     | nil =>
      have hbk:g=rnw pl n p:=hbk
      subst hbk
      exact hN _ ⟨_,x,hx,rfl⟩
  rintro _ ⟨y,x,hx,rfl⟩
  rcases hx with rfl|⟨d,rfl⟩
  all_goals exact ⟨bs,rfl,by rw[e1];omega,λbs' hp hs=>q bs' _ (by rw[<- e1];exact hp) hs⟩
end
theorem inB_setv:∀{lo hi p:List Int}{i:Nat}{x y:Int},lo.length=p.length->hi.length=p.length->i < p.length->inB lo p hi=true->(inB (lo.set i x) p (hi.set i y)=(decide (x<=p.getD i 0)&&decide (p.getD i 0<=y))/\lo.getD i 0<=p.getD i 0/\p.getD i 0<=hi.getD i 0)
 | a :: lo,b :: hi,z :: p,0,x,y,h1,h2,_,h=>by
  have h:((decide (a<=z)&&decide (z<=b))&&inB lo p hi)=true:=h
  rw[Y0,Y0,decide_eq_true_eq,decide_eq_true_eq]at h
  refine ⟨?_,h.1.1,h.1.2⟩
  show ((decide (x<=z)&&decide (z<=y))&&inB lo p hi)=_
  rw[h.2,b8];rfl
 | a :: lo,b :: hi,z :: p,i+1,x,y,h1,h2,h3,h=>by
  have h:((decide (a<=z)&&decide (z<=b))&&inB lo p hi)=true:=h
  rw[Y0]at h
  have ih:=inB_setv (lo:=lo) (hi:=hi) (p:=p) (i:=i) (x:=x) (y:=y) (by simpa using h1) (by simpa using h2) (by simpa using h3) h.2
  refine ⟨?_,ih.2⟩
  show ((decide (a<=z)&&decide (z<=b))&&inB (lo.set i x) p (hi.set i y))=_
  rw[h.1,P2];exact ih.1
 | [],_,_ :: _,_,_,_,h,_,_,_=>by simp at h
 | _ :: _,[],_ :: _,_,_,_,_,h,_,_=>by simp at h
 | _,_,[],_,_,_,_,_,h,_=>by simp at h
theorem inB_L{b:Bxx}{pl:List Int}{w a:Int}(h1:b.1.length=pl.length)(h2:b.2.length=pl.length)(hc:cutB b w a=true)(h:inB b.1 pl b.2=true):inB (bxL b w a).1 pl (bxL b w a).2=decide (pl.getD w.toNat 0<=a):=by
 obtain⟨g1,g2,g3,g4⟩:=cutB_is hc
 have:=inB_setv (i:=w.toNat) (x:=b.1.getD w.toNat 0) (y:=a) h1 h2 (by omega) h
 show inB (b.1.set w.toNat (b.1.getD w.toNat 0)) pl (b.2.set w.toNat a)=_
 rw[this.1,decide_eq_true this.2.1,P2]
theorem inB_R{b:Bxx}{pl:List Int}{w a:Int}(h1:b.1.length=pl.length)(h2:b.2.length=pl.length)(hc:cutB b w a=true)(h:inB b.1 pl b.2=true)(hn:¬pl.getD w.toNat 0<=a):inB (bxR b w a).1 pl (bxR b w a).2=true:=by
 obtain⟨g1,g2,g3,g4⟩:=cutB_is hc
 have:=inB_setv (i:=w.toNat) (x:=a+1) (y:=b.2.getD w.toNat 0) h1 h2 (by omega) h
 show inB (b.1.set w.toNat (a+1)) pl (b.2.set w.toNat (b.2.getD w.toNat 0))=_
 rw[this.1,decide_eq_true this.2.2,decide_eq_true (by omega)];rfl
section
variable {P:Program}{w:World}{K:j0}{mg:Str->Option Value}{base:Heap}
structure CalsD0(P:Program)(w:World)(K:j0)(mg:Str->Option Value)(base:Heap):Prop where
 law_cut:Cal P w K mg base 1 "_law_cut" ["_law_box_here","_law_way","_law_at"] (conSp K cCut)
 law_in:Cal P w K mg base 1 "_law_in" ["_law_box_here","_law_place"] (conSp K cIn)
noncomputable def cDue:Nat->Con
 | 0=>λ_ _=>False
 | n+1=>λargs Q=>∃(sd cl pl:List Int) (b:Bxx) (p:Pp) (v:Int),args=[.fz (boxD b),.fz (pD p),.fz (tupD pl),.fz (.int v)]/\Sd sd/\Bx b.1 b.2 sd/\okP sd cl b p=true/\pl.length=sd.length/\inB b.1 pl b.2=true/\p.sz<=60/\ex b.1 b.2<=n /\
  ∀(bs:List Bxx) (o:Ev),bs.Perm (rbx pl b p)->bs.Pairwise (λx y=>ltB y x=false)->Q (.fz (.tuple [pD (rnw pl v p),.list (bs.map boxD)])) o
structure CalsDu(n:Nat)(P:Program)(w:World)(K:j0)(mg:Str->Option Value)(base:Heap):Prop extends CalsD0 P w K mg base where
 law_due:Cal P w K mg base (n+1) "_law_due" ["_law_box_here","_law_paper_here","_law_place","_law_number_here"] (conSp K (cDue n))
theorem scDue:FnScope ["_law_box_here","_law_paper_here","_law_place","_law_number_here","_law_here","_law_there","_law_first","_law_boxes","_law_second","_law_one","_law_other","_law_claim"] ["_law_box_here","_law_paper_here","_law_place","_law_number_here"] (defScope (top 57)):=⟨rfl,rfl,rfl,by decide +kernel,rfl,by decide +kernel,by decide +kernel⟩
theorem ok_dueG{n:Nat}{f:Addr}{fd:FuncData}(F:Fun K "_law_due" "_law_due" (top 57) f fd)(T:Txt mg)(C:CalsDu n P w K mg base):FnOk P w K mg base CX0 (n+2) f fd ["_law_box_here","_law_paper_here","_law_place","_law_number_here"] (conSp K (cDue (n+1))):=by
 have S:=scDue
 refine wfn F S (λcdv A outer s H E hr=>(s_cons (s_if (t_cmp ok_eq (op_eqE (K:=K) rfl hr.units) (wx (w_ix rfl (wn 1) (wx w_int))) (wx w_str)) (s_one (s_ret (w_tup (wa_cons (wx (w_tup (wa_cons (wx w_str) (wa_cons (wx (w_tup (wa_cons (wx (wv 3)) (wa_cons (wx (wv 3)) (wa_cons (wx (wv 3)) wa_nil))))) wa_nil)))) (wa_cons (wx (w_lst (wa_cons (wx (wv 0)) wa_nil))) wa_nil))))) s_nil)
     (s_cons (s_asgG (w_fn C.law_cut (hr.mono (by first|decide|omega)) (wa_cons (wn 0) (wa_cons (wx (w_ix rfl (wn 1) (wx w_int))) (wa_cons (wx (w_ix rfl (wn 1) (wx w_int))) wa_nil)))) (g_tup rfl rfl (gs_cons (g_name (i:=4) S.nd rfl (Or.inl rfl)) (gs_cons (g_name (i:=5) S.nd rfl (Or.inl rfl)) gs_nil))))
     (s_cons (s_if (t_val (w_fn C.law_in (hr.mono (by first|decide|omega)) (wa_cons (wn 4) (wa_cons (wn 2) wa_nil)))) (s_cons (s_asgG (w_fn C.law_due (hr.mono (by first|decide|omega)) (wa_cons (wn 4) (wa_cons (wx (w_ix rfl (wn 1) (wx w_int))) (wa_cons (wn 2) (wa_cons (wn 3) wa_nil))))) (g_tup rfl rfl (gs_cons (g_name (i:=6) S.nd rfl (Or.inl rfl)) (gs_cons (g_name (i:=7) S.nd rfl (Or.inl rfl)) gs_nil))))
     (s_one (s_set (i:=8) S.nd rfl (Or.inl rfl) (w_ix rfl (wn 1) (wx w_int))))) (s_cons (s_set (i:=6) S.nd rfl (Or.inl rfl) (w_ix rfl (wn 1) (wx w_int)))
     (s_one (s_asgG (w_fn C.law_due (hr.mono (by first|decide|omega)) (wa_cons (wn 5) (wa_cons (wx (w_ix rfl (wn 1) (wx w_int))) (wa_cons (wn 2) (wa_cons (wn 3) wa_nil))))) (g_tup rfl rfl (gs_cons (g_name (i:=8) S.nd rfl (Or.inl rfl)) (gs_cons (g_name (i:=7) S.nd rfl (Or.inl rfl)) gs_nil)))))))
     (s_cons (s_set (i:=9) S.nd rfl (Or.inl rfl) (w_ix rfl (wn 6) (wx w_int)))
     (s_cons (s_set (i:=10) S.nd rfl (Or.inl rfl) (w_ix rfl (wn 8) (wx w_int)))
     (s_cons (s_set (i:=11) S.nd rfl (Or.inl rfl) (w_tup (wa_cons (wx (w_bin ok_add op_addD (wx (w_ix rfl (wn 9) (wx w_int))) (wx (w_ix rfl (wn 10) (wx w_int))))) (wa_cons (wx (w_callB ok_2I (call_min2 rfl) T.min_ boot_min (wa_cons (wx (w_ix rfl (wn 9) (wx w_int))) (wa_cons (wx (w_ix rfl (wn 10) (wx w_int))) wa_nil)))) (wa_cons (wx (w_callB ok_2I (call_max2 rfl) T.max_ boot_max (wa_cons (wx (w_ix rfl (wn 9) (wx w_int))) (wa_cons (wx (w_ix rfl (wn 10) (wx w_int))) wa_nil)))) wa_nil)))))
     (s_one (s_ret (w_tup (wa_cons (wx (w_bin ok_add op_addD (wx (w_bin ok_add op_addD (wx (w_tup (wa_cons (wx w_str) (wa_cons (wx (wv 11)) wa_nil)))) (wx (w_sl3T rfl (wn 1) (wx w_int) (wx w_int))))) (wx (w_tup (wa_cons (wx (wv 6)) (wa_cons (wx (wv 8)) wa_nil)))))) (wa_cons (wx (w_callB ok_sortB64 (call_sortBK64 rfl (hu2_of hr)) T.sorted_ boot_sorted (wa_cons (wx (w_bin ok_add op_addD (wn 7) (wx (w_lst (wa_cons (wx (wv 0)) wa_nil))))) wa_nil))) wa_nil)))))))))))) ?_ ?_
 ·rintro args Qd ⟨sd,cl,pl,b,p,v,rfl,_⟩;rfl
 ·rintro args Qd ⟨sd,cl,pl,b,p,v,rfl,hsd,hb,hok,hpl,hin,hz,hex,q⟩
  refine ⟨noOw_of rfl,?_⟩
  have h3:=hsd.l3
  have hbl:=bx_len hb
  cases p with
  | cell t l h =>
   refine ⟨_,rfl,?_⟩
   exact q [b] _ (List.Perm.refl _) (by simp)
  | cut t l h wy at_ p1 p2 =>
   obtain⟨hcut,_,k1,k2⟩:=okP_cut hok
   obtain⟨g1,g2,g3,g4⟩:=cutB_is hcut
   have hexc:=ex_cut (b:=b) (w:=wy) (a:=at_) (by omega) hcut
   obtain⟨m,rfl⟩:∃m,n=m+1:=⟨n - 1,by omega⟩
   have esz:(Pp.cut t l h wy at_ p1 p2).sz=1+p1.sz+p2.sz:=rfl
   rw[esz]at hz
   have eL:=inB_L (b:=b) (pl:=pl) (w:=wy) (a:=at_) (by omega) (by omega) hcut hin
   have lL:=bx_len (bxL_bx hb hcut)
   with_reducible refine cutS (λρ=>ρ=[some (.fz (boxD b)),some (.fz (pD (.cut t l h wy at_ p1 p2))),some (.fz (tupD pl)),some (.fz (.int v)),none,none,none,none,none,none,none,none]) ?_ ?_
   ·intro N hN
    exact ⟨_,rfl,hN _ rfl⟩
   rintro _ rfl
   with_reducible refine cutS (λρ=>ρ=[some (.fz (boxD b)),some (.fz (pD (.cut t l h wy at_ p1 p2))),some (.fz (tupD pl)),some (.fz (.int v)),some (.fz (boxD (bxL b wy at_))),some (.fz (boxD (bxR b wy at_))),none,none,none,none,none,none]) ?_ ?_
   ·intro N hN
    exact ⟨_,rfl,_,rfl,b,wy,at_,rfl,g1,g2,by omega,by omega,λo=>⟨rfl,hN _ rfl⟩⟩
   rintro _ rfl
   with_reducible refine cutS (λρ=>∃(p1' p2':Pp) (bs:List Bxx) (x:Option Sl),ρ=[some (.fz (boxD b)),some (.fz (pD (.cut t l h wy at_ p1 p2))),some (.fz (tupD pl)),some (.fz (.int v)),some (.fz (boxD (bxL b wy at_))),some (.fz (boxD (bxR b wy at_))),some (.fz (pD p1')),x,some (.fz (pD p2')),none,none,none]/\(x=some (.fz (.list (bs.map boxD))))/\rnw pl v (.cut t l h wy at_ p1 p2)=anew wy at_ p1' p2'/\(rbx pl b (.cut t l h wy at_ p1 p2)).Perm (bs++[b])/\bs.length<=60) ?_ ?_
   ·intro N hN
    refine ⟨(bxL b wy at_).1,(bxL b wy at_).2,pl,rfl,by omega,by omega,by omega,λo=>?_⟩
    rw[eL]
    refine ite2 (λhle=>?_) (λhle=>?_)
    ·have hle:=of_decide_eq_true hle
     have hr:=rbx_len pl p1 (bxL b wy at_)
     refine ⟨_,rfl,sd,cl,pl,bxL b wy at_,p1,v,rfl,hsd,bxL_bx hb hcut,k1,hpl,by rw[eL];exact decide_eq_true hle,by omega,by omega,λbs o hp hs=>⟨rfl,_,rfl,?_⟩⟩
     refine hN _ ⟨rnw pl v p1,p2,bs,_,rfl,rfl,?_,?_,by rw[hp.length_eq];omega⟩
     ·show (if pl.getD wy.toNat 0<=at_ then anew wy at_ (rnw pl v p1) p2 else anew wy at_ p1 (rnw pl v p2))=_
      rw[if_pos hle]
     ·show (b :: if pl.getD wy.toNat 0<=at_ then rbx pl (bxL b wy at_) p1 else rbx pl (bxR b wy at_) p2).Perm _
      rw[if_pos hle]
      exact (List.Perm.cons _ hp.symm).trans (P6 b bs).symm
    ·have hle:¬pl.getD wy.toNat 0<=at_:=λz=>hle (decide_eq_true z)
     have hr:=rbx_len pl p2 (bxR b wy at_)
     refine ⟨_,rfl,?_⟩
     refine ⟨_,rfl,sd,cl,pl,bxR b wy at_,p2,v,rfl,hsd,bxR_bx hb hcut,k2,hpl,inB_R (by omega) (by omega) hcut hin hle,by omega,by omega,λbs o hp hs=>⟨rfl,?_⟩⟩
     refine hN _ ⟨p1,rnw pl v p2,bs,_,rfl,rfl,?_,?_,by rw[hp.length_eq];omega⟩
     ·show (if pl.getD wy.toNat 0<=at_ then anew wy at_ (rnw pl v p1) p2 else anew wy at_ p1 (rnw pl v p2))=_
      rw[if_neg hle]
     ·show (b :: if pl.getD wy.toNat 0<=at_ then rbx pl (bxL b wy at_) p1 else rbx pl (bxR b wy at_) p2).Perm _
      rw[if_neg hle]
      exact (List.Perm.cons _ hp.symm).trans (P6 b bs).symm
   rintro _ ⟨p1',p2',bs,x,rfl,rfl,er,hpm,hbl2⟩
   rw[er]at q
   have eb:bs.map boxD++[boxD b]=(bs++[b]).map boxD:=by rw[j2];rfl
   clear er hok k1 k2
   obtain⟨w1,r1,e1⟩:=pD_is p1'
   obtain⟨w2,r2,e2⟩:=pD_is p2'
   with_reducible refine cutS (λρ=>ρ=[some (.fz (boxD b)),some (.fz (pD (.cut t l h wy at_ p1 p2))),some (.fz (tupD pl)),some (.fz (.int v)),some (.fz (boxD (bxL b wy at_))),some (.fz (boxD (bxR b wy at_))),some (.fz (pD p1')),some (.fz (.list (bs.map boxD))),some (.fz (pD p2')),some (.fz (tupD p1'.cl)),none,none]) ?_ ?_
   ·intro N hN
    rw[e1]at hN ⊢
    exact ⟨_,atI_nat (j:=1) rfl,hN _ rfl⟩
   rintro _ rfl
   with_reducible refine cutS (λρ=>ρ=[some (.fz (boxD b)),some (.fz (pD (.cut t l h wy at_ p1 p2))),some (.fz (tupD pl)),some (.fz (.int v)),some (.fz (boxD (bxL b wy at_))),some (.fz (boxD (bxR b wy at_))),some (.fz (pD p1')),some (.fz (.list (bs.map boxD))),some (.fz (pD p2')),some (.fz (tupD p1'.cl)),some (.fz (tupD p2'.cl)),none]) ?_ ?_
   ·intro N hN
    rw[e2]at hN ⊢
    exact ⟨_,atI_nat (j:=1) rfl,hN _ rfl⟩
   rintro _ rfl
   with_reducible refine cutS (λρ=>ρ=[some (.fz (boxD b)),some (.fz (pD (.cut t l h wy at_ p1 p2))),some (.fz (tupD pl)),some (.fz (.int v)),some (.fz (boxD (bxL b wy at_))),some (.fz (boxD (bxR b wy at_))),some (.fz (pD p1')),some (.fz (.list (bs.map boxD))),some (.fz (pD p2')),some (.fz (tupD p1'.cl)),some (.fz (tupD p2'.cl)),some (.fz (tupD (comb p1'.cl p2'.cl)))]) ?_ ?_
   ·intro N hN
    obtain⟨u1,v1,z1,f1⟩:=cl_is p1'
    obtain⟨u2,v2,z2,f2⟩:=cl_is p2'
    rw[f1,f2]at hN ⊢
    rw[comb_if]at hN
    exact ⟨_,rfl,_,rfl,_,rfl,_,rfl,_,rfl,_,rfl,hN _ rfl⟩
   rintro _ rfl
   refine ⟨by decide,by decide,le_size (by simp),le_size (by simp),le_size (by simp;omega),bs++[b],eb,by rw[Z0,A3];omega,λbs' hp hs=>?_⟩
   exact q bs' _ (hp.trans hpm.symm) hs
theorem ok_due{f:Addr}{fd:FuncData}(F:Fun K "_law_due" "_law_due" (top 57) f fd)(T:Txt mg)(C:CalsD0 P w K mg base)(R:Slf K mg "_law_due" f fd ["_law_box_here","_law_paper_here","_law_place","_law_number_here"]):FnOk P w K mg base CX0 32 f fd ["_law_box_here","_law_paper_here","_law_place","_law_number_here"] (conSp K (cDue 31)):=by
 have all:∀n,Cal P w K mg base (n+1) "_law_due" ["_law_box_here","_law_paper_here","_law_place","_law_number_here"] (conSp K (cDue n)):=λn=>by
  induction n with
  | zero=>exact ⟨⟨f,fd,ok_no,R.m,R.k,R.b⟩⟩
  | succ n ih=>exact ⟨⟨f,fd,ok_dueG F T ⟨C,ih⟩,R.m,R.k,R.b⟩⟩
 exact ok_dueG F T ⟨C,all 30⟩
noncomputable def cGo:Con:=λargs Q=>∃(a b c:Int) (sd cl:List Int) (bx:Bxx),args=[.io (penD a b c),.fz (tupD sd),.fz (liD cl),.fz (boxD bx)]/\0<=a/\0<=b/\0<=c/\Sd sd/\prodI sd<=18/\cl.length=(plc sd).length/\(∀x∈cl,Big x)/\Bx bx.1 bx.2 sd /\
 ∀(a' b' c':Int) (o:Ev),0<=a'->0<=b'->0<=c'->Q (.fz (.bool true)) (some (.io (penD a' b' c')) :: o)
end
noncomputable def wsum(f:List Int->Bool)(ps:List (List Int))(cs:List Int):Int:=(((ps.zip cs).filter λr=>f r.1).map (·.2)).sum
theorem wsum_cons(f:List Int->Bool)(p:List Int)(ps:List (List Int))(c:Int)(cs:List Int):wsum f (p :: ps) (c :: cs)=(if f p=true then c else 0)+wsum f ps cs:=by
 unfold wsum
 rw[i5,o6]
 by_cases h:f p=true
 ·simp[h]
 ·simp[h]
theorem wsum_set(f:List Int->Bool):∀{ps:List (List Int)}{cs:List Int}{n:Nat}{v:Int}{p:List Int},n < cs.length->ps[n]?=some p->f p=true->wsum f ps (cs.set n v)+cs.getD n 0=wsum f ps cs+v
 | p' :: ps,c :: cs,0,v,p,_,h,hf=>by
  have h:p'=p:=by simpa using h
  subst h
  rw[i8,wsum_cons,wsum_cons,if_pos hf,if_pos hf]
  show v+_+c=_
  omega
 | p' :: ps,c :: cs,n+1,v,p,hn,h,hf=>by
  have:=wsum_set f (ps:=ps) (cs:=cs) (n:=n) (v:=v) (by simpa using hn) (by simpa using h) hf
  rw[j8,wsum_cons,wsum_cons]
  show _+_+cs.getD n 0=_
  omega
 | _,[],_,_,_,h,_,_=>by simp at h
 | [],_ :: _,_,_,_,_,h,_=>by simp at h
theorem bad_other{sd cl cl':List Int}{b:Bxx}{p:Pp}(hb:Bx b.1 b.2 sd)(h1:okP sd cl b p=true)(h2:(cels sd cl' b.1 b.2).sum≠(cels sd cl b.1 b.2).sum):okP sd cl' b p=false:=by
 cases e:okP sd cl' b p with
 | false=>rfl
 | true =>
  have e1:=(okP_sum p hb h1).1
  have e2:=(okP_sum p hb e).1
  exact absurd (e2.symm.trans e1) h2
theorem cel_new{sd cl pl:List Int}{j:Nat}{n:Int}(hp:∀c∈sd,1<=c)(hj:(plc sd)[j]?=some pl)(hcl:cl.length=(plc sd).length):cel sd (cl.set j n) pl=n:=by
 have h1:=(plc_at hp hj).2
 have h2:=(X0.mp hj).1
 unfold cel
 rw[h1,T4,Q0,Y5 (by omega)]
 rfl
theorem cel_old{sd cl pl q:List Int}{j:Nat}{n:Int}(hp:∀c∈sd,1<=c)(hj:(plc sd)[j]?=some pl)(hq:Wi q sd)(hne:q≠pl):cel sd (cl.set j n) q=cel sd cl q:=by
 obtain⟨k,hk⟩:=J4.mp (wi_mem hq)
 have h1:=(plc_at hp hk).2
 have hjk:j≠k:=λz=>by
  rw[z,hk]at hj
  injection hj with hj
  exact hne hj
 unfold cel
 rw[h1,T4,Q0,Q0,P0 hjk]
theorem inB_up:∀{lo hi p:List Int}{i:Nat}{x y:Int},lo.getD i 0<=x->y<=hi.getD i 0->i < lo.length->i < hi.length->inB (lo.set i x) p (hi.set i y)=true->inB lo p hi=true
 | a :: lo,b :: hi,z :: p,0,x,y,h1,h2,_,_,h=>by
  have h:((decide (x<=z)&&decide (z<=y))&&inB lo p hi)=true:=h
  rw[Y0,Y0,decide_eq_true_eq,decide_eq_true_eq]at h
  have h1:a<=x:=h1
  have h2:y<=b:=h2
  show ((decide (a<=z)&&decide (z<=b))&&inB lo p hi)=true
  rw[h.2,decide_eq_true (by omega),decide_eq_true (by omega)];rfl
 | a :: lo,b :: hi,z :: p,i+1,x,y,h1,h2,h3,h4,h=>by
  have h:((decide (a<=z)&&decide (z<=b))&&inB (lo.set i x) p (hi.set i y))=true:=h
  rw[Y0]at h
  show ((decide (a<=z)&&decide (z<=b))&&inB lo p hi)=true
  rw[h.1,inB_up (lo:=lo) (hi:=hi) (p:=p) (i:=i) h1 h2 (by simpa using h3) (by simpa using h4) h.2];rfl
 | [],_,_,_,_,_,_,_,h,_,_=>by simp at h
 | _ :: _,[],_,_,_,_,_,_,_,h,_=>by simp at h
 | _ :: _,_ :: _,[],_,_,_,_,_,_,_,_=>rfl
theorem inB_self:∀p:List Int,inB p p p=true
 | []=>rfl
 | x :: p=>by show ((decide (x<=x)&&decide (x<=x))&&inB p p p)=true;rw[decide_eq_true (V3 x),inB_self p];rfl
theorem inB_one:∀{lo p:List Int},lo.length=p.length->inB lo p lo=true->p=lo
 | [],[],_,_=>rfl
 | a :: lo,z :: p,hl,h=>by
  have h:((decide (a<=z)&&decide (z<=a))&&inB lo p lo)=true:=h
  rw[Y0,Y0,decide_eq_true_eq,decide_eq_true_eq]at h
  rw[inB_one (by simpa using hl) h.2,show z=a by omega]
 | [],_ :: _,h,_=>by simp at h
 | _ :: _,[],h,_=>by simp at h
theorem okP_far{sd cl pl:List Int}{j:Nat}{n:Int}(hp:∀c∈sd,1<=c)(hj:(plc sd)[j]?=some pl)(p:Pp):∀{b:Bxx},Bx b.1 b.2 sd->inB b.1 pl b.2=false->okP sd (cl.set j n) b p=okP sd cl b p:=by
 induction p with
 | cell t l h =>
  intro b hb hn
  show (decide (b.1=b.2)&&letB [t,l,h] [cel sd (cl.set j n) b.1,cel sd (cl.set j n) b.1,cel sd (cl.set j n) b.1])=(decide (b.1=b.2)&&letB [t,l,h] [cel sd cl b.1,cel sd cl b.1,cel sd cl b.1])
  by_cases e:b.1=b.2
  ·have hne:b.1≠pl:=λz=>by
    rw[<- e,z,inB_self]at hn
    cases hn
   rw[cel_old hp hj (bx_wi hb).1 hne]
  ·rw[decide_eq_false e];rfl
 | cut t l h w a p q ihp ihq =>
  intro b hb hn
  show (cutB b w a&&(letB [t,l,h] (comb p.cl q.cl)&&(okP sd (cl.set j n) (bxL b w a) p&&okP sd (cl.set j n) (bxR b w a) q)))=(cutB b w a&&(letB [t,l,h] (comb p.cl q.cl)&&(okP sd cl (bxL b w a) p&&okP sd cl (bxR b w a) q)))
  cases hc:cutB b w a with
  | false=>rfl
  | true =>
   obtain⟨g1,g2,g3,g4⟩:=cutB_is hc
   have hl:=bx_len hb
   have nL:inB (bxL b w a).1 pl (bxL b w a).2=false:=E1.mpr λz=>by
    rw[inB_up (i:=w.toNat) (V3 _) (show a<=b.2.getD w.toNat 0 by omega) (by omega) (by omega) z]at hn
    cases hn
   have nR:inB (bxR b w a).1 pl (bxR b w a).2=false:=E1.mpr λz=>by
    rw[inB_up (i:=w.toNat) (show b.1.getD w.toNat 0<=a+1 by omega) (V3 _) (by omega) (by omega) z]at hn
    cases hn
   rw[ihp (bxL_bx hb hc) nL,ihq (bxR_bx hb hc) nR]
theorem letB_self(l:List Int):letB l l=true:=by
 unfold letB
 rw[decide_eq_true rfl,decide_eq_true (V3 _),decide_eq_true (V3 _)];rfl
theorem okP_new{sd cl pl:List Int}{j:Nat}{n:Int}(hp:∀c∈sd,1<=c)(hj:(plc sd)[j]?=some pl)(hcl:cl.length=(plc sd).length)(hpl:pl.length=sd.length)(p:Pp):∀{b:Bxx},Bx b.1 b.2 sd->inB b.1 pl b.2=true->okP sd cl b p=true->okP sd (cl.set j n) b (rnw pl n p)=true:=by
 induction p with
 | cell t l h =>
  intro b hb hn hk
  have e:=(okP_cell hk).1
  have hl:=bx_len hb
  rw[<- e]at hn
  have e2:=inB_one (by omega) hn
  show (decide (b.1=b.2)&&letB [n,n,n] [cel sd (cl.set j n) b.1,cel sd (cl.set j n) b.1,cel sd (cl.set j n) b.1])=true
  rw[<- e2,cel_new hp hj hcl,e2,decide_eq_true e,P2]
  exact letB_self _
 | cut t l h w a p q ihp ihq =>
  intro b hb hn hk
  obtain⟨hc,_,k1,k2⟩:=okP_cut hk
  have hl:=bx_len hb
  have eL:=inB_L (b:=b) (pl:=pl) (w:=w) (a:=a) (by omega) (by omega) hc hn
  show okP sd (cl.set j n) b (if pl.getD w.toNat 0<=a then anew w a (rnw pl n p) q else anew w a p (rnw pl n q))=true
  by_cases hle:pl.getD w.toNat 0<=a
  ·rw[if_pos hle]
   rw[decide_eq_true hle]at eL
   have nR:inB (bxR b w a).1 pl (bxR b w a).2=false:=E1.mpr λz=>by
    obtain⟨g1,g2,g3,g4⟩:=cutB_is hc
    have:=inB_setv (i:=w.toNat) (x:=a+1) (y:=b.2.getD w.toNat 0) (by omega) (by omega) (by omega) hn
    have z:inB (b.1.set w.toNat (a+1)) pl (b.2.set w.toNat (b.2.getD w.toNat 0))=true:=z
    rw[this.1,decide_eq_false (by omega)]at z
    cases z
   show (cutB b w a&&(letB (comb (rnw pl n p).cl q.cl) (comb (rnw pl n p).cl q.cl)&&(okP sd (cl.set j n) (bxL b w a) (rnw pl n p)&&okP sd (cl.set j n) (bxR b w a) q)))=true
   rw[hc,letB_self,ihp (bxL_bx hb hc) eL k1,okP_far hp hj q (bxR_bx hb hc) nR,k2];rfl
  ·rw[if_neg hle]
   rw[decide_eq_false hle]at eL
   show (cutB b w a&&(letB (comb p.cl (rnw pl n q).cl) (comb p.cl (rnw pl n q).cl)&&(okP sd (cl.set j n) (bxL b w a) p&&okP sd (cl.set j n) (bxR b w a) (rnw pl n q))))=true
   rw[hc,letB_self,okP_far hp hj p (bxL_bx hb hc) eL,k1,ihq (bxR_bx hb hc) (inB_R (by omega) (by omega) hc hn hle) k2];rfl
theorem okP_same{sd cl pl:List Int}{j:Nat}{n:Int}{b:Bxx}{p:Pp}(hp:∀c∈sd,1<=c)(hj:(plc sd)[j]?=some pl)(hcl:cl.length=(plc sd).length)(hb:Bx b.1 b.2 sd)(hin:inB b.1 pl b.2=true)(hk:okP sd cl b p=true):okP sd (cl.set j n) b p=decide (n=cl.getD j 0):=by
 have hjl:j < cl.length:=by have:=(X0.mp hj).1;omega
 by_cases e:n=cl.getD j 0
 ·rw[decide_eq_true e,e]
  have:cl.set j (cl.getD j 0)=cl:=by rw[Q0,J0 hjl];exact K7 hjl
  rw[this]
  exact hk
 ·rw[decide_eq_false e]
  refine bad_other hb hk ?_
  rw[<- win_cels hp (by simpa using hcl) hb,<- win_cels hp hcl hb]
  have hw:=wsum_set (λp=>inB b.1 p b.2) (ps:=plc sd) (cs:=cl) (n:=j) (v:=n) hjl hj hin
  have hw:(win sd (cl.set j n) b.1 b.2).sum+cl.getD j 0=(win sd cl b.1 b.2).sum+n:=hw
  intro z
  rw[z]at hw
  omega
noncomputable def Pp.sb:Pp->Prop
 | .cell _ l h=>l.natAbs < 10 ^ 40/\h.natAbs < 10 ^ 40
 | .cut _ l h w a p q=>(l.natAbs < 10 ^ 40/\h.natAbs < 10 ^ 40/\w.natAbs < 10 ^ 40/\a.natAbs < 10 ^ 40)/\p.sb/\q.sb
theorem Pp.sm_sb(p:Pp)(h:p.sm):p.sb:=by
 induction p with
 | cell t l hh=>exact ⟨h l (by simp),h hh (by simp)⟩
 | cut t l hh w a p q ih1 ih2=>exact ⟨⟨h.1 l (by simp),h.1 hh (by simp),h.1 w (by simp),h.1 a (by simp)⟩,ih1 h.2.1,ih2 h.2.2⟩
theorem Pp.sb_cl(p:Pp)(h:p.sb):(p.cl.getD 1 0).natAbs < 10 ^ 40/\(p.cl.getD 2 0).natAbs < 10 ^ 40:=by
 cases p with
 | cell t l hh=>exact h
 | cut t l hh w a p q=>exact ⟨h.1.1,h.1.2.1⟩
theorem anew_sb{w a:Int}{p q:Pp}(hw:w.natAbs < 10 ^ 40)(ha:a.natAbs < 10 ^ 40)(hp:p.sb)(hq:q.sb):(anew w a p q).sb:=by
 have h1:=p.sb_cl hp
 have h2:=q.sb_cl hq
 refine ⟨⟨?_,?_,hw,ha⟩,hp,hq⟩
 ·show (min (p.cl.getD 1 0) (q.cl.getD 1 0)).natAbs < 10 ^ 40
  omega
 ·show (max (p.cl.getD 2 0) (q.cl.getD 2 0)).natAbs < 10 ^ 40
  omega
theorem rnw_sb{pl:List Int}{n:Int}(hn:n.natAbs < 10 ^ 40)(p:Pp)(h:p.sb):(rnw pl n p).sb:=by
 induction p with
 | cell t l hh=>exact ⟨hn,hn⟩
 | cut t l hh w a p q ih1 ih2 =>
  show (if pl.getD w.toNat 0<=a then anew w a (rnw pl n p) q else anew w a p (rnw pl n q)).sb
  split
  ·exact anew_sb h.1.2.2.1 h.1.2.2.2 (ih1 h.2.1) h.2.2
  ·exact anew_sb h.1.2.2.1 h.1.2.2.2 h.2.1 (ih2 h.2.2)
theorem rnw_sz{pl:List Int}{n:Int}(p:Pp):(rnw pl n p).sz=p.sz:=by
 induction p with
 | cell t l hh=>rfl
 | cut t l hh w a p q ih1 ih2 =>
  show (if pl.getD w.toNat 0<=a then anew w a (rnw pl n p) q else anew w a p (rnw pl n q)).sz=1+p.sz+q.sz
  split
  ·show 1+(rnw pl n p).sz+q.sz=_;rw[ih1]
  ·show 1+p.sz+(rnw pl n q).sz=_;rw[ih2]
theorem sum_abs{M:Nat}:∀{l:List Int},(∀x∈l,x.natAbs<=M)->l.sum.natAbs<=l.length * M
 | [],_=>by simp
 | x :: l,h=>by
  have h1:=h x M0
  have h2:=sum_abs (l:=l) λy hy=>h y (G0 _ hy)
  rw[V2,Z1,E6]
  omega
theorem sm_of{sd cl:List Int}(hB:∀x∈cl,Big x)(p:Pp):∀{b:Bxx},Bx b.1 b.2 sd->okP sd cl b p=true->p.lv<=1000->p.sb->p.sm:=by
 have ht:∀{b:Bxx} (p:Pp),Bx b.1 b.2 sd->okP sd cl b p=true->p.lv<=1000->(p.cl.getD 0 0).natAbs < 10 ^ 40:=λ{b} p hb hk hl=>by
  obtain⟨h1,h2⟩:=okP_sum p hb hk
  have h3:=sum_abs (M:=10 ^ 27) (l:=cels sd cl b.1 b.2) λx hx=>by
   unfold cels at hx
   obtain⟨q,_,rfl⟩:=U0.mp hx
   exact G5 (big_abs (cel_big hB q))
  rw[h1]
  have h4:(cels sd cl b.1 b.2).length * 10 ^ 27<=1000 * 10 ^ 27:=R7 _ (by omega)
  exact E3 (O1 h3 h4) (by decide)
 induction p with
 | cell t l hh =>
  intro b hb hk hl hs x hx
  have h0:=ht (.cell t l hh) hb hk hl
  have hx:x=t\/x=l\/x=hh:=by simpa using hx
  rcases hx with rfl|rfl|rfl
  ·exact h0
  ·exact hs.1
  ·exact hs.2
 | cut t l hh w a p q ih1 ih2 =>
  intro b hb hk hl hs
  have h0:=ht (.cut t l hh w a p q) hb hk hl
  obtain⟨hc,_,k1,k2⟩:=okP_cut hk
  have elv:(Pp.cut t l hh w a p q).lv=p.lv+q.lv:=rfl
  rw[elv]at hl
  refine ⟨λx hx=>?_,ih1 (bxL_bx hb hc) k1 (by omega) hs.2.1,ih2 (bxR_bx hb hc) k2 (by omega) hs.2.2⟩
  have hx:x=t\/x=l\/x=hh\/x=w\/x=a:=by simpa using hx
  rcases hx with rfl|rfl|rfl|rfl|rfl
  ·exact h0
  ·exact hs.1.1
  ·exact hs.1.2.1
  ·exact hs.1.2.2.1
  ·exact hs.1.2.2.2
theorem rbx_bx{sd cl pl:List Int}(p:Pp):∀{b:Bxx},Bx b.1 b.2 sd->okP sd cl b p=true->∀z∈rbx pl b p,Bx z.1 z.2 sd:=by
 induction p with
 | cell t l h =>
  intro b hb _ z hz
  rw[A1.mp hz]
  exact hb
 | cut t l h w a p q ih1 ih2 =>
  intro b hb hk z hz
  obtain⟨hc,_,k1,k2⟩:=okP_cut hk
  rcases B1.mp hz with rfl|hz
  ·exact hb
  ·split at hz
   ·exact ih1 (bxL_bx hb hc) k1 z hz
   ·exact ih2 (bxR_bx hb hc) k2 z hz
theorem wi_small:∀{p sd:List Int},Wi p sd->(∀s∈sd,s<=120)->∀x∈p,x.natAbs < 10 ^ 3
 | [],_,_,_,x,hx=>by simp at hx
 | y :: p,s :: sd,h,hs,x,hx=>by
  rcases B1.mp hx with rfl|hx
  ·have h1:=h.1
   have h2:=hs s M0
   omega
  ·exact wi_small h.2 (λs hs'=>hs s (G0 _ hs')) x hx
 | _ :: _,[],h,_,_,_=>h.elim
theorem box_shows{sd:List Int}(hsd:Sd sd){z:Bxx}(h:Bx z.1 z.2 sd):(boxD z).showable=true/\(boxD z).shown.length<=50:=by
 have hl:=bx_len h
 have h3:=hsd.l3
 have hs:∀s∈sd,s<=120:=λs hs=>by have:=le_prodI hsd.p s hs;have:=hsd.m;omega
 have one:∀{p:List Int},p.length<=3->Wi p sd->(tupD p).showable=true/\(tupD p).shown.length<=21:=λ{p} hp hw=>by
  have hx:=wi_small hw hs
  refine ⟨L3.showableAll_of λd hd=>?_,?_⟩
  ·obtain⟨x,hx',rfl⟩:=U0.mp hd
   exact showable_int (k:=200) (J5 (hx x hx') (by decide +kernel)) (by decide)
  ·have:=shown_tuple (b:=4) (l:=p.map q0) λd hd=>by
    obtain⟨x,hx',rfl⟩:=U0.mp hd
    exact shown_int (by decide) (hx x hx')
   rw[A0]at this
   show (K2 (p.map q0)).shown.length<=21
   omega
 obtain⟨a1,a2⟩:=one (p:=z.1) (by omega) (bx_wi h).1
 obtain⟨b1,b2⟩:=one (p:=z.2) (by omega) (bx_wi h).2
 refine ⟨L3.showableAll_of (l:=[tupD z.1,tupD z.2]) λd hd=>?_,?_⟩
 ·have hd:d=tupD z.1\/d=tupD z.2:=by simpa using hd
  rcases hd with rfl|rfl
  ·exact a1
  ·exact b1
 ·have:=shown_tupS [tupD z.1,tupD z.2]
  simp only[K1,O3,V2,G6]at this
  show (K2 [tupD z.1,tupD z.2]).shown.length<=50
  omega
noncomputable abbrev prB(p:Pp)(bs:List Bxx):PyData:=.tuple [pD p,.list (bs.map boxD)]
theorem pair_shows{sd:List Int}(hsd:Sd sd){p:Pp}{bs:List Bxx}(h:p.sm)(hlv:p.lv<=18)(hbs:bs.length<=35)(hb:∀z∈bs,Bx z.1 z.2 sd):plainD (prB p bs)=true/\(prB p bs).showable=true/\(prB p bs).depth+1<=64/\(prB p bs).shown.length<=sizeLine:=by
 obtain⟨s1,s2⟩:=p.shows h
 have hn:=p.nice
 have nb:∀z:Bxx,Nice 2 (boxD z):=λb=>.tuple λd hd=>by
  have hd:d=tupD b.1\/d=tupD b.2:=by simpa using hd
  rcases hd with rfl|rfl
  ·exact Nice.tup _
  ·exact Nice.tup _
 have nl:Nice 3 (.list (bs.map boxD)):=Nice.list λd hd=>by
  obtain⟨z,_,rfl⟩:=U0.mp hd
  exact nb z
 have n2:Nice 41 (prB p bs):=Nice.tuple (n:=40) λd hd=>by
  have hd:d=pD p\/d=.list (bs.map boxD):=by simpa using hd
  rcases hd with rfl|rfl
  ·exact hn.mono (by omega)
  ·exact nl.mono (by decide)
 have sl:(Q3 (bs.map boxD)).showable=true:=L3.showableAll_of λd hd=>by
  obtain⟨z,hz,rfl⟩:=U0.mp hd
  exact (box_shows hsd (hb z hz)).1
 refine ⟨n2.p,L3.showableAll_of (l:=[pD p,.list (bs.map boxD)]) λd hd=>?_,by have:=n2.d;omega,?_⟩
 ·have hd:d=pD p\/d=.list (bs.map boxD):=by simpa using hd
  rcases hd with rfl|rfl
  ·exact s1
  ·exact sl
 ·have h1:=shown_list (b:=50) (l:=bs.map boxD) λd hd=>by
   obtain⟨z,hz,rfl⟩:=U0.mp hd
   exact (box_shows hsd (hb z hz)).2
  have h2:=shown_tupS [pD p,.list (bs.map boxD)]
  simp only[K1,O3,V2,G6]at h2
  rw[A0]at h1
  refine O1 (show (prB p bs).shown.length<=20000 from ?_) (by decide)
  show (K2 [pD p,.list (bs.map boxD)]).shown.length<=20000
  have h3:bs.length * (50+2)<=35 * 52:=R7 _ hbs
  omega
theorem bs_uniq{bs bs' r:List Bxx}(h1:bs.Perm r)(h2:bs'.Perm r)(s1:bs.Pairwise λx y=>ltB y x=false)(s2:bs'.Pairwise λx y=>ltB y x=false):bs=bs' :=
 SG.sorted_uniq (lt:=ltB) (λa b=>ltB_eq) (h1.trans h2.symm) s1 s2
noncomputable def tI:PyData->List Int
 | .tuple ds=>ds.map unI
 | _=>[]
theorem pD_noMut(p:Pp):noMut (pD p)=true:=by
 induction p with
 | cell t l h=>rfl
 | cut t l h w a p q ih1 ih2 =>
  show (true&&(true&&(true&&(true&&(noMut (pD p)&&(noMut (pD q)&&true))))))=true
  rw[ih1,ih2];rfl
theorem tup_noMut(l:List Int):noMut (tupD l)=true:=noMutAll_ints l
section
variable {P:Program}{w:World}{K:j0}{mg:Str->Option Value}{base:Heap}
structure CalsGo(P:Program)(w:World)(K:j0)(mg:Str->Option Value)(base:Heap):Prop where
 law_draw:Cal P w K mg base 1 "_law_draw" ["_law_pen_here","_law_many"] (conSp K cDraw)
 law_paper:Cal P w K mg base 34 "_law_paper" ["_law_pen_here","_law_sides_here","_law_numbers","_law_box_here","_law_much"] (conSp K (cPap 31))
 law_places:Cal P w K mg base 1 "_law_places" ["_law_sides_here"] (conSp K cPlaces)
 law_in:Cal P w K mg base 1 "_law_in" ["_law_box_here","_law_place"] (conSp K cIn)
 law_number:Cal P w K mg base 2 "_law_number" ["_law_pen_here"] (conSp K cNumber)
 renewed:Cal P w K mg base 5 "renewed" ["box","paper","place","number"] (conSp K cRe)
 law_due:Cal P w K mg base 32 "_law_due" ["_law_box_here","_law_paper_here","_law_place","_law_number_here"] (conSp K (cDue 31))
 field_of:Cal P w K mg base 4 "field_of" ["sides","cells"] (conSp K cFO)
 holds_paper:Cal P w K mg base 7 "holds_paper" ["field","box","thing"] (conSp K cHP)
 law_shows:Cal P w K mg base 3 "_law_shows" ["_law_sides_here","_law_numbers","_law_box_here","_law_paper_here"] (conSp K cSh)
theorem scGo:FnScope ["_law_pen_here","_law_sides_here","_law_numbers","_law_box_here","_law_paper_here","_law_places_here","_law_place","_law_turn","_law_number_here","_law_at","_law_later","_law_shown","_law_found","_law_made"] ["_law_pen_here","_law_sides_here","_law_numbers","_law_box_here"] (defScope (top 58)):=⟨rfl,rfl,rfl,by decide +kernel,rfl,by decide +kernel,by decide +kernel⟩
theorem ok_go{f:Addr}{fd:FuncData}(F:Fun K "_law_goes_on" "_law_goes_on" (top 58) f fd)(T:Txt mg)(C:CalsGo P w K mg base):FnOk P w K mg base CX0 40 f fd ["_law_pen_here","_law_sides_here","_law_numbers","_law_box_here"] (conSp K cGo):=by
 have S:=scGo
 refine wfn F S (λcdv A outer s H E hr=>(s_cons (s_set (i:=4) S.nd rfl (Or.inl rfl) (w_fnI C.law_paper (hr.mono (by first|decide|omega)) (wa_cons (wn 0) (wa_cons (wn 1) (wa_cons (wn 2) (wa_cons (wn 3) (wa_cons (wx (w_cmp ok_eq (op_eqE (K:=K) rfl hr.units) (wx (w_fnI C.law_draw (hr.mono (by first|decide|omega)) (wa_cons (wn 0) (wa_cons (wx w_int) wa_nil)))) (wx w_int))) wa_nil)))))))
     (s_cons (s_setC (i:=5) S.nd rfl rfl rfl (own:=["_law_place"]) (fr:=[3]) (by kernel_rfl) (i_seq rfl (w_fn C.law_places (hr.mono (by first|decide|omega)) (wa_cons (wn 1) wa_nil))) (λ_ _ _ _=>(g_name (i:=0) (by decide +kernel:K3 (["_law_place","_law_box_here"]:List Str)) rfl (Or.inl rfl))) (λ_ _ _ _=>if1 (t_val (w_fn C.law_in (hr.mono (by first|decide|omega)) (wa_cons (wn 1) (wa_cons (wn 0) wa_nil))))) (λ_ _ _ _=>(wv 0)))
     (s_cons (s_set (i:=6) S.nd rfl (Or.inl rfl) (w_ix rfl (wn 5) (wx w_int)))
     (s_cons (s_for [7,8,9,10,11,12,13] PassesOwn.never rfl (i_rng1 T.range_ (wa_cons (wx (w_bin ok_add op_addD (wx w_int) (wx (w_fnI C.law_draw (hr.mono (by first|decide|omega)) (wa_cons (wn 0) (wa_cons (wx w_int) wa_nil)))))) wa_nil)) (g_name (i:=7) S.nd rfl (Or.inl rfl)) (s_cons (s_set (i:=6) S.nd rfl (Or.inl rfl) (w_ix rfl (wx (w_lst (wa_cons (wx (wv 6)) (wa_cons (wx (w_ix rfl (wn 5) (wx (w_fnI C.law_draw (hr.mono (by first|decide|omega)) (wa_cons (wn 0) (wa_cons (wx (w_callB ok_len (call_lenK (K:=K) rfl) T.len_ PySem.boot_len (wa_cons (wn 5) wa_nil))) wa_nil)))))) wa_nil)))) (wx (w_fnI C.law_draw (hr.mono (by first|decide|omega)) (wa_cons (wn 0) (wa_cons (wx w_int) wa_nil))))))
     (s_cons (s_set (i:=8) S.nd rfl (Or.inl rfl) (w_fnI C.law_number (hr.mono (by first|decide|omega)) (wa_cons (wn 0) wa_nil)))
     (s_cons (s_set (i:=9) S.nd rfl (Or.inl rfl) (w_indexV (hu2_of hr) (wx (w_fn C.law_places (hr.mono (by first|decide|omega)) (wa_cons (wn 1) wa_nil))) (wn 6)))
     (s_cons (s_set (i:=10) S.nd rfl (Or.inl rfl) (w_bin ok_add op_addD (wx (w_bin ok_add op_addD (wx (w_slHiL rfl (wn 2) (wn 9))) (wx (w_lst (wa_cons (wx (wv 8)) wa_nil))))) (wx (w_slLoL rfl (wn 2) (wx (w_bin ok_add op_addD (wn 9) (wx w_int)))))))
     (s_cons (s_set (i:=11) S.nd rfl (Or.inl rfl) (w_callB ok_repr (call_reprK (K:=K) rfl hr) T.repr_ boot_repr (wa_cons (wn 4) wa_nil)))
     (b_nest5 (m:=13) C.renewed (hr.mono (by first|decide|omega)) rfl (wn 3) (wn 4) (wn 6) (wn 8) S.nd rfl (Or.inl rfl) (wn 12) (t_w (t_or (t_cmp ok_ne (op_neE (K:=K) rfl hr.units) (wx (w_callB ok_repr (call_reprK (K:=K) rfl hr) T.repr_ boot_repr (wa_cons (wn 12) wa_nil))) (wx (w_callB ok_repr (call_reprK (K:=K) rfl hr) T.repr_ boot_repr (wa_cons (wx (w_fn C.law_due (hr.mono (by first|decide|omega)) (wa_cons (wn 3) (wa_cons (wn 4) (wa_cons (wn 6) (wa_cons (wn 8) wa_nil)))))) wa_nil)))) (t_or1 (t_cmp ok_ne (op_neE (K:=K) rfl hr.units) (wx (w_callB ok_repr (call_reprK (K:=K) rfl hr) T.repr_ boot_repr (wa_cons (wn 4) wa_nil))) (wn 11))))) rfl (Or.inl rfl) (w_fn C.field_of (hr.mono (by first|decide|omega)) (wa_cons (wn 1) (wa_cons (wn 10) wa_nil))) (t_w (t_or (t_cmp ok_isnB op_isnotB (wx (w_fn C.holds_paper (hr.mono (by first|decide|omega)) (wa_cons (wn 13) (wa_cons (wn 3) (wa_cons (wx (w_ix rfl (wn 12) (wx w_int))) wa_nil))))) (wx w_bl)) (t_or1 (t_not (t_val (w_fn C.law_shows (hr.mono (by first|decide|omega)) (wa_cons (wn 1) (wa_cons (wn 10) (wa_cons (wn 3) (wa_cons (wx (w_ix rfl (wn 12) (wx w_int))) wa_nil)))))))))) (t_cmp ok_ne (op_neE (K:=K) rfl hr.units) (wx (w_fn C.holds_paper (hr.mono (by first|decide|omega)) (wa_cons (wn 13) (wa_cons (wn 3) (wa_cons (wn 4) wa_nil))))) (wx (w_cmp ok_eq (op_eqE (K:=K) rfl hr.units) (wn 8) (wx (w_ix rfl (wn 2) (wn 9))))))
     (s_cons (s_move (i:=2) S.nd rfl (Or.inl rfl) (wn 10))
     (s_one (s_set (i:=4) S.nd rfl (Or.inl rfl) (w_ix rfl (wn 12) (wx w_int))))))))))))
     (s_one (s_ret w_bl))))))) ?_ ?_
 ·rintro args Qd ⟨a,b,c,sd,cl,bx,rfl,_⟩;rfl
 ·rintro args Qd ⟨a,b,c,sd,cl,bx,rfl,ha,hb,hc,hsd,h18,hcl,hB,hbx,q⟩
  refine ⟨noOw_of rfl,?_⟩
  have hex:=ex_le hbx
  have hbl:=bx_len hbx
  have h3:=hsd.l3
  have hm:=hsd.m
  have hpc:=plc_len hsd.p
  have hbn:=btw_ne hbx
  have hbp:0 < (btw bx.1 bx.2).length:=o4.mpr hbn
  have hbt:(btw bx.1 bx.2).length<=120:=by rw[<- plc_in hbx];exact O1 (L7 _ _) (by omega)
  with_reducible refine cutS (λρ=>∃(p:Pp) (a b c:Int),ρ=[some (.io (penD a b c)),some (.fz (tupD sd)),some (.fz (liD cl)),some (.fz (boxD bx)),some (.fz (pD p)),none,none,none,none,none,none,none,none,none]/\okP sd cl bx p=true/\p.sb/\p.sz<=35/\0<=a/\0<=b/\0<=c) ?_ ?_
  ·intro N hN
   refine ⟨a,b,c,_,rfl,ha,hb,hc,by decide,by decide,λr a1 b1 c1 _ _ _ ha1 hb1 hc1=>?_⟩
   refine ⟨a1,b1,c1,sd,cl,bx,decide (r=1),rfl,ha1,hb1,hc1,hsd,hcl,hB,hbx,(show ex bx.1 bx.2<=30 by omega),λp a2 b2 c2 _ mp ha2 hb2 hc2=>?_⟩
   have h1:=mp.lv hbx hsd
   have h2:=p.szl
   exact hN _ ⟨p,a2,b2,c2,rfl,mp.ok,p.sm_sb mp.sm,by omega,ha2,hb2,hc2⟩
  clear ha hb hc
  rintro _ ⟨p,a,b,c,rfl,hok,hsb,hz,ha,hb,hc⟩
  with_reducible refine cutS (λρ=>ρ=[some (.io (penD a b c)),some (.fz (tupD sd)),some (.fz (liD cl)),some (.fz (boxD bx)),some (.fz (pD p)),some (.ow (.list ((btw bx.1 bx.2).map tupD))),none,none,none,none,none,none,none,none]) ?_ ?_
  ·intro N hN
   refine ⟨sd,rfl,hsd,λo=>⟨by rw[A0];exact le_size (by omega),filC (λd=>inB bx.1 (tI d) bx.2) (λd=>d) ?_ ?_⟩⟩
   ·intro d hd M1 M2 hM1 hM2
    obtain⟨q,hq,rfl⟩:=U0.mp hd
    have hql:=wi_len (plc_wi hq)
    have e:tI (tupD q)=q:=unI_int q
    simp only[e]at hM1 hM2
    refine ⟨bx.1,bx.2,q,rfl,by omega,by omega,by omega,λo=>?_⟩
    exact ite2 (λh=>hM1 h) (λh=>hM2 (E1.mpr h))
   ·have e:(((plc sd).map tupD).filter λd=>inB bx.1 (tI d) bx.2).map (λd=>d)=(btw bx.1 bx.2).map tupD:=by
     rw[List.map_id',x6,<- plc_in hbx]
     congr 1
     refine Z6 λq _=>?_
     show inB bx.1 (tI (tupD q)) bx.2=inB bx.1 q bx.2
     rw[show tI (tupD q)=q from unI_int q]
    rw[e]
    exact hN _ rfl
  rintro _ rfl
  have bmem:∀{q:List Int},q∈btw bx.1 bx.2->inB bx.1 q bx.2=true/\q.length=sd.length/\∃j:Nat,(plc sd)[j]?=some q:=λ{q} hq=>by
   rw[<- plc_in hbx]at hq
   obtain⟨h1,h2⟩:=j5.mp hq
   obtain⟨j,hj⟩:=J4.mp h1
   exact ⟨h2,wi_len (plc_wi h1),j,hj⟩
  with_reducible refine cutS (λρ=>∃(pl:List Int) (x5:Option Sl),ρ=[some (.io (penD a b c)),some (.fz (tupD sd)),some (.fz (liD cl)),some (.fz (boxD bx)),some (.fz (pD p)),x5,some (.fz (tupD pl)),none,none,none,none,none,none,none]/\(x5=some (.ow (.list ((btw bx.1 bx.2).map tupD)))\/x5=some (.fz (.list ((btw bx.1 bx.2).map tupD))))/\pl∈btw bx.1 bx.2) ?_ ?_
  ·intro N hN
   exact ⟨tupD (btw bx.1 bx.2)[0],atI_nat (j:=0) (by rw[W0,J0 hbp];rfl),hN _ ⟨_,_,rfl,by first|exact .inl rfl|exact .inr rfl,S2 hbp⟩⟩
  rintro _ ⟨pl,x5,rfl,hx5,hpl⟩
  with_reducible refine cutS (λρ=>∃(a b c:Int) (o:Ev),ρ=some (.io (penD a b c)) :: o/\0<=a/\0<=b/\0<=c) ?_ ?_
  rotate_left
  ·rintro _ ⟨a,b,c,o,rfl,ha,hb,hc⟩
   exact q a b c _ ha hb hc
  intro N hN
  refine ⟨a,b,c,_,rfl,ha,hb,hc,by decide,by decide,λr a1 b1 c1 _ r0 r1 ha1 hb1 hc1=>?_⟩
  refine ⟨by omega,by omega,?_⟩
  generalize rangeD 0 (Int.toNat (1+r))=rg
  refine loopC (λ_ ρ=>∃(cl pl:List Int) (p:Pp) (a b c:Int) (x2 x5:Option Sl),ρ=[some (.io (penD a b c)),some (.fz (tupD sd)),x2,some (.fz (boxD bx)),some (.fz (pD p)),x5,some (.fz (tupD pl)),none,none,none,none,none,none,none]/\(x2=some (.fz (liD cl))\/x2=some (.ow (liD cl)))/\(x5=some (.ow (.list ((btw bx.1 bx.2).map tupD)))\/x5=some (.fz (.list ((btw bx.1 bx.2).map tupD))))/\cl.length=(plc sd).length/\(∀x∈cl,Big x)/\okP sd cl bx p=true/\p.sb/\p.sz<=35/\pl∈btw bx.1 bx.2/\0<=a/\0<=b/\0<=c) ?_ ?_ ⟨cl,pl,p,a1,b1,c1,_,_,rfl,.inl rfl,hx5,hcl,hB,hok,hsb,hz,hpl,ha1,hb1,hc1⟩
  ·rintro d ds ρ ⟨cl,pl,p,a,b,c,x2,x5,rfl,hx2,hx5,hcl,hB,hok,hsb,hz,hpl,ha,hb,hc⟩ M hM
   with_reducible refine gnC rfl ?_
   with_reducible refine cutS (λρ=>∃(pl:List Int) (a b c:Int) (x5:Option Sl),ρ=[some (.io (penD a b c)),some (.fz (tupD sd)),x2,some (.fz (boxD bx)),some (.fz (pD p)),x5,some (.fz (tupD pl)),some (.fz d),none,none,none,none,none,none]/\(x5=some (.ow (.list ((btw bx.1 bx.2).map tupD)))\/x5=some (.fz (.list ((btw bx.1 bx.2).map tupD))))/\pl∈btw bx.1 bx.2/\0<=a/\0<=b/\0<=c) ?_ ?_
   ·intro N hN
    rcases hx5 with rfl|rfl
    all_goals
     refine ⟨a,b,c,((btw bx.1 bx.2).length:Int),by rw[<- A0 (f:=tupD) (as:=btw bx.1 bx.2)];rfl,ha,hb,hc,by omega,by omega,λu a1 b1 c1 _ u0 u1 ha1 hb1 hc1=>?_⟩
     obtain⟨j,rfl⟩:=T2 u0
     have hj:j < (btw bx.1 bx.2).length:=by omega
     refine ⟨tupD (btw bx.1 bx.2)[j],atI_nat (by rw[W0,J0 hj];rfl),a1,b1,c1,2,rfl,ha1,hb1,hc1,by decide,by decide,λv a2 b2 c2 _ v0 v1 ha2 hb2 hc2=>?_⟩
     rcases (show v=0\/v=1 by omega) with rfl|rfl
     ·exact ⟨tupD pl,rfl,hN _ ⟨pl,a2,b2,c2,_,rfl,by first|exact .inl rfl|exact .inr rfl,hpl,ha2,hb2,hc2⟩⟩
     ·exact ⟨tupD (btw bx.1 bx.2)[j],rfl,hN _ ⟨_,a2,b2,c2,_,rfl,by first|exact .inl rfl|exact .inr rfl,S2 hj,ha2,hb2,hc2⟩⟩
   clear ha hb hc hpl hx5
   rintro _ ⟨pl,a,b,c,x5,rfl,hx5,hpl,ha,hb,hc⟩
   obtain⟨hin,hpll,j,hj⟩:=bmem hpl
   have hjl:j < cl.length:=by have:=(X0.mp hj).1;omega
   with_reducible refine cutS (λρ=>∃(n a b c:Int),ρ=[some (.io (penD a b c)),some (.fz (tupD sd)),x2,some (.fz (boxD bx)),some (.fz (pD p)),x5,some (.fz (tupD pl)),some (.fz d),some (.fz (.int n)),none,none,none,none,none]/\Big n/\0<=a/\0<=b/\0<=c) ?_ ?_
   ·intro N hN
    exact ⟨a,b,c,rfl,ha,hb,hc,λn a1 b1 c1 _ hn ha1 hb1 hc1=>hN _ ⟨n,a1,b1,c1,rfl,hn,ha1,hb1,hc1⟩⟩
   clear ha hb hc
   rintro _ ⟨n,a,b,c,rfl,hn,ha,hb,hc⟩
   with_reducible refine cutS (λρ=>ρ=[some (.io (penD a b c)),some (.fz (tupD sd)),x2,some (.fz (boxD bx)),some (.fz (pD p)),x5,some (.fz (tupD pl)),some (.fz d),some (.fz (.int n)),some (.fz (.int (j:Int))),none,none,none,none]) ?_ ?_
   ·intro N hN
    refine ⟨sd,rfl,hsd,λo=>⟨plc sd,pl,j,rfl,rfl,hj,λm hm z=>?_,hN _ rfl⟩⟩
    have h1:=(plc_at hsd.p hj).2
    have h2:=(plc_at hsd.p z).2
    omega
   rintro _ rfl
   with_reducible refine cutS (λρ=>ρ=[some (.io (penD a b c)),some (.fz (tupD sd)),x2,some (.fz (boxD bx)),some (.fz (pD p)),x5,some (.fz (tupD pl)),some (.fz d),some (.fz (.int n)),some (.fz (.int (j:Int))),some (.ow (liD (cl.set j n))),none,none,none]) ?_ ?_
   ·intro N hN
    have et:(if (j:Int) < 0 then ((j:Int)+(cl.map q0).length).toNat else (j:Int).toNat)=j:=by rw[if_neg (by omega)];omega
    have et2:(if (j:Int)+1 < 0 then ((j:Int)+1+(cl.map q0).length).toNat else ((j:Int)+1).toNat)=j+1:=by rw[if_neg (by omega)];omega
    have efin:(cl.map q0).take (if (j:Int) < 0 then ((j:Int)+(cl.map q0).length).toNat else (j:Int).toNat)++[q0 n]++(cl.map q0).drop (if (j:Int)+1 < 0 then ((j:Int)+1+(cl.map q0).length).toNat else ((j:Int)+1).toNat)=(cl.set j n).map q0:=by
     rw[et,et2,<- set_cut cl hjl _]
     simp[Y7,Z7]
    rw[liD,<- efin]at hN
    rcases hx2 with rfl|rfl
    all_goals exact ⟨le_size (by simp;omega),le_size (by simp;omega),hN _ rfl⟩
   rintro _ rfl
   have hszl:=p.szl
   have hsm:=sm_of hB p hbx hok (by omega) hsb
   obtain⟨s1,s2⟩:=p.shows hsm
   have hnp:=p.nice
   have hrp:(pD p).depth+1<=64:=by have:=hnp.d;omega
   have hsz:(pD p).shown.length<=sizeLine:=O1 (show (pD p).shown.length<=12000 by omega) (by decide)
   with_reducible refine cutS (λρ=>ρ=[some (.io (penD a b c)),some (.fz (tupD sd)),x2,some (.fz (boxD bx)),some (.fz (pD p)),x5,some (.fz (tupD pl)),some (.fz d),some (.fz (.int n)),some (.fz (.int (j:Int))),some (.ow (liD (cl.set j n))),some (.fz (.str (pD p).shown)),none,none]) ?_ ?_
   ·intro N hN
    exact ⟨hnp.p,s1,hrp,hsz,hN _ rfl⟩
   rintro _ rfl
   have hcl':(cl.set j n).length=(plc sd).length:=by rw[N3];exact hcl
   have hB':∀x∈cl.set j n,Big x:=λx hx=>by
    rcases List.mem_or_eq_of_mem_set hx with z|z
    ·exact hB x z
    ·rw[z];exact hn
   have hok':=okP_new (n:=n) hsd.p hj hcl hpll p hbx hin hok
   have hsz':(rnw pl n p).sz=p.sz:=rnw_sz p
   have hlv':=(rnw pl n p).szl
   have hsb':=rnw_sb (pl:=pl) (n:=n) (J5 (big_abs hn) (by decide)) p hsb
   have hsm':=sm_of hB' (rnw pl n p) hbx hok' (by omega) hsb'
   have hnat:noMutAll [boxD bx,pD p,tupD pl,.int n]=true:=by
    show (noMut (boxD bx)&&(noMut (pD p)&&(noMut (tupD pl)&&(true&&true))))=true
    rw[pD_noMut,tup_noMut]
    show ((noMut (tupD bx.1)&&(noMut (tupD bx.2)&&true))&&_)=true
    rw[tup_noMut,tup_noMut];rfl
   with_reducible refine cutS (λρ=>ρ=[some (.io (penD a b c)),some (.fz (tupD sd)),x2,some (.fz (boxD bx)),some (.fz (pD p)),x5,some (.fz (tupD pl)),some (.fz d),some (.fz (.int n)),some (.fz (.int (j:Int))),some (.ow (liD (cl.set j n))),some (.fz (.str (pD p).shown)),some (.fz (.tuple [pD (rnw pl n p),.list []])),none]) ?_ ?_
   ·intro N hN
    rcases hx2 with rfl|rfl<;>rcases hx5 with rfl|rfl
    all_goals
     refine ⟨boxD bx,pD p,tupD pl,.int n,rfl,rfl,rfl,rfl,hnat,trivial,trivial,by decide,sd,cl,pl,bx,p,n,rfl,hsd,hbx,hok,hpll,by omega,λbs o hp hs=>⟨pD (rnw pl n p),bs.map boxD,rfl,pD_noMut _,?_⟩⟩
     have hbs:∀z∈bs,Bx z.1 z.2 sd:=λz hz'=>rbx_bx p hbx hok z (hp.mem_iff.mp hz')
     have hbs2:bs.length<=35:=by rw[hp.length_eq];exact O1 (rbx_len pl p bx) hz
     obtain⟨r1,r2,r3,r4⟩:=pair_shows hsd hsm' (by omega) hbs2 hbs
     refine ⟨r1,r2,r3,r4,?_⟩
     refine ⟨sd,cl,pl,bx,p,n,rfl,hsd,hbx,hok,hpll,hin,by omega,(show ex bx.1 bx.2<=30 by omega),λbs' o hp' hs'=>?_⟩
     have eu:=bs_uniq hp' hp hs' hs
     subst eu
     refine ⟨r1,r2,r3,r4,?_⟩
     refine ite2 (λh=>?_) (λ_=>?_)
     ·exfalso
      have h:(!decide ((prB (rnw pl n p) bs').shown=(prB (rnw pl n p) bs').shown))=true:=h
      simp at h
     refine ⟨hnp.p,s1,hrp,hsz,ite2 (λh=>?_) (λ_=>?_)⟩
     ·exfalso
      have h:(!decide ((pD p).shown=(pD p).shown))=true:=h
      simp at h
     refine ⟨sd,cl.set j n,rfl,hsd,hcl',λo=>⟨_,rfl,trivial,?_⟩⟩
     refine ⟨_,rfl,sd,cl.set j n,bx,rnw pl n p,rfl,hsd,hcl',hbx,by omega,λo=>?_⟩
     rw[hok']
     refine ⟨_,rfl,sd,cl.set j n,bx,rnw pl n p,rfl,hsd,hcl',hbx,hok',λo=>?_⟩
     refine ⟨sd,cl.set j n,bx,p,rfl,hsd,hcl',hbx,by omega,λo=>?_⟩
     rw[okP_same hsd.p hj hcl hbx hin hok]
     refine ⟨_,at_ints hjl,?_⟩
     refine ⟨rfl,rfl,rfl,rfl,rfl,ite2 (λh=>?_) (λ_=>?_)⟩
     ·exfalso
      have h:(!same (.bool (decide (n=cl.getD j 0))) (.bool (decide (n=cl.getD j 0))))=true:=h
      revert h
      cases decide (n=cl.getD j 0)<;>intro h<;>cases h
     exact hN _ rfl
   rintro _ rfl
   with_reducible refine cutS (λρ=>ρ=[some (.io (penD a b c)),some (.fz (tupD sd)),some (.ow (liD (cl.set j n))),some (.fz (boxD bx)),some (.fz (pD p)),x5,some (.fz (tupD pl)),some (.fz d),some (.fz (.int n)),some (.fz (.int (j:Int))),none,some (.fz (.str (pD p).shown)),some (.fz (.tuple [pD (rnw pl n p),.list []])),none]) ?_ ?_
   ·intro N hN
    rcases hx2 with rfl|rfl
    all_goals exact hN _ rfl
   rintro _ rfl
   have inv:M [some (.io (penD a b c)),some (.fz (tupD sd)),some (.ow (liD (cl.set j n))),some (.fz (boxD bx)),some (.fz (pD (rnw pl n p))),x5,some (.fz (tupD pl)),none,none,none,none,none,none,none]:=hM _ ⟨cl.set j n,pl,rnw pl n p,a,b,c,some (.ow (liD (cl.set j n))),x5,rfl,.inr rfl,hx5,hcl',hB',hok',hsb',by omega,hpl,ha,hb,hc⟩
   exact ⟨pD (rnw pl n p),rfl,inv⟩
  ·rintro ρ ⟨cl,pl,p,a,b,c,x2,x5,rfl,_,_,_,_,_,_,_,_,ha,hb,hc⟩
   exact hN _ ⟨a,b,c,_,rfl,ha,hb,hc⟩
end
section
variable {P:Program}{w:World}{K:j0}{mg:Str->Option Value}{base:Heap}
structure CalsL(P:Program)(w:World)(K:j0)(mg:Str->Option Value)(base:Heap):Prop where
 law_pen:Cal P w K mg base 1 "_law_pen" ["_law_script","_law_k"] (conSp K cPen)
 law_sides:Cal P w K mg base 2 "_law_sides" ["_law_pen_here","_law_most"] (conSp K cSides)
 law_places:Cal P w K mg base 1 "_law_places" ["_law_sides_here"] (conSp K cPlaces)
 law_number:Cal P w K mg base 2 "_law_number" ["_law_pen_here"] (conSp K cNumber)
 law_looked_at:Cal P w K mg base 40 "_law_looked_at" ["_law_pen_here","_law_sides_here","_law_numbers","_law_box_here"] (conSp K cLo)
 law_goes_on:Cal P w K mg base 40 "_law_goes_on" ["_law_pen_here","_law_sides_here","_law_numbers","_law_box_here"] (conSp K cGo)
 law_box:Cal P w K mg base 2 "_law_box" ["_law_pen_here","_law_sides_here"] (conSp K cBox)
noncomputable def cLaw:Con:=λargs Q=>∃ns:List Int,args=[.fz (scrD ns)]/\ns.length<=63/\∀o,Q (.fz (.bool true)) o
theorem cLaw_sp{K:j0}{H:Hp}{a:Addr}{ns:List Int}(hl:ns.length<=63)(h:SqL K H a (ns.map V.int)):conSp K cLaw [.ref a] H (λv _=>v=.bl true) λ_ _ _=>False:=by
 refine ⟨⟨H,H,λ_=>none⟩,H,[.fz (scrD ns)],λr _=>r=.fz (.bool true),?_,⟨ns,rfl,hl,λ_=>rfl⟩,?_⟩
 ·refine ⟨rfl,Sub.refl _,Sub.refl _,λa o h=>.inl h,λa o h _=>h,?_,?_,?_,?_,?_,?_⟩
  ·intro i d e
   cases i with
   | zero=>cases e;exact ⟨_,rfl,.scr h⟩
   | succ i=>cases e
  ·intro i s e w
   cases i with
   | zero=>cases e;cases w
   | succ i=>cases e
  ·intro i d a e
   cases i with
   | zero=>cases e
   | succ i=>cases e
  ·intro i a e;cases e
  ·intro i d e
   cases i with
   | zero=>cases e
   | succ i=>cases e
  ·intro i j s t a e w
   cases i with
   | zero=>cases e;cases w
   | succ i=>cases e
 ·intro v H' F' r ρ' _ _ hr e
  subst e
  have hr:Da K F' v (.bool true):=hr
  cases hr
  rfl
theorem scLaw:FnScope ["_law_script","_law_k","_law_pen_here","_law_sides_here","_law_numbers","_law_turn"] ["_law_script"] (defScope (top 59)):=⟨rfl,rfl,rfl,by decide +kernel,rfl,by decide +kernel,by decide +kernel⟩
theorem ok_law{f:Addr}{fd:FuncData}(F:Fun K "law" "law" (top 59) f fd)(T:Txt mg)(C:CalsL P w K mg base):FnOk P w K mg base CX0 41 f fd ["_law_script"] (conSp K cLaw):=by
 have S:=scLaw
 refine wfn F S (λcdv A outer s H E hr=>(s_cons (s_for [1,2,3,4,5] PassesOwn.never rfl (i_rng1 T.range_ (wa_cons (wx (w_callB ok_2I (call_max2 rfl) T.max_ boot_max (wa_cons (wx w_int) (wa_cons (wx (w_callB ok_2I (call_min2 rfl) T.min_ boot_min (wa_cons (wx w_int) (wa_cons (wx (w_callB ok_len (call_lenK (K:=K) rfl) T.len_ PySem.boot_len (wa_cons (wn 0) wa_nil))) wa_nil)))) wa_nil)))) wa_nil)) (g_name (i:=1) S.nd rfl (Or.inl rfl)) (s_cons (s_set (i:=2) S.nd rfl (Or.inr rfl) (w_fn C.law_pen (hr.mono (by first|decide|omega)) (wa_cons (wn 0) (wa_cons (wn 1) wa_nil))))
     (s_cons (s_set (i:=3) S.nd rfl (Or.inl rfl) (w_fnI C.law_sides (hr.mono (by first|decide|omega)) (wa_cons (wn 2) (wa_cons (wx w_int) wa_nil))))
     (s_cons (s_setC (i:=4) S.nd rfl rfl rfl (own:=["_law_place"]) (fr:=[2]) (by kernel_rfl) (i_seq rfl (w_fn C.law_places (hr.mono (by first|decide|omega)) (wa_cons (wn 3) wa_nil))) (λ_ _ _ _=>(g_name (i:=0) (by decide +kernel:K3 (["_law_place","_law_pen_here"]:List Str)) rfl (Or.inl rfl))) (λ_ _ _ _=>if0) (λ_ _ _ _=>(w_fnI C.law_number (hr.mono (by first|decide|omega)) (wa_cons (wn 1) wa_nil))))
     (s_cons (s_for [5] PassesOwn.never rfl (i_rng1 T.range_ (wa_cons (wx w_int) wa_nil)) (g_name (i:=5) S.nd rfl (Or.inl rfl)) (s_one (s_if (t_not (t_val (w_fnI C.law_looked_at (hr.mono (by first|decide|omega)) (wa_cons (wn 2) (wa_cons (wx (wv 3)) (wa_cons (wx (wv 4)) (wa_cons (wx (w_fnI C.law_box (hr.mono (by first|decide|omega)) (wa_cons (wn 2) (wa_cons (wn 3) wa_nil)))) wa_nil))))))) (s_one (s_ret w_bl)) s_nil)))
     (s_one (s_if (t_not (t_val (w_fnI C.law_goes_on (hr.mono (by first|decide|omega)) (wa_cons (wn 2) (wa_cons (wx (wv 3)) (wa_cons (wx (wv 4)) (wa_cons (wx (w_fnI C.law_box (hr.mono (by first|decide|omega)) (wa_cons (wn 2) (wa_cons (wn 3) wa_nil)))) wa_nil))))))) (s_one (s_ret w_bl)) s_nil)))))))
     (s_one (s_ret w_bl)))) ?_ ?_
 ·rintro args Qd ⟨ns,rfl,_⟩;rfl
 ·rintro args Qd ⟨ns,rfl,hns,q⟩
  refine ⟨noOw_of rfl,?_⟩
  have hmx:∀k:Int,0<=k->2<=(if (if k < 4 then k else 4) > 2 then (if k < 4 then k else 4) else 2)/\(if (if k < 4 then k else 4) > 2 then (if k < 4 then k else 4) else 2)<=4:=λk hk=>by split<;>split at *<;>omega
  have hm:=hmx ns.length (by omega)
  refine ⟨ns,rfl,?_⟩
  refine ⟨by omega,by omega,?_⟩
  generalize hrg:rangeD 0 (if (if ((ns.length:Nat):Int) < 4 then ((ns.length:Nat):Int) else 4) > 2 then (if ((ns.length:Nat):Int) < 4 then ((ns.length:Nat):Int) else 4) else 2).toNat=rg
  have hrg2:∀d∈rg,∃k:Int,d=.int k/\0<=k/\k<=1000:=λd hd=>by
   rw[<- hrg,rangeD]at hd
   obtain⟨k,hk,rfl⟩:=U0.mp hd
   have:=Y2.mp hk
   exact ⟨_,rfl,by omega,by omega⟩
  refine loopC (λrest ρ=>ρ=[some (.fz (scrD ns)),none,none,none,none,none]/\∀d∈rest,∃k:Int,d=.int k/\0<=k/\k<=1000) ?_ ?_ ⟨rfl,hrg2⟩
  ·rintro d ds ρ ⟨rfl,hr⟩ M hM
   obtain⟨k,rfl,hk0,hk1⟩:=hr d M0
   have hr':∀d∈ds,∃k:Int,d=.int k/\0<=k/\k<=1000:=λd hd=>hr d (G0 _ hd)
   with_reducible refine gnC rfl ?_
   with_reducible refine cutS (λρ=>∃a' b' c':Int,ρ=[some (.fz (scrD ns)),some (.fz (.int k)),some (.ow (penD a' b' c')),none,none,none]/\0<=a'/\0<=b'/\0<=c') ?_ ?_
   ·intro N hN
    exact ⟨ns,k,rfl,hk0,hk1,λa b _ ha hb=>hN _ ⟨a,b,0,rfl,ha,hb,by decide⟩⟩
   rintro _ ⟨a1,b1,c1,rfl,ha1,hb1,hc1⟩
   with_reducible refine cutS (λρ=>∃(sd:List Int) (a' b' c':Int),ρ=[some (.fz (scrD ns)),some (.fz (.int k)),some (.ow (penD a' b' c')),some (.fz (tupD sd)),none,none]/\Sd sd/\prodI sd<=18/\0<=a'/\0<=b'/\0<=c') ?_ ?_
   ·intro N hN
    exact ⟨a1,b1,c1,18,rfl,ha1,hb1,hc1,by decide,by decide,λsd a b c _ h1 h2 ha hb hc=>hN _ ⟨sd,a,b,c,rfl,h1,h2,ha,hb,hc⟩⟩
   rintro _ ⟨sd,a2,b2,c2,rfl,hsd,h18,ha2,hb2,hc2⟩
   have hpl:=plc_len hsd.p
   with_reducible refine cutS (λρ=>∃(cl:List Int) (a' b' c':Int),ρ=[some (.fz (scrD ns)),some (.fz (.int k)),some (.ow (penD a' b' c')),some (.fz (tupD sd)),some (.ow (liD cl)),none]/\cl.length=(plc sd).length/\(∀x∈cl,Big x)/\0<=a'/\0<=b'/\0<=c') ?_ ?_
   ·intro N hN
    refine ⟨sd,rfl,hsd,λo=>?_⟩
    refine ⟨by rw[A0];exact le_size (by omega),compN (λrest acc τ=>∃(cs:List Int) (a4 b4 c4:Int),τ=[none,some (.io (penD a4 b4 c4))]/\acc=cs.map q0/\cs.length+rest.length=(plc sd).length/\(∀x∈cs,Big x)/\0<=a4/\0<=b4/\0<=c4) ?_ ?_
        ⟨[],a2,b2,c2,rfl,rfl,by simp,λc hc=>by simp at hc,ha2,hb2,hc2⟩⟩
    ·rintro d ds acc τ ⟨cs,a4,b4,c4,rfl,rfl,hlen,hB,ha4,hb4,hc4⟩ M hM
     refine ⟨a4,b4,c4,rfl,ha4,hb4,hc4,λx a5 b5 c5 _ hx ha5 hb5 hc5=>?_⟩
     exact hM _ _ ⟨cs++[x],a5,b5,c5,rfl,by simp[Sl.d],by simp at hlen ⊢;omega,λc' hc=>by rcases Z2.mp hc with z|z;exact hB c' z;rw[A1.mp z];exact hx,ha5,hb5,hc5⟩
    ·rintro acc τ ⟨cs,a4,b4,c4,rfl,rfl,hlen,hB,ha4,hb4,hc4⟩
     simp at hlen
     exact hN _ ⟨cs,a4,b4,c4,rfl,hlen,hB,ha4,hb4,hc4⟩
   rintro _ ⟨cl,a3,b3,c3,rfl,hcl,hB,ha3,hb3,hc3⟩
   with_reducible refine cutS (λρ=>∃(a' b' c':Int) (x:Option Sl),ρ=[some (.fz (scrD ns)),some (.fz (.int k)),some (.ow (penD a' b' c')),some (.fz (tupD sd)),x,none]/\(x=some (.ow (liD cl))\/x=some (.fz (liD cl)))/\0<=a'/\0<=b'/\0<=c') ?_ ?_
   ·intro N hN
    refine ⟨by decide,by decide,?_⟩
    generalize rangeD 0 (Int.toNat 6)=r3
    refine loopC (λrest ρ=>∃(a' b' c':Int) (x:Option Sl),ρ=[some (.fz (scrD ns)),some (.fz (.int k)),some (.ow (penD a' b' c')),some (.fz (tupD sd)),x,none]/\(x=some (.ow (liD cl))\/x=some (.fz (liD cl)))/\0<=a'/\0<=b'/\0<=c') ?_ ?_ ⟨a3,b3,c3,_,rfl,.inl rfl,ha3,hb3,hc3⟩
    ·rintro d ds ρ ⟨a4,b4,c4,x,rfl,hx,ha4,hb4,hc4⟩ N2 hN2
     rcases hx with rfl|rfl
     all_goals
      refine ⟨a4,b4,c4,sd,rfl,ha4,hb4,hc4,hsd,λbx a5 b5 c5 _ hbx ha5 hb5 hc5=>?_⟩
      refine ⟨a5,b5,c5,sd,cl,bx,rfl,ha5,hb5,hc5,hsd,h18,hcl,hB,hbx,λa6 b6 c6 _ ha6 hb6 hc6=>?_⟩
      exact hN2 _ ⟨a6,b6,c6,_,rfl,.inr rfl,ha6,hb6,hc6⟩
    ·rintro ρ ⟨a4,b4,c4,x,rfl,hx,ha4,hb4,hc4⟩
     exact hN _ ⟨a4,b4,c4,x,rfl,hx,ha4,hb4,hc4⟩
   rintro _ ⟨a4,b4,c4,x,rfl,hx,ha4,hb4,hc4⟩
   rcases hx with rfl|rfl
   all_goals
    refine ⟨a4,b4,c4,sd,rfl,ha4,hb4,hc4,hsd,λbx a5 b5 c5 _ hbx ha5 hb5 hc5=>?_⟩
    refine ⟨a5,b5,c5,sd,cl,bx,rfl,ha5,hb5,hc5,hsd,h18,hcl,hB,hbx,λa6 b6 c6 _ ha6 hb6 hc6=>?_⟩
    exact hM _ ⟨rfl,hr'⟩
  ·rintro ρ ⟨rfl,_⟩
   exact q _
end
theorem len0{p:List Value->Prop}(h:p []):∀us:List Value,us.length=0->p us:=λus e=>by
 cases us with
 | nil=>exact h
 | cons x us=>cases e
theorem len1{p:List Value->Prop}(h:∀x0,p [x0]):∀us:List Value,us.length=1->p us:=λus e=>by
 cases us with
 | nil=>cases e
 | cons x us=>exact len0 (p:=λl=>p (x :: l)) (h x) us (J6 e)
theorem len2{p:List Value->Prop}(h:∀x0 x1,p [x0,x1]):∀us:List Value,us.length=2->p us:=λus e=>by
 cases us with
 | nil=>cases e
 | cons x us=>exact len1 (p:=λl=>p (x :: l)) (λx1=>h x x1) us (J6 e)
theorem len3{p:List Value->Prop}(h:∀x0 x1 x2,p [x0,x1,x2]):∀us:List Value,us.length=3->p us:=λus e=>by
 cases us with
 | nil=>cases e
 | cons x us=>exact len2 (p:=λl=>p (x :: l)) (λx1 x2=>h x x1 x2) us (J6 e)
theorem len4{p:List Value->Prop}(h:∀x0 x1 x2 x3,p [x0,x1,x2,x3]):∀us:List Value,us.length=4->p us:=λus e=>by
 cases us with
 | nil=>cases e
 | cons x us=>exact len3 (p:=λl=>p (x :: l)) (λx1 x2 x3=>h x x1 x2 x3) us (J6 e)
theorem len5{p:List Value->Prop}(h:∀x0 x1 x2 x3 x4,p [x0,x1,x2,x3,x4]):∀us:List Value,us.length=5->p us:=λus e=>by
 cases us with
 | nil=>cases e
 | cons x us=>exact len4 (p:=λl=>p (x :: l)) (λx1 x2 x3 x4=>h x x1 x2 x3 x4) us (J6 e)
structure Df(K:j0)(mg:Str->Option Value)(x:Str)(st:Stmt)(f:Addr)(d:FuncData):Prop where
 F:Fun K x x st f d
 m:mg x=some (.ref f)
 k:W3 K (.ref f)=true
section
variable {K:j0}{mg:Str->Option Value}
theorem df_mk{h:Heap}(X:K.In h)(G:h.Ns mainGlobals mg){x:Str}{st:Stmt}{f:Addr}{oc:Value}{od an:Option Addr}{osl:Array (Option Value)}{kV doc pm cdv ct:Value}(a:B2 K mainGlobals x=some (some (.ref f)))(l:K.lookup f=some ⟨oc,od,.func (Q4 x x (defArgs st) (defBody st) (defScope st) .none kV doc pm an cdv ct),osl⟩)(c:K6 K cdv x=true)(k:W3 K (.ref f)=true):Df K mg x st f (Q4 x x (defArgs st) (defBody st) (defScope st) .none kV doc pm an cdv ct) :=
 ⟨fun_mk l c k,g7 X G a,k⟩
theorem calD(P:Program)(w:World)(base:Heap){k:Nat}{x:Str}{ps:List Str}{sp:Sp}{st:Stmt}{f:Addr}{d:FuncData}(D:Df K mg x st f d)(h:FnOk P w K mg base CX0 k f d ps sp)(b:∀(kV doc pm:Value) (an:Option Addr) (cdv ct:Value) (us:List Value),us.length=ps.length->bindArgs (Q4 x x (defArgs st) (defBody st) (defScope st) .none kV doc pm an cdv ct) ⟨us,[]⟩=pure (ps.zip us)):Cal P w K mg base k x ps sp :=
 ⟨⟨f,d,h,D.m,D.k,D.F.binds b⟩⟩
end
theorem all_mk{l:F7}{w:World}{K:j0}{h:Heap}{mg:Str->Option Value}{fa f0 f1 f2 f3 f4 f5 f6 f7 f8 f9 f10 f11 f12 f13 f14 f15 f16 f17 f18 f19 f20 f21 f22 f23 f24 f25 f26 f27 f28 f29 f30 f31 f32 f33 f34 f35 f36 f37 f38 f39 f40 f41 f42 f43 f44 f45 f46 f47 f48 f49:Addr}{d0 d1 d2 d3 d4 d5 d6 d7 d8 d9 d10 d11 d12 d13 d14 d15 d16 d17 d18 d19 d20 d21 d22 d23 d24 d25 d26 d27 d28 d29 d30 d31 d32 d33 d34 d35 d36 d37 d38 d39 d40 d41 d42 d43 d44 d45 d46 d47 d48 d49:FuncData}(X:K.In h)(G:h.Ns mainGlobals mg)(hfa:mg "law"=some (.ref fa))
  {ga0:Addr}{gt0_0 gt0_1:Tok}{god0:Option Addr}{gn0:Nat}{gsl0:Array (Option Value)}
  {tk0 tk1:Tok}
  (D0:Df K mg "_law_pen" (top 36) f0 d0) (D1:Df K mg "_law_draw" (top 37) f1 d1) (D2:Df K mg "_law_sides" (top 39) f2 d2) (D3:Df K mg "_law_places" (top 40) f3 d3) (D4:Df K mg "_law_number" (top 38) f4 d4) (D5:Df K mg "_law_ways" (top 46) f5 d5) (D6:Df K mg "_law_cell" (top 44) f6 d6) (D7:Df K mg "_law_slack" (top 47) f7 d7) (D8:Df K mg "_law_cut" (top 45) f8 d8) (D9:Df K mg "_law_paper" (top 48) f9 d9) (D10:Df K mg "_law_roads" (top 52) f10 d10) (D11:Df K mg "_law_with" (top 53) f11 d11) (D12:Df K mg "_law_bent" (top 54) f12 d12) (D13:Df K mg "_law_are_whole" (top 49) f13 d13) (D14:Df K mg "_law_is_claim" (top 50) f14 d14) (D15:Df K mg "_law_holds" (top 51) f15 d15) (D16:Df K mg "is_whole" (top 4) f16 d16) (D17:Df K mg "are_sides" (top 12) f17 d17) (D18:Df K mg "are_wholes" (top 5) f18 d18) (D19:Df K mg "product" (top 6) f19 d19) (D20:Df K mg "is_field" (top 13) f20 d20) (D21:Df K mg "field_of" (top 14) f21 d21) (D22:Df K mg "has_form" (top 22) f22 d22) (D23:Df K mg "is_cut" (top 24) f23 d23) (D24:Df K mg "cuts_box" (top 29) f24 d24) (D25:Df K mg "parts_of" (top 30) f25 d25) (D26:Df K mg "is_cell" (top 23) f26 d26) (D27:Df K mg "is_claimed" (top 25) f27 d27) (D28:Df K mg "put_together" (top 17) f28 d28) (D29:Df K mg "lets_by" (top 26) f29 d29) (D30:Df K mg "holds_cut" (top 31) f30 d30) (D31:Df K mg "replaced" (top 8) f31 d31) (D32:Df K mg "with_stretch" (top 19) f32 d32) (D33:Df K mg "cut_boxes" (top 27) f33 d33) (D34:Df K mg "index_of" (top 7) f34 d34) (D35:Df K mg "cell_at" (top 15) f35 d35) (D36:Df K mg "thrice" (top 18) f36 d36) (D37:Df K mg "holds_cell" (top 28) f37 d37) (D38:Df K mg "holds_paper" (top 32) f38 d38) (D39:Df K mg "_law_in" (top 42) f39 d39) (D40:Df K mg "_law_part" (top 43) f40 d40) (D41:Df K mg "_law_shows" (top 55) f41 d41) (D42:Df K mg "_law_looked_at" (top 56) f42 d42) (D43:Df K mg "replaced" (top 8) f43 d43) (D44:Df K mg "cut_anew" (top 34) f44 d44) (D45:Df K mg "renewed" (top 33) f45 d45) (D46:Df K mg "_law_due" (top 57) f46 d46) (D47:Df K mg "_law_goes_on" (top 58) f47 d47) (D48:Df K mg "_law_box" (top 41) f48 d48) (D49:Df K mg "law" (top 59) f49 d49)
  (z0:B2 K mainGlobals "len"=some none) (z1:B2 K mainGlobals "max"=some none) (z2:B2 K mainGlobals "min"=some none) (z3:B2 K mainGlobals "all"=some none) (z4:B2 K mainGlobals "isinstance"=some none) (z5:B2 K mainGlobals "tuple"=some none) (z6:B2 K mainGlobals "list"=some none) (z7:B2 K mainGlobals "int"=some none) (z8:B2 K mainGlobals "bool"=some none) (z9:B2 K mainGlobals "str"=some none) (z10:B2 K mainGlobals "range"=some none) (z11:B2 K mainGlobals "zip"=some none) (z12:B2 K mainGlobals "repr"=some none) (z13:B2 K mainGlobals "sorted"=some none) (z14:B2 K mainGlobals "sum"=some none) (z15:B2 K mainGlobals "reversed"=some none) (y0:B2 K mainGlobals "MOST_WAYS"=some (some (.int 3 tk0))) (y1:B2 K mainGlobals "MOST_CELLS"=some (some (.int 120 tk1))) (g0:B2 K mainGlobals "PARTS"=some (some (.ref ga0))) (g1:K.lookup ga0=some ⟨.type "tuple",god0,.seq #[.int 4 gt0_0,.int 5 gt0_1] gn0,gsl0⟩) :
  ∃fd:FuncData,(∀(s:Shared) (v:Value),BindsTo s fd ⟨[v],[]⟩ [("_law_script",v)])/\∀base:Heap,K.In base->base.Ns mainGlobals mg->FnOk l.prog w K mg base CX0 41 fa fd ["_law_script"] (conSp K cLaw):=by
 cases hfa.symm.trans D49.m
 have T:Txt mg:=⟨N1 X G z0,N1 X G z1,N1 X G z2,N1 X G z3,N1 X G z4,N1 X G z5,N1 X G z6,N1 X G z7,N1 X G z8,N1 X G z9,N1 X G z10,N1 X G z11,N1 X G z12,N1 X G z13,N1 X G z14,N1 X G z15,⟨_,g7 X G y0⟩,⟨_,g7 X G y1⟩⟩
 have L:Cls K mg:=⟨⟨ga0,g7 X G g0,_,_,_,g1,rfl,rfl,by show 2<=sizeLine;decide,(.cons ⟨gt0_0,rfl⟩ (.cons ⟨gt0_1,rfl⟩ .nil))⟩⟩
 obtain⟨oc,od,kV,doc,pm,an,cdv,ct,osl,e,lk,hcd⟩:=D49.F.ex
 refine ⟨d49,λs v=>by subst e;exact .of_eq rfl,λb _ _=>?_⟩
 have C0:=calD l.prog w b D0 (ok_pen D0.F T) λ_ _ _ _ _ _=>len2 λ_ _=>rfl
 have C1:=calD l.prog w b D1 (ok_draw D1.F) λ_ _ _ _ _ _=>len2 λ_ _=>rfl
 have C2:=calD l.prog w b D2 (ok_sides D2.F T ⟨C1⟩) λ_ _ _ _ _ _=>len2 λ_ _=>rfl
 have C3:=calD l.prog w b D3 (ok_places D3.F T) λ_ _ _ _ _ _=>len1 λ_=>rfl
 have C4:=calD l.prog w b D4 (ok_number D4.F ⟨C1⟩) λ_ _ _ _ _ _=>len1 λ_=>rfl
 have C5:=calD l.prog w b D5 (ok_wa D5.F T) λ_ _ _ _ _ _=>len1 λ_=>rfl
 have C6:=calD l.prog w b D6 (ok_cell D6.F T) λ_ _ _ _ _ _=>len3 λ_ _ _=>rfl
 have C7:=calD l.prog w b D7 (ok_slack D7.F ⟨C1⟩) λ_ _ _ _ _ _=>len3 λ_ _ _=>rfl
 have C8:=calD l.prog w b D8 (ok_cut D8.F) λ_ _ _ _ _ _=>len3 λ_ _ _=>rfl
 have C9:=calD l.prog w b D9 (ok_pap D9.F T ⟨C5,C6,C7,C1,C8⟩ ⟨D9.m,D9.k,D9.F.binds λ_ _ _ _ _ _=>len5 λ_ _ _ _ _=>rfl⟩) λ_ _ _ _ _ _=>len5 λ_ _ _ _ _=>rfl
 have C10:=calD l.prog w b D10 (ok_ro D10.F) λ_ _ _ _ _ _=>len1 λ_=>rfl
 have C11:=calD l.prog w b D11 (ok_wi D11.F ⟨D11.m,D11.k,D11.F.binds λ_ _ _ _ _ _=>len3 λ_ _ _=>rfl⟩) λ_ _ _ _ _ _=>len3 λ_ _ _=>rfl
 have C12:=calD l.prog w b D12 (ok_be D12.F T ⟨C10,C1,C11⟩) λ_ _ _ _ _ _=>len2 λ_ _=>rfl
 have C13:=calD l.prog w b D13 (ok_aw D13.F T) λ_ _ _ _ _ _=>len1 λ_=>rfl
 have C14:=calD l.prog w b D14 (ok_icl D14.F T ⟨C13⟩) λ_ _ _ _ _ _=>len1 λ_=>rfl
 have C15:=calD l.prog w b D15 (ok_hol D15.F T ⟨C13,C14,C6,C5,C8⟩ ⟨D15.m,D15.k,D15.F.binds λ_ _ _ _ _ _=>len4 λ_ _ _ _=>rfl⟩) λ_ _ _ _ _ _=>len4 λ_ _ _ _=>rfl
 have C16:=calD l.prog w b D16 (ok_whole D16.F T) λ_ _ _ _ _ _=>len1 λ_=>rfl
 have C17:=calD l.prog w b D17 (ok_as D17.F T ⟨C16⟩) λ_ _ _ _ _ _=>len1 λ_=>rfl
 have C18:=calD l.prog w b D18 (ok_areW D18.F T ⟨C16⟩) λ_ _ _ _ _ _=>len2 λ_ _=>rfl
 have C19:=calD l.prog w b D19 (ok_prod D19.F) λ_ _ _ _ _ _=>len1 λ_=>rfl
 have C20:=calD l.prog w b D20 (ok_if D20.F T ⟨C17,C18,C19⟩) λ_ _ _ _ _ _=>len1 λ_=>rfl
 have C21:=calD l.prog w b D21 (ok_fo D21.F T ⟨C20⟩) λ_ _ _ _ _ _=>len2 λ_ _=>rfl
 have C22:=calD l.prog w b D22 (ok_hf D22.F T ⟨C18⟩) λ_ _ _ _ _ _=>len3 λ_ _ _=>rfl
 have C23:=calD l.prog w b D23 (ok_it D23.F ⟨C22⟩) λ_ _ _ _ _ _=>len1 λ_=>rfl
 have C24:=calD l.prog w b D24 (ok_cu D24.F T ⟨C16⟩) λ_ _ _ _ _ _=>len3 λ_ _ _=>rfl
 have C25:=calD l.prog w b D25 (ok_po D25.F L) λ_ _ _ _ _ _=>len1 λ_=>rfl
 have C26:=calD l.prog w b D26 (ok_ic D26.F ⟨C22⟩) λ_ _ _ _ _ _=>len1 λ_=>rfl
 have C27:=calD l.prog w b D27 (ok_im D27.F ⟨C26,C23⟩) λ_ _ _ _ _ _=>len1 λ_=>rfl
 have C28:=calD l.prog w b D28 (ok_pt D28.F T) λ_ _ _ _ _ _=>len1 λ_=>rfl
 have C29:=calD l.prog w b D29 (ok_lb D29.F) λ_ _ _ _ _ _=>len2 λ_ _=>rfl
 have C30:=calD l.prog w b D30 (ok_hu D30.F T ⟨C24,C25,C27,C28,C29⟩) λ_ _ _ _ _ _=>len2 λ_ _=>rfl
 have C31:=calD l.prog w b D31 (ok_rp D31.F) λ_ _ _ _ _ _=>len3 λ_ _ _=>rfl
 have C32:=calD l.prog w b D32 (ok_ws D32.F ⟨C31⟩) λ_ _ _ _ _ _=>len3 λ_ _ _=>rfl
 have C33:=calD l.prog w b D33 (ok_cb D33.F ⟨C32⟩) λ_ _ _ _ _ _=>len3 λ_ _ _=>rfl
 have C34:=calD l.prog w b D34 (ok_index D34.F T) λ_ _ _ _ _ _=>len2 λ_ _=>rfl
 have C35:=calD l.prog w b D35 (ok_ca D35.F ⟨C34⟩) λ_ _ _ _ _ _=>len2 λ_ _=>rfl
 have C36:=calD l.prog w b D36 (ok_th D36.F) λ_ _ _ _ _ _=>len1 λ_=>rfl
 have C37:=calD l.prog w b D37 (ok_hc D37.F ⟨C35,C36,C29⟩) λ_ _ _ _ _ _=>len3 λ_ _ _=>rfl
 have C38:=calD l.prog w b D38 (ok_hp D38.F T ⟨C23,C30,C33,C25,C26,C37⟩) λ_ _ _ _ _ _=>len3 λ_ _ _=>rfl
 have C39:=calD l.prog w b D39 (ok_in D39.F T) λ_ _ _ _ _ _=>len2 λ_ _=>rfl
 have C40:=calD l.prog w b D40 (ok_part D40.F T ⟨C3,C39⟩) λ_ _ _ _ _ _=>len3 λ_ _ _=>rfl
 have C41:=calD l.prog w b D41 (ok_sh D41.F T ⟨C40⟩) λ_ _ _ _ _ _=>len4 λ_ _ _ _=>rfl
 have C42:=calD l.prog w b D42 (ok_lo D42.F T ⟨C1,C9,C12,C15,C21,C38,C41⟩) λ_ _ _ _ _ _=>len4 λ_ _ _ _=>rfl
 have C43:=calD l.prog w b D43 (ok_rpG D43.F) λ_ _ _ _ _ _=>len3 λ_ _ _=>rfl
 have C44:=calD l.prog w b D44 (ok_an D44.F T ⟨C25,C28,C43⟩) λ_ _ _ _ _ _=>len1 λ_=>rfl
 have C45:=calD l.prog w b D45 (ok_re D45.F T L ⟨C23,C33,C36,C44,C43⟩) λ_ _ _ _ _ _=>len4 λ_ _ _ _=>rfl
 have C46:=calD l.prog w b D46 (ok_due D46.F T ⟨C8,C39⟩ ⟨D46.m,D46.k,D46.F.binds λ_ _ _ _ _ _=>len4 λ_ _ _ _=>rfl⟩) λ_ _ _ _ _ _=>len4 λ_ _ _ _=>rfl
 have C47:=calD l.prog w b D47 (ok_go D47.F T ⟨C1,C9,C3,C39,C4,C45,C46,C21,C38,C41⟩) λ_ _ _ _ _ _=>len4 λ_ _ _ _=>rfl
 have C48:=calD l.prog w b D48 (ok_box D48.F T ⟨C1⟩) λ_ _ _ _ _ _=>len2 λ_ _=>rfl
 exact ok_law D49.F T ⟨C0,C2,C3,C4,C42,C47,C48⟩
theorem walk{l:F7}{q:Program}{loose:List Str}{XP:(Str->Option Value)->Heap->Prop}{YP:World->Heap->Prop}{d:DefRec}{K:Params->j0}(hn:l.most=some 63)(hdf:d.params.defaults=[])
  (hY:∀(w:World) (h:Heap),YP w h->(K w.params).In h)
  (F:∀(w:World) (mg:Str->Option Value) (fa:Addr) (h:Heap),(K w.params).In h->h.Ns mainGlobals mg->mg d.name=some (.ref fa) ->
    ∃fd:FuncData,(∀(s:Shared) (u:Value),BindsTo s fd ⟨[u],[]⟩ [("_law_script",u)])/\∀base:Heap,(K w.params).In base->base.Ns mainGlobals mg->FnOk l.prog w (K w.params) mg base CX0 41 fa fd ["_law_script"] (conSp (K w.params) cLaw)) :
  PySem.W.WalkO q loose XP YP l.row.toRowW d [] (λf vs=>PySem.call f vs) :=
 L2.walk_of (n:=63) (k:=41) (x:="_law_script") (CX:=λ_=>CX0) (sp:=λw=>conSp (K w.params) cLaw) hn (by decide) hdf ⟨rfl,by decide,by decide,rfl⟩ hY F (λ_ _ a ns hl _ hS=>cLaw_sp hl hS) λ_ _ _ _ _ z=>z
end R77
open PySem PySem.W PyProof.Rows
namespace PySem.W.Fast
def tw427123687799990154:Unit:=()
def tw8554171233919472750:Unit:=()
def tw11148848767220147987:Unit:=()
def tw7958826814398655509:Unit:=()
def tw16826396177889211061:Unit:=()
def tw6289756593502445559:Unit:=()
def tw9371888228108178909:Unit:=()
def tw7008019777481987571:Unit:=()
def tw12267422099670663107:Unit:=()
def tw9641183461477731622:Unit:=()
def tw745373869540753132:Unit:=()
def tw8093390615193014355:Unit:=()
def tw14469156832436302185:Unit:=()
def tw1256103659431883170:Unit:=()
def tw14358029275862921052:Unit:=()
def tw11072584366035652586:Unit:=()
def tw1092083129008893816:Unit:=()
def tw8844922881715575114:Unit:=()
def tw9412792173803254889:Unit:=()
def tw3306133728900775994:Unit:=()
def tw8303122920945484271:Unit:=()
def tw14460013761017478974:Unit:=()
def tw15176268463402996724:Unit:=()
def tw1002162258788219405:Unit:=()
def tw5957628308993762379:Unit:=()
def tw11558024404305816378:Unit:=()
def tw10376065175173930984:Unit:=()
def tw11717931337959735634:Unit:=()
def tw15545054872321535567:Unit:=()
def tw1175289270289787043:Unit:=()
def tw16547256387853715949:Unit:=()
def tw7136887752037256155:Unit:=()
def tw11491098345857330288:Unit:=()
def tw14147029994476942311:Unit:=()
def tw14227817195591159608:Unit:=()
def tw2904429448898816074:Unit:=()
def tw8753418462967869978:Unit:=()
def tw5441923480103333505:Unit:=()
def tw9516331175283487005:Unit:=()
def tw17153781060507122249:Unit:=()
def tw4087331140268448497:Unit:=()
def tw4761526088681870628:Unit:=()
def tw7867635015245272094:Unit:=()
def tw2472522155901981919:Unit:=()
def tw17091028351405018599:Unit:=()
def tw12214629279335194101:Unit:=()
def tw11689589494931360132:Unit:=()
def tw14015082476823795491:Unit:=()
def tw17073656696683837854:Unit:=()
def tw422753964861416468:Unit:=()
def tw17849035602814359382:Unit:=()
def tw18163639388783600776:Unit:=()
def tw6847708351463475878:Unit:=()
def tw1563131536953036610:Unit:=()
def tw5835159981698234449:Unit:=()
def tw13348184875653782229:Unit:=()
def tw17633999190098806916:Unit:=()
def tw4826037727481544401:Unit:=()
def tw7366305836567438373:Unit:=()
def tw11293737138756398755:Unit:=()
def tw7217996380311397936:Unit:=()
def tw11565704172357981251:Unit:=()
def tw291521514987959402:Unit:=()
def tw15444888537755863824:Unit:=()
def tw16012021344999121430:Unit:=()
def tw15832396289520556499:Unit:=()
def tw15056313321937569618:Unit:=()
def tw6868294322298455216:Unit:=()
def tw17717643488821879470:Unit:=()
def tw1613619769725687897:Unit:=()
def tw6814093528853552941:Unit:=()
def tw14537576775764013265:Unit:=()
def tw1203245448095820725:Unit:=()
def tw16682326573671143755:Unit:=()
def tw2894556653935410179:Unit:=()
def tw7008824729893455314:Unit:=()
def tw3486603884323359688:Unit:=()
def tw1959409211629380381:Unit:=()
def tw10230977563886274071:Unit:=()
def tw4995010539569991394:Unit:=()
def tw15896666589733914757:Unit:=()
def tw7048467215197406304:Unit:=()
def tw11884529152248857249:Unit:=()
def tw5956173955960550521:Unit:=()
def tw2584321558416955132:Unit:=()
def tw8824327107294029138:Unit:=()
def tw15409512473916631068:Unit:=()
def tw17702301372092394690:Unit:=()
def tw7374187291075005946:Unit:=()
def tw11405345209187192653:Unit:=()
def tw977156758253356078:Unit:=()
def tw10971147395052755906:Unit:=()
def tw13530897270477147722:Unit:=()
def tw10881050636725472544:Unit:=()
def tw2860761811626450267:Unit:=()
def tw15640612374549954691:Unit:=()
def tw897515020921049762:Unit:=()
def tw2634648342812732983:Unit:=()
def tw3705605198554308977:Unit:=()
def tw13189905370176522443:Unit:=()
def tw17019458730070050491:Unit:=()
def tw6972098100186124383:Unit:=()
def tw17250732307053891552:Unit:=()
def tw5920012959109447888:Unit:=()
def tw8963096886865218254:Unit:=()
end PySem.W.Fast
set_option maxRecDepth 100000 in
set_option maxHeartbeats 0 in
theorem PySem.Challenge.cw_boxsums_k77_whole_whatever_paper_holds_holds : PySem.Challenge.rw_boxsums_k77_whole_whatever_paper_holds.Holds := by
 w_on;o_law;k_head;(case hw=>w_witness2)
 k_fill
 refine R77.walk (l:=PySem.Challenge.rw_boxsums_k77_whole_whatever_paper_holds) rfl rfl (λw h Y=>PySem.W.kIn_of Y) ?F
 case F =>
  intro w mg fa h KX G hmg
  refine' R77.all_mk KX G hmg (R77.df_mk KX G ?a0 ?l0 ?c0 ?k0) (R77.df_mk KX G ?a1 ?l1 ?c1 ?k1) (R77.df_mk KX G ?a2 ?l2 ?c2 ?k2) (R77.df_mk KX G ?a3 ?l3 ?c3 ?k3) (R77.df_mk KX G ?a4 ?l4 ?c4 ?k4) (R77.df_mk KX G ?a5 ?l5 ?c5 ?k5) (R77.df_mk KX G ?a6 ?l6 ?c6 ?k6) (R77.df_mk KX G ?a7 ?l7 ?c7 ?k7) (R77.df_mk KX G ?a8 ?l8 ?c8 ?k8) (R77.df_mk KX G ?a9 ?l9 ?c9 ?k9) (R77.df_mk KX G ?a10 ?l10 ?c10 ?k10) (R77.df_mk KX G ?a11 ?l11 ?c11 ?k11) (R77.df_mk KX G ?a12 ?l12 ?c12 ?k12) (R77.df_mk KX G ?a13 ?l13 ?c13 ?k13) (R77.df_mk KX G ?a14 ?l14 ?c14 ?k14) (R77.df_mk KX G ?a15 ?l15 ?c15 ?k15) (R77.df_mk KX G ?a16 ?l16 ?c16 ?k16) (R77.df_mk KX G ?a17 ?l17 ?c17 ?k17) (R77.df_mk KX G ?a18 ?l18 ?c18 ?k18) (R77.df_mk KX G ?a19 ?l19 ?c19 ?k19) (R77.df_mk KX G ?a20 ?l20 ?c20 ?k20) (R77.df_mk KX G ?a21 ?l21 ?c21 ?k21) (R77.df_mk KX G ?a22 ?l22 ?c22 ?k22) (R77.df_mk KX G ?a23 ?l23 ?c23 ?k23) (R77.df_mk KX G ?a24 ?l24 ?c24 ?k24) (R77.df_mk KX G ?a25 ?l25 ?c25 ?k25) (R77.df_mk KX G ?a26 ?l26 ?c26 ?k26) (R77.df_mk KX G ?a27 ?l27 ?c27 ?k27) (R77.df_mk KX G ?a28 ?l28 ?c28 ?k28) (R77.df_mk KX G ?a29 ?l29 ?c29 ?k29) (R77.df_mk KX G ?a30 ?l30 ?c30 ?k30) (R77.df_mk KX G ?a31 ?l31 ?c31 ?k31) (R77.df_mk KX G ?a32 ?l32 ?c32 ?k32) (R77.df_mk KX G ?a33 ?l33 ?c33 ?k33) (R77.df_mk KX G ?a34 ?l34 ?c34 ?k34) (R77.df_mk KX G ?a35 ?l35 ?c35 ?k35) (R77.df_mk KX G ?a36 ?l36 ?c36 ?k36) (R77.df_mk KX G ?a37 ?l37 ?c37 ?k37) (R77.df_mk KX G ?a38 ?l38 ?c38 ?k38) (R77.df_mk KX G ?a39 ?l39 ?c39 ?k39) (R77.df_mk KX G ?a40 ?l40 ?c40 ?k40) (R77.df_mk KX G ?a41 ?l41 ?c41 ?k41) (R77.df_mk KX G ?a42 ?l42 ?c42 ?k42) (R77.df_mk KX G ?a43 ?l43 ?c43 ?k43) (R77.df_mk KX G ?a44 ?l44 ?c44 ?k44) (R77.df_mk KX G ?a45 ?l45 ?c45 ?k45) (R77.df_mk KX G ?a46 ?l46 ?c46 ?k46) (R77.df_mk KX G ?a47 ?l47 ?c47 ?k47) (R77.df_mk KX G ?a48 ?l48 ?c48 ?k48) (R77.df_mk KX G ?a49 ?l49 ?c49 ?k49) ?z0 ?z1 ?z2 ?z3 ?z4 ?z5 ?z6 ?z7 ?z8 ?z9 ?z10 ?z11 ?z12 ?z13 ?z14 ?z15 ?y0 ?y1 ?tu0 ?tu1
  case a0|l0|c0|k0|a1|l1|c1|k1|a2|l2|c2|k2|a3|l3|c3|k3|a4|l4|c4|k4|a5|l5|c5|k5|a6|l6|c6|k6|a7|l7|c7|k7|a8|l8|c8|k8|a9|l9|c9|k9|a10|l10|c10|k10|a11|l11|c11|k11|a12|l12|c12|k12|a13|l13|c13|k13|a14|l14|c14|k14|a15|l15|c15|k15|a16|l16|c16|k16|a17|l17|c17|k17|a18|l18|c18|k18|a19|l19|c19|k19|a20|l20|c20|k20|a21|l21|c21|k21|a22|l22|c22|k22|a23|l23|c23|k23|a24|l24|c24|k24|a25|l25|c25|k25|a26|l26|c26|k26|a27|l27|c27|k27|a28|l28|c28|k28|a29|l29|c29|k29|a30|l30|c30|k30|a31|l31|c31|k31|a32|l32|c32|k32|a33|l33|c33|k33|a34|l34|c34|k34|a35|l35|c35|k35|a36|l36|c36|k36|a37|l37|c37|k37|a38|l38|c38|k38|a39|l39|c39|k39|a40|l40|c40|k40|a41|l41|c41|k41|a42|l42|c42|k42|a43|l43|c43|k43|a44|l44|c44|k44|a45|l45|c45|k45|a46|l46|c46|k46|a47|l47|c47|k47|a48|l48|c48|k48|a49|l49|c49|k49|z0|z1|z2|z3|z4|z5|z6|z7|z8|z9|z10|z11|z12|z13|z14|z15|y0|y1|tu0|tu1=>k_is
