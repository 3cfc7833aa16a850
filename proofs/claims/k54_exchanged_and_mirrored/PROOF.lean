import PyProof.Rows.All
import Wide.All
import OpenK.AllK
import Wide.FinOn
import Lean
import PyProof.EqAt
import PyProof.EqKinds
import PyProof.TupleCall
import KE.KNest
import KE.KLam
import PyProof.Rows.SortRuns
import KE.KNestM
import PyProof.Draws
import PyProof.EnumMake
import PyProof.DictItems
import PyProof.DictIter
import PyProof.DictWalks
import PySem.Challenge.RW_boxsums_k54_exchanged_and_mirrored
set_option Elab.async false
set_option linter.all false
set_option maxRecDepth 100000
set_option maxHeartbeats 4000000
open PySem.Heap renaming get?_push_of_some → i0,lt_size → u0,get?_push_size → v0,size_push → Z0,get?_update_other → K1,get?_update_self → X1,SameBut → B3,get?_push_ne → O6,size_update → V6,get?_update_ne → t7,ExtBut → i9
open PySem.PyData renaming int → j0,tuple → A1,list → V3,bool → K4,canLay0 → A7,canLayAll0 → N7,depth → e8,depthAll → j8
open List renaming length_map → q0,getElem?_eq_getElem → A0,getD_eq_getElem?_getD → G0,mem_map → J0,mem_cons_of_mem → K0,map_map → O0,getElem?_map → Q0,mem_cons_self → R0,getElem?_eq_some_iff → S0,length_append → U0,size_toArray → V0,mem_cons → Y0,mem_of_getElem? → B1,map_cons → E1,mem_singleton → G1,getElem?_set_ne → J1,replicate → L1,getElem?_append_right → P1,mem_append_right → Q1,Nodup → V1,drop_eq_getElem_cons → W1,getElem?_append_left → J2,range → K2,getElem_mem → N2,append_nil → O2,length_zip → P2,append_assoc → S2,length_cons → Y2,length_singleton → Z2,extract_eq_take_drop → u3,mem_append → A3,length → J3,getElem_of_mem → K3,map_congr_left → M3,lookup_cons → O3,pairwise_iff_getElem → Q3,drop_of_length_le → S3,nodup_cons → T3,map_append → U3,getElem?_cons_succ → X3,mem_iff_getElem? → Z3,take_append_drop → i4,find?_cons → j4,all_eq_true → u4,flatMap_cons → G4,replicate_succ → J4,length_set → L4,getElem?_eq_none_iff → N4,pairwise_reverse → O4,length_take → P4,cons_append → Q4,forIn_cons → U4,getElem_zip → X4,getElem_map → Y4,forIn_nil → i5,of_mem_zip → o5,flatten_cons → u5,pairwise_map → x5,pairwise_append → A5,mem_range → J5,not_mem_nil → K5,length_zipIdx → N5,length_nil → P5,any_cons → S5,reverse_cons → U5,map → W5,mem_append_left → Y5,zipIdx_cons → i6,length_drop → j6,mem_flatMap → m6,getElem?_zip_eq_some → o6,idxOf_lt_length_iff → v6,pairwise_cons → A6,map_inj_right → B6,pairwise_singleton → E6,drop_sublist → N6,getElem?_set_self → P6,take_of_length_le → Q6,perm_append_comm → T6,getElem_inj → U6,countP_cons → X6,ext_getElem → Y6,getElem?_zipIdx → e7,nil_append → g7,zipIdx_nil → h7,filterMap_cons → i7,length_reverse → j7,mem_map_of_mem → o7,map_nil → u7,getElem_idxOf → B7,nodup_iff_pairwise_ne → F7,lookup → J7,take_sublist → M7,reverse_perm → O7,getElem?_take_of_lt → P7,map_fst_zip → T7,map_snd_zip → U7,mem_reverse → V7,getElem?_replicate → X7,getElem?_cons_zero → Z7,length_pos_of_mem → i8,getElem?_toArray → r8,map_id → w8,drop_drop → y8,drop_zero → A8,mem_iff_getElem → E8,mem_of_mem_take → F8,all_cons → M8,mem_filterMap → R8,zip_cons_cons → T8,getElem?_drop → V8,forIn_toArray → W8,map_replicate → X8,foldl → q9
open PySem.W renaming Frag → B0,mg_none_of → U1,nsIn → B2,codeHdIn → v4,keepIn → Z4,fnOf → q5,kla_obj → Q5,mg_of → u6,findIn → K6,tabObj → L6,codeIn → y7,methodObj → L7,cellsFrom_some → g8,OpenLaw → m8,kla_fn → B8,kla_callFunE → G8,kla_codeExpr → J8,codeHd_of_K → L8,tabIn → N8,callWith_K → S8,specialIn → g9,instObj → m9
open Nat renaming lt_of_lt_of_le → L0,le_refl → M0,ne_of_lt → N0,ne_of_gt → N1,le_trans → Z1,le_add_right → E2,lt_irrefl → U2,zero_le → P3,lt_of_le_of_lt → o4,le_of_lt → B4,lt_succ_of_lt → E4,le_of_succ_le → v5,add_sub_cancel_left → L5,le_succ → X5,lt_trans → e6,lt_or_ge → g6,zero_add → J6,add_le_add_left → m7,le_of_not_lt → R7,lt_succ_self → S7,le_mul_of_pos_right → b8,mul_assoc → P8,not_lt → Q8,sub_self → Y8,min_self → Z8
open Array renaming length_toList → P0,toList_append → G2,getElem?_toList → V2,getElem?_eq_getElem → v3,getElem_toList → E3,toList_extract → A4,perm_iff_toList_perm → j5,toList_reverse → Z5,size_extract → x6,toList_push → M6,toList_map → W6
open PySem.Builtin.SmallTypes renaming nextOf → T0,ownedTupleIsFree → W0,ownedTupleHandOut → X2
open Bool renaming false_ne_true → X0,false_eq_true → T1,and_eq_true → N3,and_eq_true_iff → Y3,eq_iff_iff → O5,beq_eq_decide_eq → T5,and_true → t6,false_and → x8,not_true → O8
open Option.some renaming inj → O1
open PyProof.Rows renaming callWith_type1 → S1
open Ne renaming symm → Y1
open PySem.Value renaming ref → Q2,none → T4,type → B5,int → v7,isInt → u8,bool → o9
open PySem.Obj renaming mapSeq → W2,data_mapFields → w6,isFreed_of_fields → n8
open Option renaming map_eq_some_iff → G3,map_some → M4,getD_some → W4,isSome_some → U8,isSome_map → h9
open PySem.Builtin.List renaming listExtendWith → W3,listTooLong → E5,listFitsIndex → E7,listSameRef → Q7,listItems → h8
open Int renaming mul_le_mul_of_nonneg_left → S4,mul_le_mul_of_nonneg_right → M5,toNat_natCast → V5,eq_ofNat_of_zero_le → G6,mul_assoc → Z6,one_mul → K7,le_ediv_of_mul_le → t8,mul_one → v8,mul_ediv_self_le → K8,le_refl → j9
open PySem.Builtin.Builtins renaming bindParams → V4
open PySem.Heap.SameBut renaming update → G5
open PySem.Builtin.Tuple renaming tupleCompareSizes → S6,tupleHashOf → G7
open PySem.Builtin.Range renaming rangeSize → W7
open PySem.Builtin.Dict renaming updateFrom → Y7,showsAll → o8
open Nat.succ renaming inj → b9
abbrev Qa:=List Int
open PySem PySem.Spec PyProof.Rows
variable {its us:List Value}{a1 a2 u x2:Value}{h h':Heap}{α β:Type}{o ot:Obj}{kk n t':Nat}{ch fp ts:List Addr}{S T i1 i2 it l l1 l2 z:Addr}{N loose:List Str}{A:Around}{E Q:Value->Shared->Prop}{s s':Shared}{pins:List (Addr×Obj)}{body elt iter tg:Expr}{pos':Pos}{name qual y:Str}{hi lo od p sd sm:Qa}{g:Int->Int->Int}{fd:FuncData}{sc scope:Scope}{prog:Program}{env:Env}{XP:(Str->Option Value)->Heap->Prop}{YP:World->Heap->Prop}{fr:List Nat}{ifs:List Expr}{xs1 xs2:Array Value}{fl:Bool}{os:Addr->Obj}{cl:List (Str×Addr)}
namespace L2
noncomputable abbrev OQ:=Sum Int Str
noncomputable def lV:OQ->Value->Bool
 | .inl k,v=>u8 k v
 | .inr x,v=>Value.isStrOf x v
noncomputable def TM(w:World):OQ->Int
 | .inl k=>hashInt k
 | .inr x=>hashStr w x
theorem ZQ:∀{k:OQ}{v:Value},lV k v=true->(∃i t,k=Sum.inl i/\v=v7 i t)\/(∃x t,k=Sum.inr x/\v=Value.str x t)
 | .inl i,v,h=>by obtain⟨t,e⟩:=Value.isInt_shape (k:=i) (v:=v) h;exact .inl ⟨i,t,rfl,e⟩
 | .inr x,v,h=>by obtain⟨t,e⟩:=Value.isStrOf_shape (x:=x) (v:=v) h;exact .inr ⟨x,t,rfl,e⟩
def UD(i:Int)(t:Tok):lV (.inl i) (.int i t)=true:=by simp[lV,u8]
def VD(x:Str)(t:Tok):lV (.inr x) (.str x t)=true:=by simp[lV,Value.isStrOf]
def E9(a b:Int):decide ((Sum.inl a:OQ)=Sum.inl b)=(a==b):=by
 by_cases e:a=b
 .subst e;simp
 .have h:¬(Sum.inl a:OQ)=Sum.inl b:=λq=>e (Sum.inl.inj q);rw[decide_eq_false h];exact (beq_eq_false_iff_ne.mpr e).symm
def F9(a b:Str):decide ((Sum.inr a:OQ)=Sum.inr b)=decide (a=b):=by
 by_cases e:a=b
 .subst e;simp
 .have h:¬(Sum.inr a:OQ)=Sum.inr b:=λq=>e (Sum.inr.inj q);rw[decide_eq_false h,decide_eq_false e]
def G9(a:Int)(b:Str):decide ((Sum.inl a:OQ)=Sum.inr b)=false:=decide_eq_false (λq=>nomatch q)
def J9(a:Str)(b:Int):decide ((Sum.inr a:OQ)=Sum.inl b)=false:=decide_eq_false (λq=>nomatch q)
noncomputable def lX(prog:Program)(w:World):PySem.KeyKind prog w OQ where
 is:=lV
 hash:=TM w
 inj:=λv a b ha hb=>by
  rcases ZQ ha with⟨i,t,rfl,rfl⟩|⟨x,t,rfl,rfl⟩
  .rcases ZQ hb with⟨j,u,rfl,e⟩|⟨y,u,rfl,e⟩
   .injection e with e1 _;rw[e1]
   .exact nomatch e
  .rcases ZQ hb with⟨j,u,rfl,e⟩|⟨y,u,rfl,e⟩
   .exact nomatch e
   .injection e with e1 _;rw[e1]
 byValue:=λk v h=>by rcases ZQ h with⟨i,t,rfl,rfl⟩|⟨x,t,rfl,rfl⟩<;>rfl
 pyHash:=λhv h=>by
  rcases ZQ hv with⟨i,t,rfl,rfl⟩|⟨x,t,rfl,rfl⟩
  .exact wpAny_pyHash_int h
  .exact wpAny_pyHash_str h
 eqBool:=λhu hv h=>by
  rcases ZQ hu with⟨i,t,rfl,rfl⟩|⟨x,t,rfl,rfl⟩
  .rcases ZQ hv with⟨j,u,rfl,rfl⟩|⟨y,u,rfl,rfl⟩
   .rw[E9]at h;exact wpAny_eqBool_int h
   .rw[G9]at h;exact SeqAt.EqAt.int_str i t y u _ _ _ _ h
  .rcases ZQ hv with⟨j,u,rfl,rfl⟩|⟨y,u,rfl,rfl⟩
   .rw[J9]at h;exact SeqAt.EqAt.str_int x t j u _ _ _ _ h
   .rw[F9]at h;exact wpAny_eqBool_str h
 «strs»:=λk x t v h=>by
  rcases ZQ h with⟨i,u,rfl,e⟩|⟨y,u,rfl,e⟩
  .exact nomatch e
  .injection e with e1 _
   subst e1
   cases v<;>rfl
def HU(prog:Program)(w:World)(i:Int)(t:Tok):(lX prog w).is (.inl i) (.int i t)=true:=UD i t
def IU(prog:Program)(w:World)(x:Str)(t:Tok):(lX prog w).is (.inr x) (.str x t)=true:=VD x t
inductive V where
 |non|bl (b:Bool)|int (i:Int)|str (x:Str)|byt (b:Array UInt8)|flt (b:UInt64)|ref (a:Addr)|ty (n:String)
 deriving DecidableEq
noncomputable def RelV:V->Value->Prop
 | .non,u=>u=T4
 | .bl b,u=>u=o9 b
 | .int i,u=>∃t,u=v7 i t
 | .str x,u=>∃t,u=Value.str x t
 | .byt b,u=>∃t,u=Value.bytes b t
 | .flt b,u=>∃t,u=Value.float b t
 | .ref a,u=>u=Q2 a
 | .ty n,u=>u=B5 n
abbrev Vals:List V->List Value->Prop:=Paired RelV
def Vals.length(r:Vals xs us):xs.length=us.length:=Paired.length r
theorem Vals.get:∀{xs:List V}{us:List Value}{i:Nat}{x:V},Vals xs us->xs[i]?=some x->∃u,us[i]?=some u/\RelV x u
 |_,_,_,_,.nil,e=>by simp at e
 |_,_,0,_,.cons r _,e=>by simp at e;subst e;exact ⟨_,rfl,r⟩
 |_,_,i+1,x,.cons _ t,e=>by obtain⟨u,h1,h2⟩:=Vals.get (i:=i) (x:=x) t (by simpa using e);exact ⟨u,by simpa using h1,h2⟩
theorem Vals.set{x:V}(r:RelV x u):∀{xs:List V}{us:List Value} (i:Nat),Vals xs us->Vals (xs.set i x) (us.set i u)
 |_,_,_,.nil=>.nil
 |_,_,0,.cons _ t=>.cons r t
 |_,_,i+1,.cons q t=>.cons q (Vals.set r i t)
theorem Vals.append:∀{xs ys:List V}{us ws:List Value},Vals xs us->Vals ys ws->Vals (xs++ys) (us++ws)
 |_,_,_,_,.nil,s=>s
 |_,_,_,_,.cons r t,s=>.cons r (Vals.append t s)
theorem Vals.take:∀{xs:List V}{us:List Value} (n:Nat),Vals xs us->Vals (xs.take n) (us.take n)
 |_,_,0,_=>.nil
 |_,_,_+1,.nil=>.nil
 |_,_,n+1,.cons r t=>.cons r (Vals.take n t)
theorem Vals.drop:∀{xs:List V}{us:List Value} (n:Nat),Vals xs us->Vals (xs.drop n) (us.drop n)
 |_,_,0,r=>r
 |_,_,_+1,.nil=>.nil
 |_,_,n+1,.cons _ t=>Vals.drop n t
def Vals.none_of:∀{xs:List V}{us:List Value}{i:Nat},Vals xs us->xs[i]?=none->us[i]?=none:=λ{xs us i} r e=>by have h1:=r.length;have h2:xs.length<=i:=N4.mp e;exact N4.mpr (by lia)
noncomputable def RelO:Option V->Option Value->Prop
 |some v,some u=>RelV v u
 |none,none=>True
 |_,_=>False
def KV{κ:Type}:List (κ×V)->List (κ×Value)->Prop:=Paired λ(p:κ×V) (q:κ×Value)=>p.1=q.1/\RelV p.2 q.2
noncomputable def kV:OQ->V
 | .inl i=>.int i
 | .inr x=>.str x
inductive HO where
 |lst (xs:List V)
 |tup (xs:List V)
 |dK (kvs:List (OQ×V))|dT (kvs:List (List OQ×V))
 |set (S:Int->Bool) (n:Nat)
 |ins (C dx:Addr) (fs:List (Str×V))
 |own (x:Addr)
 |xd (fs:List (Str×V))
 |met (f x:Addr)
 |rng (lo hi:Int)
 |frz (o:Obj) (u:HO)
 |tbl (ps:Array Value)
 |ext (φ:Heap->Prop)
noncomputable abbrev Hp:=Addr->Option HO
noncomputable def DQ(H:Hp)(a:Addr)(o:HO):Hp:=λb=>if b=a then some o else H b
def kQ{o:HO}:DQ H a o a=some o:=by unfold DQ;rw[if_pos rfl]
def eQ{o:HO}(h:b≠a):DQ H a o b=H b:=by unfold DQ;rw[if_neg h]
def Aw{o u:HO}:DQ (DQ H a o) a u=DQ H a u:=by funext b;unfold DQ;split<;>rfl
def ZE{H:Hp}{o u:HO}(h:H a=some o)(h':H b=some u)(d:o≠u):a≠b:=by intro e;subst e;rw[h]at h';exact d (O1 h')
def gQ{H:Hp}{o:HO}(h:H a=some o)(h':H b=none):a≠b:=by intro e;subst e;rw[h]at h';cases h'
def IsTupD(h:Heap)(a:Addr)(items:Array Value):Prop:=∃o,h.get? a=some o/\o.cls=.type "tuple"/\∃n,o.data=.seq items n/\o.dict=none
def IsTupD.t:IsTupD h a items->IsTup h a items:=λ⟨o,e,c,n,d,_⟩=>⟨o,e,c,n,d⟩
def IsTupD.new(h:Heap)(items:Array Value):IsTupD (h.push {cls:=.type "tuple",data:=.seq items}) h.objs.size items:=⟨_,v0 _ rfl,rfl,_,rfl,rfl⟩
section
variable (P:Program)(w:World)
noncomputable def ObjOk(H:Hp)(h:Heap)(a:Addr):HO->Prop
 | .lst xs=>xs.length<=sizeLine/\∃(its:List Value) (n:Nat),Vals xs its/\h.get? a=some {cls:=.type "list",data:=.seq its.toArray n}
 | .tup xs=>xs.length<=sizeLine/\∃its:List Value,Vals xs its/\IsTupD h a its.toArray
 | .dK kvs=>kvs.length<=sizeLine/\(a==sysModules)=false/\∃vs,KV kvs vs/\h.DictOf (lX P w) a vs
 | .dT kvs=>kvs.length<=sizeLine/\(a==sysModules)=false/\∃xs:List (List OQ×Addr×Value),
   Paired (λ(p:List OQ×V) (q:List OQ×Addr×Value)=>p.1=q.1/\H q.2.1=some (.tup (p.1.map kV))/\RelV p.2 q.2.2) kvs xs /\
   ∃o es ep,h.get? a=some o/\o.ExactDict/\o.data=.dict es ep/\es.toList=xs.map (entryOfKey (tupleKind (lX P w)))/\(xs.map (·.1)).Nodup
 | .set S n=>h.SetOf (intKind P w) a S n
 | .ins C dx fs=>H dx=some (.own a)/\fs.length<=1000/\dx≠a/\h.get? a=some (m9 C dx) /\
   ∃mA,h.Ns1 dx mA/\(∀f,RelO (fs.lookup f) (mA f))/\PySem.Within mA (fs.map (·.1))
 | .own _=>∃o,h.get? a=some o
 | .xd fs=>∃mA,h.Ns1 a mA/\∀f,RelO (fs.lookup f) (mA f)
 | .rng lo hi=>∃t u v,h.get? a=some {cls:=.type "range",data:=.fields #[.int lo t,.int hi u,.int 1 v]}
 | .frz o u=>h.get? a=some o/\ObjOk H h a u
 | .tbl ps=>h.get? a=some {cls:=.none,data:=.fields ps}
 | .met f x=>h.get? a=some (L7 (.ref f) (.ref x))
 | .ext φ=>φ h/\(∃o,h.get? a=some o)/\∀h1 h2:Heap,φ h1->(∀o,h1.get? a=some o->h2.get? a=some o)->φ h2
def HOk(H:Hp)(h:Heap):Prop:=∀a o,H a=some o->ObjOk P w H h a o
end
section
variable {P:Program}{w:World}{H H':Hp}{a:Addr}{o:HO}
def ObjOk.lt(x:ObjOk P w H h a o):a<h.objs.size:=by
 cases o with
 |lst xs=>obtain⟨_,_,_,_,e⟩:=x;exact u0 e
 |tup xs=>obtain⟨_,_,_,p⟩:=x;exact p.t.lt
 |dK kvs=>obtain⟨_,_,_,_,o,_,_,e,_⟩:=x;exact u0 e
 |dT kvs=>obtain⟨_,_,_,_,o,_,_,e,_⟩:=x;exact u0 e
 |set S n=>obtain⟨o,_,_,_,e,_⟩:=x;exact u0 e
 |ins C dx fs=>obtain⟨_,_,_,e,_⟩:=x;exact u0 e
 |own y=>obtain⟨_,e⟩:=x;exact u0 e
 |xd fs=>obtain⟨_,⟨_,_,_,e,_⟩,_⟩:=x;exact u0 e
 |rng lo hi=>obtain⟨_,_,_,e⟩:=x;exact u0 e
 |frz ob u=>obtain⟨e,_⟩:=x;exact u0 e
 |tbl ps=>exact u0 (show h.get? a=some _ from x)
 |met f y=>exact u0 (show h.get? a=some _ from x)
 |ext φ=>obtain⟨_,⟨_,e⟩,_⟩:=x;exact u0 e
theorem Paired.mapP{F G:α->β->Prop}:∀{l₁:List α}{l₂:List β},Paired F l₁ l₂->(∀a b,F a b->G a b)->Paired G l₁ l₂
 |_,_,.nil,_=>.nil
 |_,_,.cons r t,f=>.cons (f _ _ r) (Paired.mapP t f)
def ObjOk.stay(x:ObjOk P w H h a o)(k:∀b u,(b=a\/H b=some (.own a))->h.get? b=some u->h'.get? b=some u)(ho:∀b,H b=some (.own a)->H' b=some (.own a)) (ht:∀b xs,H b=some (.tup xs)->H' b=some (.tup xs)):ObjOk P w H' h' a o:=by
 induction o with
 |lst xs=>obtain⟨z,its,n,r,e⟩:=x;exact ⟨z,its,n,r,k _ _ (.inl rfl) e⟩
 |tup xs=>obtain⟨z,its,r,ob,e,c⟩:=x;exact ⟨z,its,r,ob,k _ _ (.inl rfl) e,c⟩
 |dK kvs=>obtain⟨z,y,vs,r,ob,es,ep,e,c⟩:=x;exact ⟨z,y,vs,r,ob,es,ep,k _ _ (.inl rfl) e,c⟩
 |dT kvs=>obtain⟨z,y,xs,r,ob,es,ep,e,c⟩:=x;exact ⟨z,y,xs,Paired.mapP r λp q z=>⟨z.1,ht _ _ z.2.1,z.2.2⟩,ob,es,ep,k _ _ (.inl rfl) e,c⟩
 |set S n=>obtain⟨ob,es,ep,t,e,c⟩:=x;exact ⟨ob,es,ep,t,k _ _ (.inl rfl) e,c⟩
 |ins C dx fs=>obtain⟨d,z,ne,e,mA,⟨od,es,ep,e2,c⟩,r⟩:=x;exact ⟨ho _ d,z,ne,k _ _ (.inl rfl) e,mA,⟨od,es,ep,k _ _ (.inr d) e2,c⟩,r⟩
 |own y=>obtain⟨ob,e⟩:=x;exact ⟨ob,k _ _ (.inl rfl) e⟩
 |xd fs=>obtain⟨mA,⟨od,es,ep,e,c⟩,r⟩:=x;exact ⟨mA,⟨od,es,ep,k _ _ (.inl rfl) e,c⟩,r⟩
 |rng lo hi=>obtain⟨t,u,v,e⟩:=x;exact ⟨t,u,v,k _ _ (.inl rfl) e⟩
 |frz ob u ih=>obtain⟨e,q⟩:=x;exact ⟨k _ _ (.inl rfl) e,ih q⟩
 |tbl ps=>have e:h.get? a=some {cls:=.none,data:=.fields ps}:=x;show h'.get? a=some {cls:=.none,data:=.fields ps};exact k a _ (.inl rfl) e
 |met f y=>have e:h.get? a=some (L7 (.ref f) (.ref y)):=x;show h'.get? a=some (L7 (.ref f) (.ref y));exact k a _ (.inl rfl) e
 |ext φ=>obtain⟨p,⟨o,e⟩,st⟩:=x;exact ⟨st _ _ p λo q=>k _ _ (.inl rfl) q,⟨o,k _ _ (.inl rfl) e⟩,st⟩
def HOk.lt(x:HOk P w H h)(e:H a=some o):a<h.objs.size:=(x a o e).lt
def HOk.fresh(x:HOk P w H h)(e:h.objs.size<=a):H a=none:=by
 cases q:H a with
 |none=>rfl
 |some u=>exact absurd (L0 (x.lt q) e) (U2 _)
def HOk.kept(x:HOk P w H h)(k:∀b u,h.get? b=some u->h'.get? b=some u):HOk P w H h':=λa o e=>(x a o e).stay (λb u _ q=>k b u q) (λ_ q=>q) λ_ _ q=>q
def HOk.laid(x:HOk P w H h)(k:∀b u,h.get? b=some u->h'.get? b=some u)(hp:h.objs.size<=a)(new:ObjOk P w (DQ H a o) h' a o):HOk P w (DQ H a o) h':=λb u e=>by
 have hn:=x.fresh hp;by_cases hb:b=a
 .subst hb;rw[kQ]at e;cases e;exact new
 .rw[eQ hb]at e;exact (x b u e).stay (λc v _ q=>k c v q) (λc q=>by rw[eQ (gQ q hn)];exact q) λc xs q=>by rw[eQ (gQ q hn)];exact q
end
def Rd(H:Hp)(a:Addr)(u:HO):Prop:=H a=some u\/∃o,H a=some (.frz o u)
def Rd.ok{u:HO}(r:Rd H a u)(x:HOk P w H h):ObjOk P w H h a u:=by
 rcases r with r|⟨o,r⟩
 .exact x a u r
 .obtain⟨_,q⟩:=x a _ r;exact q
noncomputable def aI:Option HO->Prop
 |some (.lst _)=>True
 |some (.dK _)=>True
 |some (.dT _)=>True
 |some (.set _ _)=>True
 |some (.ins _ _ _)=>True
 |some (.ext _)=>True
 |_=>False
section
variable {P:Program}{w:World}{H:Hp}{x e:Addr}{o':HO}
def HOk.write(ok:HOk P w H h)(mu:aI (H x))(he:e=x\/H e=some (.own x))(k:∀b u,b≠e->h.get? b=some u->h'.get? b=some u)(heo:∃u,h'.get? e=some u)(new:ObjOk P w (DQ H x o') h' x o'):HOk P w (DQ H x o') h':=λb u q=>by
 have nown:∀c y,H c=some (.own y)->c≠x:=λc y r z=>by subst z;rw[r]at mu;exact mu
 have ntup:∀c xs,H c=some (.tup xs)->c≠x:=λc xs r z=>by subst z;rw[r]at mu;exact mu
 by_cases hb:b=x
 .subst hb;rw[kQ]at q;cases q;exact new
 .rw[eQ hb]at q;by_cases hbe:b=e
  .have q':H b=some (.own x):=by
    rcases he with z|z
    .exact absurd (hbe.trans z) hb
    .rw[hbe];exact z
   rw[q]at q';cases q';obtain⟨v,hv⟩:=heo;exact ⟨v,by rw[hbe];exact hv⟩
  .refine (ok b u q).stay (λc v hc r=>k c v ?_ r) (λc r=>by rw[eQ (nown c b r)];exact r) λc xs r=>by rw[eQ (ntup c xs r)];exact r
   rcases hc with rfl|hc
   .exact hbe
   .rintro rfl;rcases he with z|z
    .exact nown c b hc z
    .rw[hc]at z;cases z;exact hb rfl
end
structure Un(fs ex:List Addr)(H H':Hp)(h h':Heap):Prop where
 keep:∀b o,h.get? b=some o->H b=none->b∉fs->b∉ex->h'.get? b=some o
 slot:∀b o,h.get? b=some o->H b=none->b∈fs->b∉ex->∃sl,h'.get? b=some {o with slots:=sl}
 free:∀b o,h.get? b=some o->H b=none->b∉ex->H' b=none
 there:∀b o,h.get? b=some o->b∉ex->∃o',h'.get? b=some o'
 tups:∀b xs,H b=some (.tup xs)->H' b=some (.tup xs)
 frzs:∀b o u,H b=some (.frz o u)->H' b=some (.frz o u)
 tbls:∀b ps,H b=some (.tbl ps)->∃more,H' b=some (.tbl (ps++more))
section
variable {fs fs' ex ex':List Addr}{H H1 H2:Hp}{h1 h2:Heap}{a x e:Addr}{o:HO}
def Un.any(u:Un fs ex H H1 h h1){b:Addr}{ob:Obj}(q:h.get? b=some ob)(n:H b=none)(hx:b∉ex):∃sl,h1.get? b=some {ob with slots:=sl}:=by
 by_cases hb:b∈fs
 .exact u.slot b ob q n hb hx
 .exact ⟨ob.slots,u.keep b ob q n hb hx⟩
def Un.kept(k:∀b u,h.get? b=some u->h'.get? b=some u):Un fs ex H H h h':=⟨λb ob q _ _ _=>k b ob q,λb ob q _ _ _=>⟨ob.slots,k b ob q⟩,λ_ _ _ n _=>n,λb ob q _=>⟨ob,k b ob q⟩,λ_ _ q=>q,λ_ _ _ q=>q,λ_ ps q=>⟨#[],by rw[q];simp⟩⟩
def Un.refl:Un fs ex H H h h:=Un.kept λ_ _ q=>q
def Un.laid(k:∀b u,h.get? b=some u->h'.get? b=some u)(hp:h.objs.size<=a)(hn:H a=none):Un fs ex H (DQ H a o) h h' where
 keep:=λb u q _ _ _=>k b u q
 slot:=λb u q _ _ _=>⟨u.slots,k b u q⟩
 free:=λb u q n _=>by rw[eQ (N0 (L0 (u0 q) hp))];exact n
 there:=λb u q _=>⟨u,k b u q⟩
 tups:=λb xs q=>by rw[eQ (gQ q hn)];exact q
 frzs:=λb u xs q=>by rw[eQ (gQ q hn)];exact q
 tbls:=λb ps q=>⟨#[],by rw[eQ (gQ q hn),q];simp⟩
def Un.write(mu:aI (H x))(he:e=x\/H e=some (.own x))(k:∀b u,b≠e->h.get? b=some u->h'.get? b=some u)(heo:∃u,h'.get? e=some u):Un fs ex H (DQ H x o) h h':=by
 have hx:∀b,H b=none->b≠x:=λb n z=>by subst z;rw[n]at mu;exact mu
 have hb:∀b,H b=none->b≠e:=λb n z=>by
  subst z;rcases he with r|r
  .exact hx b n r
  .rw[n]at r;cases r
 have hm:∀b u,H b=some u->¬aI (some u)->b≠x:=λb u q nm z=>by subst z;rw[q]at mu;exact nm mu
 refine ⟨λb u q n _ _=>k b u (hb b n) q,λb u q n _ _=>⟨u.slots,k b u (hb b n) q⟩,λb u q n _=>by rw[eQ (hx b n)];exact n,λb u q _=>?_,
   λb xs q=>by rw[eQ (hm b _ q λz=>z)];exact q,λb u xs q=>by rw[eQ (hm b _ q λz=>z)];exact q,λb ps q=>⟨#[],by rw[eQ (hm b _ q λz=>z),q];simp⟩⟩;by_cases hbe:b=e
 .subst hbe;exact heo
 .exact ⟨u,k b u hbe q⟩
end
noncomputable def rM(h:Heap)(H:Hp):List Addr:=(K2 h.objs.size).filter λa=>(H a).isSome
noncomputable def TV(h:Heap)(H:Hp):Heap:=PySem.W.hideAll h (rM h H)
def WD(h:Heap)(H:Hp):(TV h H).objs.size=h.objs.size:=PySem.W.hideAll_size _ _
def zz(e:h.get? b=some o)(n:H b=none):(TV h H).get? b=some o :=
 PySem.W.hideAll_get _ e λhm=>by have q:(H b).isSome=true:=(List.mem_filter.mp hm).2;rw[n]at q;simp at q
def Bw(e:(TV h H).get? b=some o):h.get? b=some o/\H b=none:=by
 have e':h.get? b=some o:=PySem.W.of_hideAll (rM h H) e;refine ⟨e',?_⟩;cases q:H b with
 |none=>rfl
 |some x=>have hm:b∈rM h H:=List.mem_filter.mpr ⟨J5.mpr (u0 e'),by simp[q]⟩;have z:(TV h H).get? b=none:=PySem.W.hideAll_none (rM h H) hm;rw[z]at e;cases e
noncomputable def Cw(g h:Heap)(L:Addr):List (Addr×Obj):=(K2 h.objs.size).filterMap λa=>if a=L\/(g.get? a).isSome=true then none else (h.get? a).map λo=>(a,o)
noncomputable def rest(g h:Heap)(L d:Addr):List (Addr×Obj):=(Cw g h L).filter λp=>decide (p.1≠d)
def bI(mg:Str->Option Value)(h:Heap):Prop:=∃bm o,mg "__builtins__"=some (.ref bm)/\bm≠builtinsNs/\h.get? bm=some o/\o.cls=.type "module"/\o.dict=some builtinsNs/\o.data=.plain
structure Mod(K:B0)(mg:Str->Option Value)(base:Heap):Prop where
 kin:K.In base
 glob:base.Ns mainGlobals mg
 blt:∃mb,base.Ns builtinsNs mb/\∀x:Str,x ≠ "__name__"->mb x=bootBuiltins x
 nolimit:base.NoLimit
 bm:bI mg base
structure Cx where
 prog:Program
 w:World
 K:B0
 mg:Str->Option Value
 base:Heap
 A:Around
 N:List Str
 s₀:Shared
 H₀:Hp
 env:Env
 outer:List Env
 stack:List Env
 ex:List Addr
 fn:Str->Bool
 calm:Bool
 pn:List (Addr×Obj)
 xe:Value->Shared->Prop
noncomputable def UV(l:List Env):List Addr:=l.filterMap (·.frame)
noncomputable abbrev Cx.fs(X:Cx):List Addr:=UV X.outer
def SE(sc:Scope)(x:Str):Prop:=sc.names.lookup x=some .local\/sc.names.lookup x=some .cell\/sc.names.lookup x=some .free
def Dw(sc:Scope)(x:Str):Prop:=sc.names.lookup x=some .local\/sc.names.lookup x=some .cell
def UM(env:Env)(h:Heap)(m:Str->Option Value)(x:Str)(u:Value):Prop:=(env.kindOf x=some .local/\m x=some u)\/((env.kindOf x=some .cell\/env.kindOf x=some .free)/\∃c,env.cells.lookup x=some c/\h.IsCell c (some u))
structure Cx.Ok(X:Cx):Prop where
 mod:Mod X.K X.mg X.base
 kind:X.env.scope.kind=.function
 glob:X.env.globals=mainGlobals
 blt:X.env.builtins=builtinsNs
 above:X.s₀.heap.objs.size<=X.env.locals
 inj:∀x y c,X.env.cells.lookup x=some c->X.env.cells.lookup y=some c->x=y
 has:∀x,(X.env.kindOf x=some .cell\/X.env.kindOf x=some .free)->∃c,X.env.cells.lookup x=some c
 cab:∀x c,X.fn x=true->X.env.cells.lookup x=some c->X.s₀.heap.objs.size<=c
 hd:X.calm=true->X.A.handled=none
 frames:X.A.frames=some X.stack
 stk:X.stack=X.outer\/(X.stack=X.env::X.outer/\X.env.frame=some X.env.locals)
 exf:∀b∈X.ex,b≠X.env.locals/\∀x c,X.env.cells.lookup x=some c->c≠b
 bs:∀b o,X.base.get? b=some o->X.s₀.heap.get? b=some o/\X.H₀ b=none
 bsz:X.base.objs.size<=X.s₀.heap.objs.size
 noex:∀b o,X.base.get? b=some o->b∉X.ex
 exfs:∀b∈X.ex,b∉X.fs
 funs:X.s₀.heap.FunFrames X.base X.outer
 frf:∀b∈X.fs,X.H₀ b=none
structure Inv(X:Cx)(pins:List (Addr×Obj))(σ:List (Option V))(H:Hp)(s:Shared):Prop where
 ok:X.Ok
 os:s.os=X.s₀.os
 bare:AllBare s.gens
 base:Un X.fs X.ex X.H₀ H X.s₀.heap s.heap
 loc:∃m,s.heap.Ns X.env.locals m/\∀(i:Nat) (x:Str) (v:V),X.N[i]?=some x->σ[i]?=some (some v)->SE X.env.scope x->∃u,RelV v u/\UM X.env s.heap m x u
 cell:∀x c,X.env.cells.lookup x=some c->∃v,s.heap.IsCell c v
 free:H X.env.locals=none
 freeC:∀x c,X.env.cells.lookup x=some c->H c=none
 pin:∀p∈X.pn++pins,s.heap.get? p.1=some p.2/\H p.1=none/\p.1≠X.env.locals/\p.1∉X.fs/\∀v,p.2.data≠.cell v
 hok:HOk X.prog X.w H s.heap
 len:σ.length=X.N.length
section
variable {X:Cx}{σ:List (Option V)}{H H':Hp}
def Cx.Ok.nofr(ok:X.Ok){b:Addr}{o:Obj}(e:X.base.get? b=some o):b∉X.fs:=λhb=>by have:=(ok.funs.mem hb).1;rw[e]at this;cases this
def Inv.bs(I:Inv X pins σ H s):∀b o,X.base.get? b=some o->s.heap.get? b=some o/\H b=none:=λb o e=>⟨I.base.keep b o (I.ok.bs b o e).1 (I.ok.bs b o e).2 (I.ok.nofr e) (I.ok.noex b o e),I.base.free b o (I.ok.bs b o e).1 (I.ok.bs b o e).2 (I.ok.noex b o e)⟩
def Inv.bk(I:Inv X pins σ H s):∀b o,X.base.get? b=some o->s.heap.get? b=some o:=λb o e=>(I.bs b o e).1
def Inv.mod(I:Inv X pins σ H s):Mod X.K X.mg X.base:=I.ok.mod
def Inv.kIn(I:Inv X pins σ H s):X.K.In s.heap:=I.ok.mod.kin.keeps I.bk
def Inv.lt(I:Inv X pins σ H s):X.env.locals<s.heap.objs.size:=let ⟨_,hn,_⟩:=I.loc;hn.lt
def Inv.sz(I:Inv X pins σ H s):X.s₀.heap.objs.size<=s.heap.objs.size:=Z1 I.ok.above (B4 I.lt)
def Inv.nofs(I:Inv X pins σ H s){a:Addr}(h:s.heap.objs.size<=a):a∉X.fs:=λhb=>by obtain⟨_,o,ho,_⟩:=I.ok.funs.mem hb;exact absurd (L0 (u0 ho) (Z1 I.sz h)) (U2 _)
def Inv.cne(I:Inv X pins σ H s):∀x c,X.env.cells.lookup x=some c->c≠X.env.locals:=λx c e z=>by obtain⟨v,o,ho,hd⟩:=I.cell x c e;obtain⟨m,⟨o',es,ep,ho',hd',_⟩,_⟩:=I.loc;rw[z,ho']at ho;cases ho;rw[hd']at hd;cases hd
def Inv.funs(I:Inv X pins σ H s):s.heap.FunFrames X.base X.outer:=by
 have all:∀(l:List Env),(∀b∈UV l,b∈X.fs)->X.s₀.heap.FunFrames X.base l->s.heap.FunFrames X.base l:=by
  intro l;induction l with
  |nil=>intro _ _;trivial
  |cons env r ih=>intro hs hl;obtain⟨hk,⟨L,o,hf,hn,ho,hd⟩,hr⟩:=hl;have hL:L∈X.fs:=hs L (by unfold UV;rw[i7,hf];exact R0);obtain⟨sl,e⟩:=I.base.slot L o ho (I.ok.frf L hL) hL λz=>I.ok.exfs L z hL;exact ⟨hk,⟨L,_,hf,hn,e,hd⟩,ih (λb hb=>hs b (by unfold UV;rw[i7,hf];exact K0 _ hb)) hr⟩
 exact all X.outer (λ_ hb=>hb) I.ok.funs
def Inv.stack(I:Inv X pins σ H s):s.heap.FunFrames X.base X.stack:=by
 rcases I.ok.stk with e|⟨e,hf⟩
 .rw[e];exact I.funs
 .rw[e];obtain⟨m,hn,_⟩:=I.loc;refine .cons (by rw[I.ok.kind];decide) hf hn ?_ I.funs;exact Heap.get?_none_of_le (Z1 I.ok.bsz I.ok.above)
def Inv.stkSub(I:Inv X pins σ H s):∀b∈UV X.stack,b∈X.env.locals::X.fs:=λb hb=>by
 rcases I.ok.stk with e|⟨e,hf⟩
 .rw[e]at hb;exact K0 _ hb
 .rw[e]at hb;unfold UV at hb;rw[i7,hf]at hb;exact hb
def Inv.stkFree(I:Inv X pins σ H s):∀b∈UV X.stack,H b=none:=λb hb=>by
 rcases Y0.mp (I.stkSub b hb) with e|hb
 .rw[e];exact I.free
 .obtain⟨_,o,ho,_⟩:=I.ok.funs.mem hb;exact I.base.free b o ho (I.ok.frf b hb) λz=>I.ok.exfs b z hb
def Inv.step(I:Inv X pins σ H s)(hch:∀b∈ch,(b∈X.ex\/X.s₀.heap.objs.size<=b)/\b≠X.env.locals/\(∀x c,X.env.cells.lookup x=some c->c≠b)/\∀p∈X.pn++pins,p.1≠b)(keep:∀b o,b≠X.env.locals->b∉X.fs->b∉ch->s.heap.get? b=some o->H b=none->h'.get? b=some o)(slot:∀b o,b≠X.env.locals->b∈X.fs->b∉ch->s.heap.get? b=some o->H b=none->∃sl,h'.get? b=some {o with slots:=sl}) (free:∀b o,b∉ch->s.heap.get? b=some o->H b=none->H' b=none)(there:∀b o,b∉ch->s.heap.get? b=some o->∃o',h'.get? b=some o')(tups:∀b xs,H b=some (.tup xs)->H' b=some (.tup xs)) (frzs:∀b o u,H b=some (.frz o u)->H' b=some (.frz o u)) (tbls:∀b ps,H b=some (.tbl ps)->∃more,H' b=some (.tbl (ps++more)))(ns:∀m,s.heap.Ns X.env.locals m->h'.Ns X.env.locals m) (hok:HOk X.prog X.w H' h') (hg:AllBare g'):Inv X pins σ H' {s with heap:=h',gens:=g',drawn:=d',toks:=t'}:=by
 have neL:∀b o,X.s₀.heap.get? b=some o->b≠X.env.locals:=λb o e=>N0 (L0 (u0 e) I.ok.above);have neC:∀b o,X.s₀.heap.get? b=some o->b∉X.ex->b∉ch:=λb o e hx hb=>by
  rcases (hch b hb).1 with z|z
  .exact hx z
  .exact absurd (L0 (u0 e) z) (U2 _)
 have cellK:∀x c,X.env.cells.lookup x=some c->∀v,s.heap.IsCell c v->h'.IsCell c v:=λx c e v ⟨o,ho,hd⟩=>by
  have nch:c∉ch:=λz=>(hch c z).2.2.1 x c e rfl;by_cases hc:c∈X.fs
  .obtain⟨sl,q⟩:=slot c o (I.cne x c e) hc nch ho (I.freeC x c e);exact ⟨_,q,hd⟩
  .exact ⟨o,keep c o (I.cne x c e) hc nch ho (I.freeC x c e),hd⟩
 refine ⟨I.ok,I.os,hg,⟨λb o e n hb hx=>?_,λb o e n hb hx=>?_,λb o e n hx=>?_,λb o e hx=>?_,λb xs e=>tups b xs (I.base.tups b xs e),λb o xs e=>frzs b o xs (I.base.frzs b o xs e),λb ps e=>?_⟩,?_,λx c e=>?_,?_,λx c e=>?_,λp hp=>?_,hok,I.len⟩
 .exact keep b o (neL b o e) hb (neC b o e hx) (I.base.keep b o e n hb hx) (I.base.free b o e n hx)
 .obtain⟨sl,e1⟩:=I.base.slot b o e n hb hx;obtain⟨sl',e2⟩:=slot b _ (neL b o e) hb (neC b o e hx) e1 (I.base.free b o e n hx);exact ⟨sl',e2⟩
 .obtain⟨o',e1⟩:=I.base.there b o e hx;exact free b o' (neC b o e hx) e1 (I.base.free b o e n hx)
 .obtain⟨o',e1⟩:=I.base.there b o e hx;exact there b o' (neC b o e hx) e1
 .obtain⟨m1,e1⟩:=I.base.tbls b ps e;obtain⟨m2,e2⟩:=tbls b _ e1;exact ⟨m1++m2,by rw[e2,Array.append_assoc]⟩
 .obtain⟨m,hn,hl⟩:=I.loc;refine ⟨m,ns m hn,λi x v e1 e2 e3=>?_⟩;obtain⟨u,r,l⟩:=hl i x v e1 e2 e3;refine ⟨u,r,?_⟩;rcases l with l|⟨k,c,e,z⟩
  .exact .inl l
  .exact .inr ⟨k,c,e,cellK x c e _ z⟩
 .obtain⟨v,z⟩:=I.cell x c e;exact ⟨v,cellK x c e v z⟩
 .obtain⟨m,⟨o,_,_,ho,_⟩,_⟩:=I.loc;exact free _ o (λz=>(hch _ z).2.1 rfl) ho I.free
 .obtain⟨v,o,ho,hd⟩:=I.cell x c e;exact free c o (λz=>(hch c z).2.2.1 x c e rfl) ho (I.freeC x c e)
 .obtain⟨e,n,ne,nf,d⟩:=I.pin p hp;have nch:p.1∉ch:=λz=>(hch p.1 z).2.2.2 p hp rfl;exact ⟨keep p.1 p.2 ne nf nch e n,free p.1 p.2 nch e n,ne,nf,d⟩
def Inv.un(I:Inv X pins σ H s)(u:Un X.fs [] H H' s.heap h')(hok:HOk X.prog X.w H' h'):Inv X pins σ H' {s with heap:=h',toks:=t'}:=by
 obtain⟨m,⟨o,es,ep,ho,r⟩,_⟩:=id I.loc;obtain⟨sl,hL⟩:=u.any ho I.free (by simp);exact I.step (g':=s.gens) (d':=s.drawn) (ch:=[]) (λ_ z=>nomatch z) (λb o _ hb _ e n=>u.keep b o e n hb (by simp)) (λb o _ hb _ e n=>u.slot b o e n hb (by simp)) (λb o _ e n=>u.free b o e n (by simp)) (λb o _ e=>u.there b o e (by simp)) u.tups u.frzs u.tbls (λm' hm=>by obtain⟨o',es',ep',ho',r'⟩:=hm;rw[ho]at ho';cases ho';exact ⟨_,es',ep',hL,r'⟩) hok I.bare
def Inv.call(I:Inv X pins σ H s)(u:Un (UV X.stack) ch H H' s.heap h')(hok:HOk X.prog X.w H' h')(hg:AllBare g')(hch:∀b∈ch,(b∈X.ex\/X.s₀.heap.objs.size<=b)/\b≠X.env.locals/\(∀x c,X.env.cells.lookup x=some c->c≠b)/\∀p∈X.pn++pins,p.1≠b):Inv X pins σ H' {s with heap:=h',gens:=g',drawn:=d',toks:=t'}:=by
 obtain⟨m,⟨o,es,ep,ho,r⟩,_⟩:=id I.loc;obtain⟨sl,hL⟩:=u.any ho I.free λz=>(hch _ z).2.1 rfl;exact I.step (ch:=ch) hch (λb o hL hb hc e n=>u.keep b o e n (λz=>(Y0.mp (I.stkSub b z)).elim hL hb) hc) (λb o _ _ hc e n=>u.any e n hc) (λb o hc e n=>u.free b o e n hc) (λb o hc e=>u.there b o e hc) u.tups u.frzs u.tbls (λm' hm=>by obtain⟨o',es',ep',ho',r'⟩:=hm;rw[ho]at ho';cases ho';exact ⟨_,es',ep',hL,r'⟩) hok hg
def Inv.turned(I:Inv X pins σ H s)(k:∀b o,b≠it->s.heap.get? b=some o->h'.get? b=some o)(hn:H it=none)(hL:it≠X.env.locals)(h1:it∈X.ex\/X.s₀.heap.objs.size<=it) (h2:∀x c,X.env.cells.lookup x=some c->c≠it) (h3:∀p∈X.pn++pins,p.1≠it):Inv X pins σ H {s with heap:=h',toks:=t'}:=by
 have nit:∀b u,H b=some u->b≠it:=λb u e z=>by rw[z,hn]at e;cases e
 refine I.step (g':=s.gens) (d':=s.drawn) (ch:=[it]) (λb hb=>?_) (λb o _ _ hc e _=>k b o (λz=>hc (by simp[z])) e) (λb o _ _ hc e _=>⟨o.slots,k b o (λz=>hc (by simp[z])) e⟩) (λ_ _ _ _ n=>n)
  (λb o hc e=>⟨o,k b o (λz=>hc (by simp[z])) e⟩) (λ_ _ e=>e) (λ_ _ _ e=>e) (λb ps e=>⟨#[],by rw[e];simp⟩) (λm hm=>?_) (λb u e=>?_) I.bare
 .have e:b=it:=by simpa using hb
  subst e;exact ⟨h1,hL,h2,h3⟩
 .obtain⟨o,es,ep,ho,r⟩:=hm;exact ⟨o,es,ep,k _ o (Y1 hL) ho,r⟩
 .refine (I.hok b u e).stay (λc v hc q=>k c v ?_ q) (λ_ q=>q) λ_ _ q=>q;rcases hc with z|z
  .rw[z];exact nit b u e
  .exact nit c _ z
def Inv.tok(I:Inv X pins σ H s)(t:Nat):Inv X pins σ H {s with toks:=t}:=I.un (h':=s.heap) (t':=t) Un.refl I.hok
def Inv.kept(I:Inv X pins σ H s)(k:∀b u,s.heap.get? b=some u->h'.get? b=some u):Inv X pins σ H {s with heap:=h',toks:=t'}:=I.un (Un.kept k) (I.hok.kept k)
def Inv.laid{a:Addr}{o:HO}(I:Inv X pins σ H s)(k:∀b u,s.heap.get? b=some u->h'.get? b=some u)(hp:s.heap.objs.size<=a)(new:ObjOk X.prog X.w (DQ H a o) h' a o):Inv X pins σ (DQ H a o) {s with heap:=h',toks:=t'}:=I.un (Un.laid k hp (I.hok.fresh hp)) (I.hok.laid k hp new)
def Inv.write{o:HO}(I:Inv X pins σ H s)(mu:aI (H x))(he:e=x\/H e=some (.own x))(k:∀b u,b≠e->s.heap.get? b=some u->h'.get? b=some u)(heo:∃u,h'.get? e=some u)(new:ObjOk X.prog X.w (DQ H x o) h' x o):Inv X pins σ (DQ H x o) {s with heap:=h',toks:=t'}:=I.un (Un.write mu he k heo) (I.hok.write mu he k heo new)
def Inv.pins_of(I:Inv X pins σ H s)(h:∀p∈pins',s.heap.get? p.1=some p.2/\H p.1=none/\p.1≠X.env.locals/\p.1∉X.fs/\∀v,p.2.data≠.cell v):Inv X pins' σ H s:=⟨I.ok,I.os,I.bare,I.base,I.loc,I.cell,I.free,I.freeC,λp hp=>(A3.mp hp).elim (λz=>I.pin p (Y5 _ z)) (h p),I.hok,I.len⟩
def JU(hN:N.Nodup){i j:Nat}{x:Str}(a:N[i]?=some x)(b:N[j]?=some x):i=j:=by obtain⟨h1,e1⟩:=S0.mp a;obtain⟨h2,e2⟩:=S0.mp b;exact (U6 hN).mp (e1.trans e2.symm)
def mV{M:Model}{i:Nat}{x:Str}{v:V}{Q:Unit->Shared->Prop}(I:Inv X pins σ H s)(hN:X.N.Nodup)(hi:X.N[i]?=some x)(hx:Dw X.env.scope x)(r:RelV v u)
  (h:∀s',Inv X pins (σ.set i (some v)) H s'->(∃a,B3 a s.heap s'.heap/\(a=X.env.locals\/X.env.cells.lookup x=some a))->Q () s') (hf:X.fn x=true\/X.env.scope.names.lookup x=some .local:=by first|exact .inl rfl|exact .inr rfl|assumption):wpAny M A (storeName X.env x u) Q E s:=by
 obtain⟨m,hn,hl⟩:=id I.loc;have hcls:(X.env.scope.kind==.class||(X.env.scope.kind==.module&&X.env.locals != X.env.globals))=false:=by rw[I.ok.kind];rfl
 have hiσ:i<σ.length:=by rw[I.len];exact (S0.mp hi).1
 have cne:=I.cne;have tracked:∀{a:Addr}{h':Heap},(∃o,s.heap.get? a=some o/\H a=none)->B3 a s.heap h'->HOk X.prog X.w H h':=λ{a h'} ha hs b ob e=>by
  obtain⟨_,_,hfree⟩:=ha;refine (I.hok b ob e).stay (λc w' hc q=>(hs.2 c ?_).trans q) (λ_ q=>q) λ_ _ q=>q;rintro rfl;rcases hc with rfl|hc
  .rw[hfree]at e;cases e
  .rw[hfree]at hc;cases hc
 rcases hx with hk|hk
 .refine wpAny_storeName_local hk hn (λh' hn' hs=>?_) hcls;obtain⟨oL,_,_,hoL,_⟩:=id hn;refine h _ ⟨I.ok,I.os,I.bare,⟨λb o e n hb hx=>?_,λb o e n hb hx=>?_,I.base.free,λb o e hx=>?_,I.base.tups,I.base.frzs,I.base.tbls⟩,⟨_,hn',λj y v' e1 e2 e3=>?_⟩,λy c e=>?_,I.free,I.freeC,λp hp=>?_,tracked ⟨oL,hoL,I.free⟩ hs,by simpa using I.len⟩ ⟨_,hs,.inl rfl⟩
  .exact (hs.2 b (N0 (L0 (u0 e) I.ok.above))).trans (I.base.keep b o e n hb hx)
  .obtain⟨sl,e1⟩:=I.base.slot b o e n hb hx;exact ⟨sl,(hs.2 b (N0 (L0 (u0 e) I.ok.above))).trans e1⟩
  .obtain⟨o',e1⟩:=I.base.there b o e hx;exact ⟨o',(hs.2 b (N0 (L0 (u0 e) I.ok.above))).trans e1⟩
  .by_cases hj:j=i
   .subst hj;rw[hi]at e1;cases e1;rw[P6 hiσ]at e2;cases e2;exact ⟨u,r,.inl ⟨hk,by simp⟩⟩
   .rw[J1 (Y1 hj)]at e2;obtain⟨u',r',q⟩:=hl j y v' e1 e2 e3;refine ⟨u',r',?_⟩;rcases q with⟨k,e⟩|⟨k,c,e,z⟩
    .refine .inl ⟨k,?_⟩;have:y≠x:=λe=>hj (JU hN e1 (e ▸ hi));simp[this,e]
    .exact .inr ⟨k,c,e,z.sameBut hs (cne y c e)⟩
  .obtain⟨w',z⟩:=I.cell y c e;exact ⟨w',z.sameBut hs (cne y c e)⟩
  .obtain⟨e,n,ne,nf,d⟩:=I.pin p hp;exact ⟨(hs.2 p.1 ne).trans e,n,ne,nf,d⟩
 .have hfn:X.fn x=true:=by
   rcases hf with z|z
   .exact z
   .rw[z]at hk;cases hk
  obtain⟨c,hc⟩:=I.ok.has x (.inl hk);obtain⟨w',z⟩:=I.cell x c hc;refine wpAny_storeName_cell I.ok.kind hk hc z (λh' hc' hs=>?_);obtain⟨oc,hoc,hocd⟩:=id z;refine h {s with heap:=h'} ⟨I.ok,I.os,I.bare,⟨λb o e n hb hx=>?_,λb o e n hb hx=>?_,I.base.free,λb o e hx=>?_,I.base.tups,I.base.frzs,I.base.tbls⟩,⟨m,hn.sameBut hs (Y1 (cne x c hc)),λj y v' e1 e2 e3=>?_⟩,λy c' e=>?_,I.free,I.freeC,λp hp=>?_,tracked ⟨oc,hoc,I.freeC x c hc⟩ hs,by simpa using I.len⟩ ⟨c,hs,.inr hc⟩
  .exact (hs.2 b (N0 (L0 (u0 e) (I.ok.cab x c hfn hc)))).trans (I.base.keep b o e n hb hx)
  .obtain⟨sl,e1⟩:=I.base.slot b o e n hb hx;exact ⟨sl,(hs.2 b (N0 (L0 (u0 e) (I.ok.cab x c hfn hc)))).trans e1⟩
  .obtain⟨o',e1⟩:=I.base.there b o e hx;exact ⟨o',(hs.2 b (N0 (L0 (u0 e) (I.ok.cab x c hfn hc)))).trans e1⟩
  .by_cases hj:j=i
   .subst hj;rw[hi]at e1;cases e1;rw[P6 hiσ]at e2;cases e2;exact ⟨u,r,.inr ⟨.inl hk,c,hc,hc'⟩⟩
   .rw[J1 (Y1 hj)]at e2;obtain⟨u',r',q⟩:=hl j y v' e1 e2 e3;refine ⟨u',r',?_⟩;rcases q with q|⟨k,c',e,z'⟩
    .exact .inl q
    .refine .inr ⟨k,c',e,z'.sameBut hs ?_⟩;rintro rfl;exact hj (JU hN e1 (I.ok.inj _ _ _ e hc ▸ hi))
  .by_cases hcc:c'=c
   .subst hcc;exact ⟨_,hc'⟩
   .obtain⟨w2,z2⟩:=I.cell y c' e;exact ⟨w2,z2.sameBut hs hcc⟩
  .obtain⟨e,n,ne,nf,d⟩:=I.pin p hp;refine ⟨(hs.2 p.1 ?_).trans e,n,ne,nf,d⟩;intro q;rw[q,hoc]at e;have q':oc=p.2:=O1 e;exact d w' (by rw[<-q'];exact hocd)
def pK{M:Model}{i:Nat}{x:Str}{v:V}{Q:Unit->Shared->Prop}(I:Inv X pins σ H s)(hN:X.N.Nodup)(hi:X.N[i]?=some x)(hx:Dw X.env.scope x)(r:RelV v u)
  (h:∀s',Inv X pins (σ.set i (some v)) H s'->Q () s') (hf:X.fn x=true\/X.env.scope.names.lookup x=some .local:=by first|exact .inl rfl|exact .inr rfl|assumption):wpAny M A (storeName X.env x u) Q E s :=
 mV I hN hi hx r (λs' I' _=>h s' I') hf
def Inv.call'(I:Inv X pins σ H s)(ho:s'.os=s.os)(u:Un (UV X.stack) ch H H' s.heap s'.heap)(hok:HOk X.prog X.w H' s'.heap)(hg:AllBare s'.gens)(hch:∀b∈ch,(b∈X.ex\/X.s₀.heap.objs.size<=b)/\b≠X.env.locals/\(∀x c,X.env.cells.lookup x=some c->c≠b)/\∀p∈X.pn++pins,p.1≠b):Inv X pins σ H' s':=by
 obtain⟨h',g',d',t',o'⟩:=s';have e:o'=s.os:=ho;subst e;exact I.call (g':=g') (t':=t') (d':=d') u hok hg hch
end
noncomputable abbrev XK:=Value->Option Addr->Hp->Prop
noncomputable abbrev St:=List (Option V)
noncomputable abbrev VK:=V->Hp->Prop
noncomputable abbrev TE:=St->Hp->VK->Prop
noncomputable abbrev TT:=St->Hp->(Bool->Hp->Prop)->Prop
noncomputable abbrev TA:=St->Hp->(List V->Hp->Prop)->Prop
structure Ends where
 nx:St->Hp->Prop
 rt:VK
 bk:St->Hp->Prop:=λ_ _=>False
 ct:St->Hp->Prop:=λ_ _=>False
noncomputable abbrev TS:=Ends->St->Hp->Prop
def EP(X:Cx)(pins:List (Addr×Obj))(σ:St)(Q:VK)(u:Value)(s':Shared):Prop:=∃v H',Inv X pins σ H' s'/\RelV v u/\Q v H'
def TP(X:Cx)(pins:List (Addr×Obj))(σ:St)(Q:Bool->Hp->Prop)(b:Bool)(s':Shared):Prop:=∃H',Inv X pins σ H' s'/\Q b H'
def AP(X:Cx)(pins:List (Addr×Obj))(σ:St)(Q:List V->Hp->Prop)(us:List Value)(s':Shared):Prop:=∃vs H',Inv X pins σ H' s'/\Vals vs us/\Q vs H'
def SP(X:Cx)(pins:List (Addr×Obj))(D:Ends)(f:Flow)(s':Shared):Prop :=
 match f with
 | .next=>∃σ' H',Inv X pins σ' H' s'/\D.nx σ' H'
 | .brk=>∃σ' H',Inv X pins σ' H' s'/\D.bk σ' H'
 | .cont=>∃σ' H',Inv X pins σ' H' s'/\D.ct σ' H'
 | .ret u=>∃v σ' H',Inv X pins σ' H' s'/\RelV v u/\D.rt v H'
def PE(X:Cx)(e:Expr)(t:TE):Prop:=∀(pins:List (Addr×Obj)) (s:Shared) (σ:St) (H:Hp) (Q:VK),Inv X pins σ H s->t σ H Q->wpAny (model X.prog X.w) X.A (eval e X.env) (EP X pins σ Q) X.xe s
def PT(X:Cx)(e:Expr)(t:TT):Prop:=∀(pins:List (Addr×Obj)) (s:Shared) (σ:St) (H:Hp) (Q:Bool->Hp->Prop),Inv X pins σ H s->t σ H Q->wpAny (model X.prog X.w) X.A (isTrue e X.env (eval e X.env)) (TP X pins σ Q) X.xe s
def PW(X:Cx)(e:Expr)(t:TT):Prop:=∀(whole:Sem Value) (pins:List (Addr×Obj)) (s:Shared) (σ:St) (H:Hp) (Q:Bool->Hp->Prop),Inv X pins σ H s->t σ H Q->wpAny (model X.prog X.w) X.A (isTrue e X.env whole) (TP X pins σ Q) X.xe s
def PW.pt(h:PW X e t):PT X e t:=h _
def PA(X:Cx)(es:List Expr)(t:TA):Prop:=∀(pos:Pos) (pins:List (Addr×Obj)) (s:Shared) (σ:St) (H:Hp) (Q:List V->Hp->Prop),Inv X pins σ H s->t σ H Q->wpAny (model X.prog X.w) X.A (spliced (backTo pos (starEach es X.env))) (AP X pins σ Q) X.xe s
def PS(X:Cx)(st:Stmt)(t:TS):Prop:=∀(pins:List (Addr×Obj)) (s:Shared) (σ:St) (H:Hp) (D:Ends),Inv X pins σ H s->t D σ H->wpAny (model X.prog X.w) X.A (exec st X.env) (SP X pins D) X.xe s
def PSs(X:Cx)(st:List Stmt)(t:TS):Prop:=∀(pins:List (Addr×Obj)) (s:Shared) (σ:St) (H:Hp) (D:Ends),Inv X pins σ H s->t D σ H->wpAny (model X.prog X.w) X.A (execs st X.env) (SP X pins D) X.xe s
def eX{t:Sem α}{Q Q':α->Shared->Prop}(h:wpAny M A t Q E s)(hQ:∀a s,Q a s->Q' a s):wpAny M A t Q' E s:=wpAny_mono h hQ λ_ _ x=>x
section
variable {X:Cx}
def CZ(i:Nat):TE:=λσ H Q=>∃v,σ[i]?=some (some v)/\Q v H
def tC(v:V):TE:=λ_ H Q=>Q v H
def OH{i:Nat}{x:Str}{pos:Pos}(hN:X.N[i]?=some x)(hv:SE X.env.scope x)(hd:(x==("__debug__":Str))=false:=by decide)(hcd:(x==("__classdict__":Str))=false:=by decide):PE X (.Name x pos) (CZ i):=by
 intro pins s σ H Q I h;obtain⟨v,e,h⟩:=h;obtain⟨m,hn,hl⟩:=I.loc;obtain⟨u,r,l⟩:=hl i x v hN e hv;have fin:EP X pins σ Q u s:=⟨v,H,I,r,h⟩;rcases l with⟨hk,hm⟩|⟨hk,c,hc,hcell⟩
 .exact wpAny_Name (wpAny_loadName_local I.ok.kind hk hn hm fin) hd
 .rcases hk with hk|hk
  .exact wpAny_Name (wpAny_loadName_cell I.ok.kind hk hc hcell fin) hd
  .exact wpAny_Name (wpAny_loadName_free I.ok.kind hk hc hcell fin hcd) hd
def PH{i j pos}:PE X (.Constant (.int i) j pos) (tC (.int i)):=λ_ _ _ H _ I h=>wpAny_Constant_int ⟨.int i,H,I.tok _,⟨_,rfl⟩,h⟩
def cI{b j pos}:PE X (.Constant (.bool b) j pos) (tC (.bl b)):=λ_ _ _ H _ I h=>Constant_bool ⟨.bl b,H,I,rfl,h⟩
def WV{x j pos}:PE X (.Constant (.str x) j pos) (tC (.str x)):=λ_ _ _ H _ I h=>Calls.Constant_str ⟨.str x,H,I.tok _,⟨_,rfl⟩,h⟩
def Gl(X:Cx)(x:Str):Prop:=X.env.kindOf x=some .globalImplicit
def XV{σ:St}{H:Hp}{x:Str}{pos:Pos}(I:Inv X pins σ H s)(hg:Gl X x)(hm:X.mg x=some u)(h:Q u s)
  (hd:(x==("__debug__":Str))=false:=by decide):wpAny (model X.prog X.w) X.A (eval (.Name x pos) X.env) Q E s :=
 Calls.Name_function_global I.ok.kind hg (Calls.loadGlobal_global (by rw[I.ok.glob];exact I.mod.glob.keeps I.bk) hm h) hd
def UX{σ:St}{H:Hp}{x:Str}{pos:Pos}(I:Inv X pins σ H s)(hg:Gl X x)(hm:X.mg x=none)(hv:bootBuiltins x=some u)(h:Q u s)
  (hn:x ≠ "__name__":=by decide) (hd:(x==("__debug__":Str))=false:=by decide):wpAny (model X.prog X.w) X.A (eval (.Name x pos) X.env) Q E s:=by
 obtain⟨mb,h1,h2⟩:=I.mod.blt;exact Calls.Name_function_global I.ok.kind hg (Calls.loadGlobal_builtin (by rw[I.ok.glob];exact I.mod.glob.keeps I.bk) hm (by rw[I.ok.blt];exact h1.keeps I.bk) ((h2 x hn).trans hv) h) hd
def Ew{x:Str}{v:V}{pos:Pos}(hg:Gl X x)(hm:X.mg x=some u)(r:RelV v u)(hd:(x==("__debug__":Str))=false:=by decide):PE X (.Name x pos) (tC v):=λ_ _ _ H _ I h=>XV I hg hm ⟨v,H,I,r,h⟩ hd
def JY{x:Str}{v:V}{pos:Pos}(hg:Gl X x)(hm:X.mg x=none)(hv:bootBuiltins x=some u)(r:RelV v u)(hn:x ≠ "__name__":=by decide)(hd:(x==("__debug__":Str))=false:=by decide):PE X (.Name x pos) (tC v):=λ_ _ _ H _ I h=>UX I hg hm hv ⟨v,H,I,r,h⟩ hn hd
variable {a b:Expr}{ta tb:TE}{pos:Pos}
def tB(t:TE):TT:=λσ H Q=>t σ H λx H1=>∃c,x=.bl c/\Q c H1
def K9{e:Expr}{t:TE}(h:PE X e t)(he:∀whole,isTrue e X.env whole=(do let v<-whole;standAt e.pos;holding [v] (truthy v)):=by intro _;rfl):PT X e (tB t):=by intro pins s σ H Q I hw;refine isTrue_plain (eX (h pins s σ H _ I hw) λv s1 ⟨x,H1,I1,r1,q1⟩=>?_) (he _);obtain⟨d,rfl,q⟩:=q1;cases r1;exact wpAny_truthy_bool ⟨H1,I1,q⟩
variable {tA tB':TT}{rest:List Expr}
def L9(t u:TT):TT:=λσ H Q=>t σ H λc H1=>if c=true then u σ H1 Q else Q false H1
def VM(t u:TT):TT:=λσ H Q=>t σ H λc H1=>if c=true then Q true H1 else u σ H1 Q
def M9(t:TT):TT:=λσ H Q=>t σ H λc H1=>Q (!c) H1
def Fw(ha:PT X a tA):PW X (.BoolOp .And [a] pos) tA:=by
 intro wh pins s σ H Q I h;refine isTrue_and (eX (ha pins s σ H Q I h) λc s1 e=>?_);cases c with
 |true=>exact isTrue_and_nil e
 |false=>exact e
def N9(ha:PT X a tA):PW X (.BoolOp .Or [a] pos) tA:=by
 intro wh pins s σ H Q I h;refine isTrue_or (eX (ha pins s σ H Q I h) λc s1 e=>?_);cases c with
 |false=>exact isTrue_or_nil e
 |true=>exact e
def O9(ha:PT X a tA)(hb:PW X (.BoolOp .And (b::rest) pos) tB'):PW X (.BoolOp .And (a::b::rest) pos) (L9 tA tB'):=by
 intro wh pins s σ H Q I h;refine isTrue_and (eX (ha pins s σ H _ I h) λc s1 ⟨H1,I1,q1⟩=>?_);cases c with
 |true=>exact hb wh pins s1 σ H1 Q I1 q1
 |false=>exact ⟨H1,I1,q1⟩
def dI(ha:PT X a tA)(hb:PW X (.BoolOp .Or (b::rest) pos) tB'):PW X (.BoolOp .Or (a::b::rest) pos) (VM tA tB'):=by
 intro wh pins s σ H Q I h;refine isTrue_or (eX (ha pins s σ H _ I h) λc s1 ⟨H1,I1,q1⟩=>?_);cases c with
 |true=>exact ⟨H1,I1,q1⟩
 |false=>exact hb wh pins s1 σ H1 Q I1 q1
def P9(ha:PT X a tA):PT X (.UnaryOp .Not a pos) (M9 tA):=by intro pins s σ H Q I h;exact isTrue_not (ha pins s σ H (λc H1=>Q (!c) H1) I h)
def Az(ta tb:TE):TE:=λσ H Q=>ta σ H λx H1=>∃c,x=.bl c/\if c=true then tb σ H1 Q else Q (.bl false) H1
def Bz(ta:TE):TE:=λσ H Q=>ta σ H λx H1=>∃c,x=.bl c/\Q (.bl (!c)) H1
def Q9(h:PE X a t):PE X (.BoolOp op [a] pos) t:=λpins s σ H Q I hw=>BoolOp_one (h pins s σ H Q I hw)
def R9(ha:PE X a ta)(hb:PE X (.BoolOp .And (b::rest) pos) tb):PE X (.BoolOp .And (a::b::rest) pos) (Az ta tb):=by
 intro pins s σ H Q I h;refine BoolOp_and (eX (ha pins s σ H _ I h) λv s1 ⟨x,H1,I1,r1,q1⟩=>?_);obtain⟨c,rfl,q1⟩:=q1;cases r1;refine wpAny_truthy_bool ?_;cases c with
 |true=>exact hb pins s1 σ H1 Q I1 q1
 |false=>exact ⟨.bl false,H1,I1,rfl,q1⟩
def S9(ha:PE X a ta):PE X (.UnaryOp .Not a pos) (Bz ta):=by intro pins s σ H Q I h;refine UnaryOp_ (eX (ha pins s σ H _ I h) λv s1 ⟨x,H1,I1,r1,q1⟩=>?_);obtain⟨c,rfl,q1⟩:=q1;cases r1;exact not_of (wpAny_truthy_bool ⟨.bl (!c),H1,I1,rfl,q1⟩)
def WM(t:TT)(ta tb:TE):TE:=λσ H Q=>t σ H λc H1=>if c=true then ta σ H1 Q else tb σ H1 Q
def Cz(hc:PT X c tA)(ha:PE X a ta)(hb:PE X b tb):PE X (.IfExp c a b pos) (WM tA ta tb):=by
 intro pins s σ H Q I h;refine wpAny_IfExp (eX (hc pins s σ H _ I h) λd s1 ⟨H1,I1,q1⟩=>?_);cases d with
 |true=>exact ha pins s1 σ H1 Q I1 q1
 |false=>exact hb pins s1 σ H1 Q I1 q1
end
def SqL(K:B0)(H:Hp)(a:Addr)(xs:List V):Prop :=
 Rd H a (.lst xs) \/
  ∃(o:Obj) (its:Array Value) (n:Nat),K.lookup a=some o/\o.cls=.type "list"/\o.dict=none/\o.data=.seq its n/\its.size<=sizeLine/\Vals xs its.toList
def SqT(K:B0)(H:Hp)(a:Addr)(xs:List V):Prop :=
 Rd H a (.tup xs) \/
  ∃(o:Obj) (its:Array Value) (n:Nat),K.lookup a=some o/\o.cls=.type "tuple"/\o.data=.seq its n/\its.size<=sizeLine/\Vals xs its.toList
noncomputable def XM:Value->Option V
 | .none=>some .non
 | .bool b=>some (.bl b)
 | .int i _=>some (.int i)
 | .str x _=>some (.str x)
 | .bytes b _=>some (.byt b)
 | .float b _=>some (.flt b)
 | .ref a=>some (.ref a)
 | .type n=>some (.ty n)
 |_=>none
def RelV.abs(r:RelV x u):XM u=some x:=by
 cases x with
 |non=>cases r;rfl
 |bl _=>cases r;rfl
 |int _=>obtain⟨t,rfl⟩:=r;rfl
 |str _=>obtain⟨t,rfl⟩:=r;rfl
 |byt _=>obtain⟨t,rfl⟩:=r;rfl
 |flt _=>obtain⟨t,rfl⟩:=r;rfl
 |ref _=>cases r;rfl
 |ty _=>cases r;rfl
def RelV.inj{y:V}(r:RelV x u)(q:RelV y u):x=y:=O1 (r.abs.symm.trans q.abs)
theorem Vals.inj:∀{xs ys:List V}{us:List Value},Vals xs us->Vals ys us->xs=ys
 |_,_,_,.nil,.nil=>rfl
 |_,_,_,.cons r t,.cons r' t'=>by rw[r.inj r',Vals.inj t t']
section
variable {X:Cx}{σ:St}{H:Hp}{a:Addr}{xs ys:List V}
def SqL.of{K:B0}(h:H a=some (.lst xs)):SqL K H a xs:=.inl (.inl h)
def SqT.of{K:B0}(h:H a=some (.tup xs)):SqT K H a xs:=.inl (.inl h)
def Inv.list(I:Inv X pins σ H s)(h:SqL X.K H a xs):∃its:List Value,Vals xs its/\PlainL s.heap a its.toArray/\xs.length<=sizeLine:=by
 rcases h with h|⟨o,its,n,hk,hc,hd,hs,hz,r⟩
 .obtain⟨z,its,n,r,e⟩:=h.ok I.hok;exact ⟨its,r,⟨_,n,e,rfl,rfl,rfl⟩,z⟩
 .refine ⟨its.toList,r,⟨o,n,I.kIn a o hk,hc,hd,by simpa using hs⟩,?_⟩;have e:=r.length;simp only[P0]at e;lia
def Inv.tuple(I:Inv X pins σ H s)(h:SqT X.K H a xs):∃its:List Value,Vals xs its/\IsTup s.heap a its.toArray/\xs.length<=sizeLine:=by
 rcases h with h|⟨o,its,n,hk,hc,hs,hz,r⟩
 .obtain⟨z,its,r,p⟩:=h.ok I.hok;exact ⟨its,r,p.t,z⟩
 .refine ⟨its.toList,r,⟨o,I.kIn a o hk,hc,n,by simpa using hs⟩,?_⟩;have e:=r.length;simp only[P0]at e;lia
def Inv.list_inj(I:Inv X pins σ H s)(h:SqL X.K H a xs)(h':SqL X.K H a ys):xs=ys:=by
 obtain⟨its,r,⟨o,n,e,_,_,d⟩,_⟩:=I.list h;obtain⟨its',r',⟨o',n',e',_,_,d'⟩,_⟩:=I.list h';rw[e]at e';cases e';rw[d]at d';injection d' with d1 _;have:its=its':=by simpa using congrArg Array.toList d1
 subst this;exact r.inj r'
def Inv.tuple_inj(I:Inv X pins σ H s)(h:SqT X.K H a xs)(h':SqT X.K H a ys):xs=ys:=by
 obtain⟨its,r,⟨o,e,_,n,d⟩,_⟩:=I.tuple h;obtain⟨its',r',⟨o',e',_,n',d'⟩,_⟩:=I.tuple h';rw[e]at e';cases e';rw[d]at d';injection d' with d1 _;have:its=its':=by simpa using congrArg Array.toList d1
 subst this;exact r.inj r'
end
noncomputable abbrev Cx.wish(X:Cx)(E:Value->Shared->Prop):Cx:={X with xe:=E}
noncomputable abbrev Cx.nox(X:Cx):Cx:=X.wish λ_ _=>False
def Cx.Ok.wish{X:Cx}(ok:X.Ok)(E:Value->Shared->Prop):(X.wish E).Ok:=⟨ok.mod,ok.kind,ok.glob,ok.blt,ok.above,ok.inj,ok.has,ok.cab,ok.hd,ok.frames,ok.stk,ok.exf,ok.bs,ok.bsz,ok.noex,ok.exfs,ok.funs,ok.frf⟩
def Cx.Ok.unwish{X:Cx}(ok:(X.wish E).Ok):X.Ok:=⟨ok.mod,ok.kind,ok.glob,ok.blt,ok.above,ok.inj,ok.has,ok.cab,ok.hd,ok.frames,ok.stk,ok.exf,ok.bs,ok.bsz,ok.noex,ok.exfs,ok.funs,ok.frf⟩
section
variable {X:Cx}{σ:St}{H:Hp}
def Inv.wish(I:Inv X pins σ H s)(E:Value->Shared->Prop):Inv (X.wish E) pins σ H s:=⟨I.ok.wish E,I.os,I.bare,I.base,I.loc,I.cell,I.free,I.freeC,I.pin,I.hok,I.len⟩
def Inv.unwish(I:Inv (X.wish E) pins σ H s):Inv X pins σ H s:=⟨I.ok.unwish,I.os,I.bare,I.base,I.loc,I.cell,I.free,I.freeC,I.pin,I.hok,I.len⟩
def SP.unwish(h:SP (X.wish E) pins D f s'):SP X pins D f s':=by
 cases f with
 |next=>obtain⟨σ',H',I,q⟩:=h;exact ⟨σ',H',I.unwish,q⟩
 |brk=>obtain⟨σ',H',I,q⟩:=h;exact ⟨σ',H',I.unwish,q⟩
 |cont=>obtain⟨σ',H',I,q⟩:=h;exact ⟨σ',H',I.unwish,q⟩
 |ret u=>obtain⟨v,σ',H',I,r,q⟩:=h;exact ⟨v,σ',H',I.unwish,r,q⟩
def PSs.nox{st:List Stmt}(h:PSs X.nox st t):PSs X st t:=λpins s σ H D I hw=>wpAny_mono (h pins s σ H D (I.wish _) hw) (λ_ _ q=>q.unwish) λ_ _ z=>False.elim z
end
section
variable {X:Cx}{st:Stmt}{rest:List Stmt}{t u:TS}{e:Expr}{te:TE}{pos:Pos}
def Dz:TS:=λD σ H=>D.nx σ H
def T9(t u:TS):TS:=λD σ H=>t {D with nx:=u D} σ H
def Gw:PSs X [] Dz:=λ_ _ σ H _ I h=>wpAny_execs_nil ⟨σ,H,I,h⟩
def Ez(h1:PS X st t)(h2:PSs X rest u):PSs X (st::rest) (T9 t u):=by
 intro pins s σ H D I h;refine wpAny_execs_cons (eX (h1 pins s σ H {D with nx:=u D} I h) λf s1 q=>?_);cases f with
 |next=>obtain⟨σ',H',I',q⟩:=q;exact h2 pins s1 σ' H' D I' q
 |ret v=>exact q
 |brk=>exact q
 |cont=>exact q
def Hw(h1:PS X st t):PSs X [st] t:=by
 intro pins s σ H D I h;refine wpAny_execs_cons (eX (h1 pins s σ H D I h) λf s1 q=>?_);cases f with
 |next=>exact wpAny_execs_nil q
 |ret v=>exact q
 |brk=>exact q
 |cont=>exact q
def Inv.quiet{σ:St}(I:Inv X pins σ H s):interactive X.env=false:=by simp[interactive,I.ok.kind]
def Fz(te:TE):TS:=λD σ H=>te σ H λ_ H1=>D.nx σ H1
def Iw(he:PE X e te)(hs:swapsWith e none pos.line X.env=pure false:=by rfl):PS X (.Expr e pos) (Fz te):=by intro pins s σ H D I h;exact wpAny_Expr_any (eX (he pins s σ H _ I h) λv s1 ⟨x,H1,I1,r1,q1⟩=>⟨σ,H1,I1,q1⟩) I.quiet hs
def Gz(te:TE):TS:=λD σ H=>te σ H D.rt
def Hz(he:PE X e te):PS X (.Return (some e) pos) (Gz te):=by intro pins s σ H D I h;exact wpAny_Return_some (eX (he pins s σ H _ I h) λv s1 ⟨x,H1,I1,r1,q1⟩=>⟨x,σ,H1,I1,r1,q1⟩)
def U9(c:TT)(t u:TS):TS:=λD σ H=>c σ H λb H1=>if b=true then t D σ H1 else u D σ H1
def eI(hc:PT X c tc)(ha:PSs X a t)(hb:PSs X b u):PS X (.If c a b pos) (U9 tc t u):=by
 intro pins s σ H D I h;refine wpAny_If (eX (hc pins s σ H _ I h) λd s1 ⟨H1,I1,q1⟩=>?_);cases d with
 |true=>exact ha pins s1 σ H1 D I1 q1
 |false=>exact hb pins s1 σ H1 D I1 q1
end
noncomputable abbrev TG:=V->St->Hp->(St->Hp->Prop)->Prop
noncomputable abbrev tw:=List V->St->Hp->(St->Hp->Prop)->Prop
def PG(X:Cx)(target:Expr)(t:TG):Prop :=
 ∀(pins:List (Addr×Obj)) (s:Shared) (σ:St) (H:Hp) (v:V) (u:Value) (Q:St->Hp->Prop),Inv X pins σ H s->RelV v u->t v σ H Q ->
  wpAny (model X.prog X.w) X.A (assign target X.env u) (λ_ s'=>∃σ' H',Inv X pins σ' H' s'/\Q σ' H') X.xe s
def ju(X:Cx)(ts:List Expr)(t:tw):Prop :=
 ∀(pins:List (Addr×Obj)) (s:Shared) (σ:St) (H:Hp) (vs:List V) (us:List Value) (Q:St->Hp->Prop),Inv X pins σ H s->Vals vs us->t vs σ H Q ->
  wpAny (model X.prog X.w) X.A (assignInOrder ((assignEach ts X.env).map (·.2)) us) (λ_ s'=>∃σ' H',Inv X pins σ' H' s'/\Q σ' H') X.xe s
noncomputable abbrev V9:=V->V->V->Hp->(Hp->Prop)->Prop
def gI(X:Cx)(t:V9):Prop :=
 ∀(pins:List (Addr×Obj)) (s:Shared) (σ:St) (H:Hp) (o i v:V) (ov iv u:Value) (Q:Hp->Prop),Inv X pins σ H s->RelV o ov->RelV i iv->RelV v u->t o i v H Q ->
  wpAny (model X.prog X.w) X.A (setItem ov iv u) (λ_ s'=>∃H',Inv X pins σ H' s'/\Q H') X.xe s
section
variable {X:Cx}{pos:Pos}
def oJ(i:Nat):TG:=λv σ H Q=>Q (σ.set i (some v)) H
def Jw{i:Nat}{x:Str}(hN:X.N.Nodup)(hi:X.N[i]?=some x)(hx:Dw X.env.scope x)(hf:X.fn x=true\/X.env.scope.names.lookup x=some .local:=by first|exact .inl rfl|exact .inr rfl|assumption):PG X (.Name x pos) (oJ i):=by intro pins s σ H v u Q I r h;exact wpAny_assign_Name (pK I hN hi hx r (λs' I'=>⟨_,H,I',h⟩) hf)
noncomputable def iI:tw:=λvs σ H Q=>vs=[]/\Q σ H
noncomputable def ku(t:TG)(u:tw):tw:=λvs σ H Q=>∃v r,vs=v::r/\t v σ H λσ' H'=>u r σ' H' Q
def Kw:ju X [] iI:=by intro pins s σ H vs us Q I r h;obtain⟨e,h⟩:=h;subst e;cases r;exact assignInOrder_nil ⟨σ,H,I,h⟩
def Iz{e:Expr}{es:List Expr}{t:TG}{u:tw}(h1:PG X e t)(h2:ju X es u)
  (hs:(assignEach (e::es) X.env).map (·.2)=assign e X.env::(assignEach es X.env).map (·.2):=by rfl):ju X (e::es) (ku t u):=by
 intro pins s σ H vs us Q I r h;obtain⟨v,vr,e1,h⟩:=h;subst e1;cases r with
 |cons r rr=>rw[hs];refine assignInOrder_cons (eX (h1 pins s σ H _ _ _ I r h) λ_ s1 ⟨σ1,H1,I1,q1⟩=>?_);exact h2 pins s1 σ1 H1 _ _ Q I1 rr q1
def Lw(K:B0)(n:Nat)(t:tw):TG:=λv σ H Q=>∃a xs,v=.ref a/\SqT K H a xs/\xs.length=n/\t xs σ H Q
def W9{es:List Expr}{k:Nat}{t:tw}(hc:X.calm=true)(h:ju X es t)
  (hn:(assignEach es X.env).length=n:=by rfl) (hst:(assignEach es X.env).findIdx? (·.1)=none:=by rfl):PG X (.Tuple es k pos) (Lw X.K n t):=by
 intro pins s σ H v u Q I r hw;obtain⟨a,xs,e1,hq,hl,hw⟩:=hw;subst e1;cases r;obtain⟨its,rv,ht,hz⟩:=I.tuple hq;refine assign_Tuple_tuple (I.ok.hd hc) ht (by simp[hn,<-hl,rv.length]) hst λh' hx=>?_;have I1:Inv X pins σ H {s with heap:=h'}:=I.kept (t':=s.toks) λb o e=>hx b o (N0 (u0 e)) e;exact h pins _ σ H xs _ Q I1 (by simpa using rv) hw
def X9(to ti:TE)(t:V9):TG:=λv σ H Q=>to σ H λo H1=>ti σ H1 λi H2=>t o i v H2 λH3=>Q σ H3
theorem Y9{o i:Expr}{to ti:TE}{t:V9}(ho:PE X o to)(hi:PE X i ti)(hs:gI X t)
  (ha:∀v,assign (.Subscript o i pos) X.env v=(do
    let ov<-holding [v] (eval o X.env)
    let iv<-holding [v,ov] (eval i X.env)
    standAt pos
    holding [v,ov,iv] (setItem ov iv v)
    release [v,ov,iv] []):=by intro _;rfl):PG X (.Subscript o i pos) (X9 to ti t):=by
 intro pins s σ H v u Q I r h;rw[ha];refine wpAny_bind (wpAny_holding (eX (ho pins s σ H _ I h) λov s1 ⟨x,H1,I1,r1,q1⟩=>?_));refine wpAny_bind (wpAny_holding (eX (hi pins s1 σ H1 _ I1 q1) λiv s2 ⟨y,H2,I2,r2,q2⟩=>?_));refine wpAny_bind (wpAny_standAt (wpAny_bind (wpAny_holding (eX (hs pins s2 σ H2 x y v ov iv u _ I2 r1 r2 r q2) λ_ s3 ⟨H3,I3,q3⟩=>?_))));exact wpAny_release ⟨σ,H3,I3,q3⟩
def UK(te:TE)(g:TG):TS:=λD σ H=>te σ H λx H1=>g x σ H1 D.nx
def Jz{e:Expr}{te:TE}{g:TG}(he:PE X e te)(hg:PG X tg g)(hs:swapsWithSole [tg] e pos.line X.env=pure false:=by rfl)(hw:swappedStores [tg] e X.env=pure none:=by rfl)
  (h1:(assignEach [tg] X.env).map (·.2)=[assign tg X.env]:=by rfl):PS X (.Assign [tg] e pos) (UK te g):=by
 intro pins s σ H D I h;refine wpAny_Assign_stores (eX (he pins s σ H _ I h) λv s1 ⟨x,H1,I1,r1,q1⟩=>?_) hs hw;rw[h1];exact eX (hg pins s1 σ H1 x v _ I1 r1 q1) λ_ s2 q=>q
def QH{i:Nat}{x:Str}{e:Expr}{te:TE}(hN:X.N.Nodup)(hi:X.N[i]?=some x)(hx:Dw X.env.scope x)(he:PE X e te)(hs:swapsWith e (some (.Name x pos')) pos.line X.env=pure false:=by rfl)(hf:X.fn x=true\/X.env.scope.names.lookup x=some .local:=by first|exact .inl rfl|exact .inr rfl|assumption) :
  PS X (.Assign [.Name x pos'] e pos) (UK te (oJ i)):=by
 intro pins s σ H D I h;refine wpAny_Assign_Name (eX (he pins s σ H _ I h) λv s1 ⟨y,H1,I1,r1,q1⟩=>?_) hs;exact pK I1 hN hi hx r1 (λs2 I2=>⟨_,H1,I2,q1⟩) hf
def jI(i j:Nat)(ta:TA):TS:=λD σ H=>ta σ H λvs H1=>∃v w,vs=[v,w]/\D.nx ((σ.set i (some v)).set j (some w)) H1
theorem Z9{i j:Nat}{x:Str}{a b:Expr}{ta:TA}{px py pt:Pos}{kt k2 pt2}(hc:X.calm=true)(hN:X.N.Nodup)(hi:X.N[i]?=some x)(hj:X.N[j]?=some y)(hij:i≠j)
  (hx:X.env.scope.names.lookup x=some .local) (hy:X.env.scope.names.lookup y=some .local) (ha:PA X [a,b] ta)
  (hw:swappedStores [.Tuple [.Name x px,.Name y py] kt pt] (.Tuple [a,b] k2 pt2) X.env=pure (some [x,y]))
  (hs:swapsWithSole [.Tuple [.Name x px,.Name y py] kt pt] (.Tuple [a,b] k2 pt2) pos.line X.env=pure false:=by rfl) :
  PS X (.Assign [.Tuple [.Name x px,.Name y py] kt pt] (.Tuple [a,b] k2 pt2) pos) (jI i j ta):=by
 intro pins s σ H D I h;rw[exec_Assign_arm];refine wpAny_bind (wpAny_standAt ?_);rw[hs];refine wpAny_bind (wpAny_pure ?_);rw[if_neg (by decide)];refine wpAny_bind (Tuple_ (eX (ha _ pins s σ H _ I h) λus s1 ⟨vs,H1,I1,r1,q1⟩=>?_));obtain⟨v,w,e1,q1⟩:=q1;subst e1;obtain⟨u1,u2,rfl,rv,rw'⟩:∃u1 u2,us=[u1,u2]/\RelV v u1/\RelV w u2:=by
  cases r1 with
  |cons p q =>
   cases q with
   |cons p' q'=>cases q';exact ⟨_,_,rfl,p,p'⟩
 refine wpAny_newObj_type ?_ (by show 2<=sizeLine;decide);have I2:Inv X pins σ H1 {s1 with heap:=s1.heap.push {cls:=.type "tuple",data:=.seq [u1,u2].toArray}}:=I1.kept (t':=s1.toks) λb o e=>i0 _ e;rw[hw];refine wpAny_bind (wpAny_pure ?_);show wpAny (model X.prog X.w) X.A (do rule "assign.swapped-stores";let items<-unpackItems (.ref s1.heap.objs.size) 2 none;assignInOrder [λv=>bindName X.env y v,λv=>bindName X.env x v] items.reverse;pure Flow.next) _ _ _;refine wpAny_bind (wpAny_rule (wpAny_bind (unpackItems_tuple (items:=#[u1,u2]) (I.ok.hd hc) (IsTup.new s1.heap _) λh' hx'=>?_)));have I3:=I2.kept (h':=h') (t':=s1.toks) λb o e=>hx' b o (N0 (u0 e)) e;show wpAny _ _ (assignInOrder [λv=>bindName X.env y v,λv=>bindName X.env x v] [u2,u1] >>= λ_=>pure Flow.next) _ _ _;refine wpAny_bind (assignInOrder_cons (wpAny_bindName (pK I3 hN hj (.inl hy) rw' (λs2 I4=>?_) (.inr hy))));refine assignInOrder_cons (wpAny_bindName (pK I4 hN hi (.inl hx) rv (λs3 I5=>assignInOrder_nil (wpAny_pure ?_)) (.inr hx)));rw[List.set_comm _ _ (Y1 hij)]at I5;exact ⟨_,H1,I5,q1⟩
end
section
variable {X:Cx}{pos:Pos}
end
structure It where
 go:Nat->Hp->Prop
 yld:Nat->Hp->V->Hp->Prop
 stop:Nat->Hp->Prop
def DY(X:Cx)(pins:List (Addr×Obj))(H:Hp)(b:Addr):Prop:=H b=none/\b≠X.env.locals/\b∉X.fs/\(b∈X.ex\/X.s₀.heap.objs.size<=b)/\(∀x c,X.env.cells.lookup x=some c->c≠b)/\∀p∈X.pn++pins,p.1≠b
def Inv.fpOk{σ:St}{b:Addr}(I:Inv X pins σ H s)(hb:s.heap.objs.size<=b)(hn:H' b=none):DY X pins H' b:=by
 refine ⟨hn,N1 (L0 I.lt hb),I.nofs hb,.inr (Z1 I.sz hb),λx c e z=>?_,λp hp z=>?_⟩
 .obtain⟨v,q⟩:=I.cell x c e;exact absurd (L0 q.lt (by rw[z];exact hb)) (U2 _)
 .exact absurd (L0 (u0 (I.pin p hp).1) (by rw[z];exact hb)) (U2 _)
structure Turn(P:Program)(w:World)(K:B0)(tg:Expr)(J:It)(fp:List Addr)(it:Addr)(tn:Nat->Heap->Prop):Prop where
 mem:it∈fp
 obj:∀i h,tn i h->∀b∈fp,∃o,h.get? b=some o/\∀v,o.data≠.cell v
 keep:∀i h h',tn i h->(∀b∈fp,∀o,h.get? b=some o->h'.get? b=some o)->tn i h'
 item:∀(X:Cx),X.prog=P->X.w=w->X.K=K->X.calm=true->∀(i:Nat) (pins:List (Addr×Obj)) (s:Shared) (σ:St) (H:Hp) (E:Value->Shared->Prop),Inv X pins σ H s->(∀b∈fp,DY X pins H b)->tn i s.heap->J.go i H ->
  wpAny (model P w) X.A (pyNext (.ref it)) (λr s1=>∃u,r=some u /\
    wpAny (model P w) X.A (letOwnedTupleGo tg (.ref it) u) (λ_ s2=>∃x H',Inv X pins σ H' s2/\RelV x u/\J.yld i H x H'/\tn (i+1) s2.heap/\∀b∈fp,H' b=none) E s1) E s
 done:∀(X:Cx),X.prog=P->X.w=w->X.K=K->X.calm=true->∀(i:Nat) (pins:List (Addr×Obj)) (s:Shared) (σ:St) (H:Hp) (E:Value->Shared->Prop),Inv X pins σ H s->(∀b∈fp,DY X pins H b)->tn i s.heap->J.stop i H ->
  wpAny (model P w) X.A (pyNext (.ref it)) (λr s1=>r=none/\Inv X pins σ H s1) E s
 self:∀(A:Around) (i:Nat) (s:Shared) (Q:Value->Shared->Prop) (E:Value->Shared->Prop),tn i s.heap->Q (.ref it) s->wpAny (model P w) A (pyIter (.ref it)) Q E s
noncomputable abbrev TI:=St->Hp->(It->Hp->Prop)->Prop
def dO(X:Cx)(pins:List (Addr×Obj))(σ:St)(tg:Expr)(R:It->Hp->Prop)(itv:Value)(s2:Shared):Prop:=∃(it:Addr) (fp:List Addr) (tn:Nat->Heap->Prop) (J:It) (H':Hp),itv=.ref it/\Inv X pins σ H' s2/\Turn X.prog X.w X.K tg J fp it tn/\tn 0 s2.heap/\(∀b∈fp,DY X pins H' b)/\R J H'
def PI(X:Cx)(tg iter:Expr)(wi:TI):Prop :=
 ∀(pins:List (Addr×Obj)) (s:Shared) (σ:St) (H:Hp) (R:It->Hp->Prop),Inv X pins σ H s->wi σ H R ->
  wpAny (model X.prog X.w) X.A (eval iter X.env) (λv s1=>wpAny (model X.prog X.w) X.A (pyIter v) (dO X pins σ tg R) X.xe s1) X.xe s
def rF{n:String}{Q:Unit->Shared->Prop}(ho:s.heap.get? it=some o)(hc:o.cls=.type n)(hd:o.data=.fields vs)(hn:["enumerate","zip","dict_itemiterator","dict_reverseitemiterator","odict_iterator","itertools.zip_longest","itertools.pairwise"].contains n=false) (hQ:Q () s):wpAny M A (letOwnedTupleGo tg (.ref it) u) Q E s:=by
 unfold letOwnedTupleGo;cases tg<;>first
  |exact wpAny_pure hQ
  | (cases u<;>first
      |exact wpAny_pure hQ
      | (refine wpAny_bind (wpAny_load ho ?_)
         rw[hc,hd];show wpAny M A (if (["enumerate","zip","dict_itemiterator","dict_reverseitemiterator","odict_iterator","itertools.zip_longest","itertools.pairwise"].contains n&&vs[0]?==some (rawInt _))=true then _ else _) Q E s;rw[if_neg (by intro h;rw[hn,x8]at h;cases h)];exact wpAny_pure hQ))
noncomputable def YM(K:B0)(a:Addr):It:=⟨λi H=>∃xs x,SqL K H a xs/\xs[i]?=some x,λi H x H'=>H'=H/\∀xs,SqL K H a xs->xs[i]?=some x,λi H=>∃xs,SqL K H a xs/\xs.length<=i⟩
noncomputable def ZM(K:B0)(a:Addr):It:=⟨λi H=>∃xs x,SqT K H a xs/\xs[i]?=some x,λi H x H'=>H'=H/\∀xs,SqT K H a xs->xs[i]?=some x,λi H=>∃xs,SqT K H a xs/\xs.length<=i⟩
noncomputable def kI(lo:Int)(n:Nat):It:=⟨λi _=>i<n,λi H x H'=>H'=H/\x=.int (lo+i),λi _=>n<=i⟩
def XD{K:B0}(a it:Addr):Turn P w K tg (YM K a) [it] it (λi h=>h.IsListIter it a i) where
 mem:=by simp
 obj:=λi h st b hb=>by
  have e:b=it:=by simpa using hb
  subst e;obtain⟨o,e,c,d⟩:=st;exact ⟨o,e,λv z=>by rw[d]at z;cases z⟩
 keep:=λi h h' st k=>st.at λo e=>k it (by simp) o e
 item:=by intro X hP hw hK hc i pins s σ H E I hf st hg;subst hP hw hK;obtain⟨xs,x,hq,hx⟩:=hg;obtain⟨its,rv,p,hz⟩:=I.list hq;obtain⟨u,hu,ru⟩:=rv.get hx;obtain⟨f0,f1,f2,f3,f4,f5⟩:=hf it (by simp);refine wpAny_pyNext_list_item st p.isList (x:=u) (by simpa using hu) λh' st' sb=>?_;have I1:Inv X pins σ H {s with heap:=h'}:=I.turned (t':=s.toks) (λb o hb e=>(sb.2 b hb).trans e) f0 f1 f3 f4 f5;obtain⟨o,e,c,d⟩:=id st';exact ⟨u,rfl,rF (s:={s with heap:=h'}) e c d (by decide) ⟨x,H,I1,ru,⟨rfl,λys hy=>by rw[I.list_inj hy hq];exact hx⟩,st',λb hb=>(hf b hb).1⟩⟩
 done:=by intro X hP hw hK hc i pins s σ H E I hf st hg;subst hP hw hK;obtain⟨xs,hq,hx⟩:=hg;obtain⟨its,rv,p,hz⟩:=I.list hq;obtain⟨f0,f1,f2,f3,f4,f5⟩:=hf it (by simp);have hl:=rv.length;exact wpAny_pyNext_list_end (I.ok.hd hc) st p.isList (by simp;lia) λh' eb=>⟨rfl,I.turned (t':=s.toks) (λb o hb e=>eb b o hb e) f0 f1 f3 f4 f5⟩
 self:=λ_ _ _ _ _ st h=>wpAny_pyIter_listiter st h
def SH{K:B0}(a it:Addr):Turn P w K tg (ZM K a) [it] it (λi h=>h.IsTupleIter it a i) where
 mem:=by simp
 obj:=λi h st b hb=>by
  have e:b=it:=by simpa using hb
  subst e;obtain⟨o,e,c,d⟩:=st;exact ⟨o,e,λv z=>by rw[d]at z;cases z⟩
 keep:=λi h h' st k=>st.at λo e=>k it (by simp) o e
 item:=by intro X hP hw hK hc i pins s σ H E I hf st hg;subst hP hw hK;obtain⟨xs,x,hq,hx⟩:=hg;obtain⟨its,rv,p,hz⟩:=I.tuple hq;obtain⟨u,hu,ru⟩:=rv.get hx;obtain⟨f0,f1,f2,f3,f4,f5⟩:=hf it (by simp);refine wpAny_pyNext_tuple_item st (show s.heap.IsTuple a its.toArray from p) (x:=u) (by simpa using hu) λh' st' sb=>?_;have I1:Inv X pins σ H {s with heap:=h'}:=I.turned (t':=s.toks) (λb o hb e=>(sb.2 b hb).trans e) f0 f1 f3 f4 f5;obtain⟨o,e,c,d⟩:=id st';exact ⟨u,rfl,rF (s:={s with heap:=h'}) e c d (by decide) ⟨x,H,I1,ru,⟨rfl,λys hy=>by rw[I.tuple_inj hy hq];exact hx⟩,st',λb hb=>(hf b hb).1⟩⟩
 done:=by intro X hP hw hK hc i pins s σ H E I hf st hg;subst hP hw hK;obtain⟨xs,hq,hx⟩:=hg;obtain⟨its,rv,p,hz⟩:=I.tuple hq;obtain⟨f0,f1,f2,f3,f4,f5⟩:=hf it (by simp);have hl:=rv.length;exact wpAny_pyNext_tuple_end (I.ok.hd hc) st (show s.heap.IsTuple a its.toArray from p) (by simp;lia) λh' eb=>⟨rfl,I.turned (t':=s.toks) (λb o hb e=>eb b o hb e) f0 f1 f3 f4 f5⟩
 self:=λ_ _ _ _ _ st h=>wpAny_pyIter_tupleiter st h
def TH{K:B0}(it:Addr)(lo:Int)(n:Nat):Turn P w K tg (kI lo n) [it] it (λi h=>IsRangeIter h it (lo+(i:Nat)*1) ((n:Int)-(i:Nat)) 1) where
 mem:=by simp
 obj:=λi h st b hb=>by
  have e:b=it:=by simpa using hb
  subst e;exact ⟨_,st,λv z=>by have z':Data.fields _=Data.cell v:=z;cases z'⟩
 keep:=λi h h' st k=>k it (by simp) _ st
 item:=by intro X hP hw hK hc i pins s σ H E I hf st hg;subst hP hw hK;obtain⟨f0,f1,f2,f3,f4,f5⟩:=hf it (by simp);have W:=Walks.range (prog:=X.prog) (w:=X.w) (I.ok.hd hc) it lo 1 n;refine W.item i s _ _ hg st λv h' tk hv st' kk=>?_;obtain⟨t,rfl⟩:=hv;have I1:Inv X pins σ H {s with heap:=h',toks:=tk}:=I.turned (λb o hb e=>kk b o (by simpa using hb) e) f0 f1 f3 f4 f5;refine ⟨_,rfl,rF (s:={s with heap:=h',toks:=tk}) (n:="range_iterator") st' rfl rfl (by decide) ⟨.int (lo+i),H,I1,⟨t,?_⟩,⟨rfl,rfl⟩,st',λb hb=>(hf b hb).1⟩⟩;rw[v8]
 done:=by intro X hP hw hK hc i pins s σ H E I hf st hg;subst hP hw hK;obtain⟨f0,f1,f2,f3,f4,f5⟩:=hf it (by simp);exact wpAny_pyNext_range_end (I.ok.hd hc) st (by have:n<=i:=hg;lia) λh' eb=>⟨rfl,I.turned (t':=s.toks) (λb o hb e=>eb b o hb e) f0 f1 f3 f4 f5⟩
 self:=λ_ _ _ _ _ st h=>wpAny_pyIter_rangeiter st h
section
variable {X:Cx}
def KU{σ:St}{lo hi:Int}{u:Tok}(I:Inv X pins σ H s)(h1:-(2 ^ 62)<=lo)(h2:lo<2 ^ 62)(h3:-(2 ^ 62)<=hi)(h4:hi<2 ^ 62)(q:R (kI lo (hi-lo).toNat) H):wpAny (model X.prog X.w) X.A (pyIter (.ref s.heap.objs.size)) (dO X pins σ tg R) E {s with heap:=s.heap.push {cls:=.type "range",data:=.fields #[.int lo t,.int hi u,.int 1 v]},toks:=tk}:=by
 refine wpAny_pyIter_range (IsRange.new ..) (small_one h1 h2 h3 h4) ?_;have I1:Inv X pins σ H {s with heap:=s.heap.push {cls:=.type "range",data:=.fields #[.int lo t,.int hi u,.int 1 v]},toks:=tk}:=I.kept λb o e=>i0 _ e;refine ⟨(s.heap.push {cls:=.type "range",data:=.fields #[.int lo t,.int hi u,.int 1 v]}).objs.size,[(s.heap.push {cls:=.type "range",data:=.fields #[.int lo t,.int hi u,.int 1 v]}).objs.size],_,_,H,rfl,
   I1.kept (t':=tk) λb o e=>i0 _ e,TH _ lo (hi-lo).toNat,?_,λb hb=>?_,q⟩
 .have e1:lo+((0:Nat):Int)*1=lo:=by simp
  have e2:(((hi-lo).toNat:Nat):Int)-((0:Nat):Int)=W7 lo hi 1:=by rw[rangeSize_one];split<;>lia
  show IsRangeIter _ _ (lo+((0:Nat):Int)*1) ((((hi-lo).toNat:Nat):Int)-((0:Nat):Int)) 1;rw[e1,e2];exact v0 _ rfl
 .have e:b=(s.heap.push {cls:=.type "range",data:=.fields #[.int lo t,.int hi u,.int 1 v]}).objs.size:=by simpa using hb
  subst e;exact I1.fpOk (M0 _) (I1.hok.fresh (M0 _))
def Kz(ta:TA):TI:=λσ H R=>ta σ H λvs H1=>∃j:Int,vs=[.int j]/\-(2 ^ 62)<=j/\j<2 ^ 62/\R (kI 0 j.toNat) H1
def Lz(ta:TA):TI:=λσ H R=>ta σ H λvs H1=>∃i j:Int,vs=[.int i,.int j]/\(-(2 ^ 62)<=i/\i<2 ^ 62/\-(2 ^ 62)<=j/\j<2 ^ 62)/\R (kI i (j-i).toNat) H1
def YD{a:Expr}{ta:TA}{p pos:Pos}(hg:Gl X "range")(hm:X.mg "range"=none)(ha:PA X [a] ta)(hs:starEach [a] X.env=[(false,eval a X.env)]:=by rfl):PI X tg (.Call (.Name "range" p) [a] [] pos) (Kz ta):=by
 intro pins s σ H R I h;refine Call_ (UX I hg hm boot_range (S1 (eX (ha pos pins s σ H _ I h) λus s1 ⟨vs,H1,I1,r1,q1⟩=>?_) hs rfl));obtain⟨j,e,q1,q2,q⟩:=q1;subst e;cases r1 with
 |cons r rr=>cases rr;obtain⟨t,rfl⟩:=r;exact call_range_1 (KU I1 (by lia) (by lia) q1 q2 (by simpa using q))
def ZD{a b:Expr}{ta:TA}{p pos:Pos}(hg:Gl X "range")(hm:X.mg "range"=none)(ha:PA X [a,b] ta)(hs:starEach [a,b] X.env=[(false,eval a X.env),(false,eval b X.env)]:=by rfl)(hs2:starEach [b] X.env=[(false,eval b X.env)]:=by rfl) :
  PI X tg (.Call (.Name "range" p) [a,b] [] pos) (Lz ta):=by
 intro pins s σ H R I h;refine Call_ (UX I hg hm boot_range (S1 (eX (ha pos pins s σ H _ I h) λus s1 ⟨vs,H1,I1,r1,q1⟩=>?_) (by rw[hs,hs2]) (by rw[hs2];rfl)));obtain⟨i,j,e,⟨q1,q2,q3,q4⟩,q⟩:=q1;subst e;cases r1 with
 |cons r rr =>
  cases rr with
  |cons r' rr=>cases rr;obtain⟨t,rfl⟩:=r;obtain⟨t',rfl⟩:=r';exact call_range_2 (KU I1 q1 q2 q3 q4 q)
def aB(wi:TI)(g:TG)(tb:TS):TS:=λD σ H=>wi σ H λJ H1=>∃W:Nat->Nat->St->Hp->Prop,(∃m,W 0 m σ H1)/\∀i m σ H,W i m σ H ->
 (J.stop i H/\D.nx σ H)\/(J.go i H/\∃N:St->Hp->Prop,(∀σ' H',N σ' H'->∃m',m'<m/\W (i+1) m' σ' H')/\∀x H',J.yld i H x H'->g x σ H' λσ2 H2=>tb {D with nx:=N,ct:=N,bk:=D.nx} σ2 H2)
noncomputable def WK(fp:List Addr)(h:Heap):List (Addr×Obj):=fp.filterMap λb=>(h.get? b).map λo=>(b,o)
def RZ(hb:b∈fp)(e:h.get? b=some o):(b,o)∈WK fp h:=R8.mpr ⟨b,hb,by rw[e];rfl⟩
def nV{p:Addr×Obj}(hp:p∈WK fp h):p.1∈fp/\h.get? p.1=some p.2:=by
 obtain⟨b,hb,e⟩:=R8.mp hp;cases q:h.get? b with
 |none=>rw[q]at e;cases e
 |some o=>rw[q]at e;have e':(b,o)=p:=O1 e;subst e';exact ⟨hb,q⟩
def Inv.pinned{σ:St}(I:Inv X pins σ H s)(hf:∀b∈fp,DY X pins H b)(ho:∀b∈fp,∃o,s.heap.get? b=some o/\∀v,o.data≠.cell v):Inv X (pins++WK fp s.heap) σ H s :=
 I.pins_of λp hp=>(A3.mp hp).elim (λz=>I.pin p (Q1 _ z)) λz=>by obtain⟨hb,e⟩:=nV z;obtain⟨f0,f1,f2,_⟩:=hf p.1 hb;obtain⟨o,e',d⟩:=ho p.1 hb;rw[e]at e';cases e';exact ⟨e,f0,f1,f2,d⟩
def Inv.unpinned{σ:St}(I:Inv X (pins++pl) σ H s):Inv X pins σ H s:=I.pins_of λp hp=>I.pin p (Q1 _ (Y5 _ hp))
def bB{body:List Stmt}{wi:TI}{g:TG}{tb:TS}{pos:Pos}(hp:PassesOwn (model X.prog X.w) X.A X.env X.xe)(hc:X.calm=true)(hi:PI X tg iter wi)(hg:PG X tg g)(hb:PSs X body tb)
  (hs:∀x,foldedSetIterable iter X.env x=pure x:=by intro _;rfl):PS X (.For tg iter body [] pos) (aB wi g tb):=by
 intro pins s σ H D I h;refine wpAny_For (eX (hi pins s σ H _ I h) λv s1 h1=>eX h1 λitv s2 h2=>?_) hs;obtain⟨it,fp,tn,J,H2,e,I2,T,st2,f2,W,⟨m0,w0⟩,turn⟩:=h2;subst e;have stat:∀{H':Hp},(∀b∈fp,H' b=none)->∀b∈fp,DY X pins H' b:=λhn b hb=>⟨hn b hb,(f2 b hb).2⟩;refine codeAny_forLoop_any (λn s'=>∃i σ' H',Inv X pins σ' H' s'/\tn i s'.heap/\(∀b∈fp,H' b=none)/\W i n σ' H') ?_ m0 ⟨0,σ,H2,I2,st2,λb hb=>(f2 b hb).1,w0⟩;rintro n s3 ⟨i,σ3,H3,I3,st3,fr3,w3⟩;rcases turn i n σ3 H3 w3 with⟨stop,qn⟩|⟨go,N,hN,step⟩
 .refine wpAny_passesOwn hp (eX (T.done X rfl rfl rfl hc i pins s3 σ3 H3 X.xe I3 (stat fr3) st3 stop) λr s4 ⟨hr,I4⟩=>?_);subst hr;exact wpAny_execs_nil ⟨σ3,H3,I4,qn⟩
 .refine wpAny_passesOwn hp (eX (T.item X rfl rfl rfl hc i pins s3 σ3 H3 X.xe I3 (stat fr3) st3 go) λr s4 ⟨u,hr,h4⟩=>?_);subst hr;refine wpAny_passesOwn hp (eX h4 λ_ s5 ⟨x,H5,I5,r5,y5,st5,fr5⟩=>?_);have I5':=I5.pinned (stat fr5) (T.obj _ _ st5);refine wpAny_passesOwn hp (eX (hg _ s5 σ3 H5 x u _ I5' r5 (step x H5 y5)) λ_ s6 ⟨σ6,H6,I6,q6⟩=>?_);refine wpAny_passesOwn hp (eX (hb _ s6 σ6 H6 _ I6 q6) λf s7 q7=>?_);have again:∀{σ7:St}{H7:Hp},Inv X (pins++WK fp s5.heap) σ7 H7 s7->N σ7 H7->∃m,m<n/\∃i σ' H',Inv X pins σ' H' s7/\tn i s7.heap/\(∀b∈fp,H' b=none)/\W i m σ' H':=λ{σ7 H7} I7 n7=>by
   obtain⟨m',hm,w7⟩:=hN σ7 H7 n7;refine ⟨m',hm,i+1,σ7,H7,I7.unpinned,T.keep _ _ _ st5 λb hb o e=>(I7.pin (b,o) (Q1 _ (Q1 _ (RZ hb e)))).1,λb hb=>?_,w7⟩;obtain⟨o,e,d⟩:=T.obj _ _ st5 b hb;exact (I7.pin (b,o) (Q1 _ (Q1 _ (RZ hb e)))).2.1
  cases f with
  |next=>obtain⟨σ7,H7,I7,n7⟩:=q7;exact again I7 n7
  |cont=>obtain⟨σ7,H7,I7,n7⟩:=q7;exact again I7 n7
  |brk=>obtain⟨σ7,H7,I7,q7⟩:=q7;exact ⟨σ7,H7,I7.unpinned,q7⟩
  |ret v=>obtain⟨x7,σ7,H7,I7,r7,q7⟩:=q7;exact ⟨x7,σ7,H7,I7.unpinned,r7,q7⟩
end
noncomputable abbrev R2:=V->V->Hp->VK->Prop
def OpR(X:Cx)(f:Value->Value->Sem Value)(r:R2):Prop :=
 ∀(pins:List (Addr×Obj)) (s:Shared) (σ:St) (H:Hp) (x y:V) (v u:Value) (Q:VK),Inv X pins σ H s->RelV x v->RelV y u->r x y H Q ->
  wpAny (model X.prog X.w) X.A (f v u) (EP X pins σ Q) X.xe s
def fX(X:Cx)(f:Value)(r:List V->Hp->VK->Prop):Prop :=
 ∀(pins:List (Addr×Obj)) (s:Shared) (σ:St) (H:Hp) (xs:List V) (us:List Value) (Q:VK),Inv X pins σ H s->Vals xs us->r xs H Q ->
  wpAny (model X.prog X.w) X.A (call f us) (EP X pins σ Q) X.xe s
def lu(r:R2)(ta tb:TE):TE:=λσ H Q=>ta σ H λx H1=>tb σ H1 λy H2=>r x y H2 Q
def rI(C:Int->Int->Prop)(g:Int->Int->V):R2:=λx y H Q=>∃i j,x=.int i/\y=.int j/\C i j/\Q (g i j) H
def EY(g:Int->Int->V):R2:=λx y H Q=>∃i j,x=.int i/\y=.int j/\Q (g i j) H
section
variable {X:Cx}{a b c:Expr}{ta tb tc:TE}{pos:Pos}
def cB(ha:PE X a ta)(hb:PE X b tb){pins:List (Addr×Obj)}{s:Shared}{σ:St}{H:Hp}{R:V->V->Hp->Prop}(I:Inv X pins σ H s)(h:ta σ H λx H1=>tb σ H1 λy H2=>R x y H2) {Q:Value->Shared->Prop}{f:Value->Value->Sem Value}(hf:∀v u s2 x y H2,Inv X pins σ H2 s2->RelV x v->RelV y u->R x y H2->wpAny (model X.prog X.w) X.A (f v u) Q X.xe s2):wpAny (model X.prog X.w) X.A (eval a X.env) (λv s₁=>wpAny (model X.prog X.w) X.A (eval b X.env) (λu s₂=>wpAny (model X.prog X.w) X.A (f v u) Q X.xe s₂) X.xe s₁) X.xe s:=by
 refine eX (ha pins s σ H _ I h) λv s1 ⟨x,H1,I1,r1,q1⟩=>?_;refine eX (hb pins s1 σ H1 _ I1 q1) λu s2 ⟨y,H2,I2,r2,q2⟩=>?_;exact hf v u s2 x y H2 I2 r1 r2 q2
def lI(ho:OpR X (binaryOp op) r)(ha:PE X a ta)(hb:PE X b tb):PE X (.BinOp a op b pos) (lu r ta tb):=by intro pins s σ H Q I h;exact wpAny_BinOp (cB ha hb I h λv u s2 x y H2 I2 rx ry q=>ho pins s2 σ H2 x y v u Q I2 rx ry q)
def sM(rule:∀(i j:Int) (t u:Tok) (s:Shared) (Q:Value->Shared->Prop) (E:Value->Shared->Prop),C i j->Q (.int (g i j) s.toks) {s with toks:=s.toks+1}->wpAny (model X.prog X.w) X.A (f (.int i t) (.int j u)) Q E s):OpR X f (rI C λi j=>.int (g i j)):=by
 intro pins s σ H x y v u Q I rx ry h;obtain⟨i,j,rfl,rfl,hc,q⟩:=h;obtain⟨t,rfl⟩:=rx;obtain⟨t',rfl⟩:=ry;exact rule i j t t' s _ _ hc ⟨.int (g i j),H,I.tok _,⟨_,rfl⟩,q⟩
def mI(rule:∀(i j:Int) (t u:Tok) (s:Shared) (Q:Value->Shared->Prop) (E:Value->Shared->Prop),Q (.int (g i j) s.toks) {s with toks:=s.toks+1}->wpAny (model X.prog X.w) X.A (f (.int i t) (.int j u)) Q E s):OpR X f (EY λi j=>.int (g i j)):=by
 intro pins s σ H x y v u Q I rx ry h;obtain⟨i,j,rfl,rfl,q⟩:=h;obtain⟨t,rfl⟩:=rx;obtain⟨t',rfl⟩:=ry;exact rule i j t t' s _ _ ⟨.int (g i j),H,I.tok _,⟨_,rfl⟩,q⟩
def Mw{g:Int->Int->Bool}(rule:∀(i j:Int) (t u:Tok) (s:Shared) (Q:Value->Shared->Prop) (E:Value->Shared->Prop),Q (.bool (g i j)) s->wpAny (model X.prog X.w) X.A (f (.int i t) (.int j u)) Q E s):OpR X f (EY λi j=>.bl (g i j)):=by
 intro pins s σ H x y v u Q I rx ry h;obtain⟨i,j,rfl,rfl,q⟩:=h;obtain⟨t,rfl⟩:=rx;obtain⟨t',rfl⟩:=ry;exact rule i j t t' s _ _ ⟨.bl (g i j),H,I,rfl,q⟩
def dB(i j:Int):Prop:=0<j/\j<1073741824
def eB(i j:Int):Prop:=0<=j/\j<=1000000/\i.natAbs<2 ^ 64
def CMul(i j:Int):Prop:=(-(2 ^ 64)<i/\i<2 ^ 64)\/(-(2 ^ 64)<j/\j<2 ^ 64)
def CMul.ok(h:CMul i j):IntMulOk i j:=by
 rcases h with⟨h1,h2⟩|⟨h1,h2⟩
 .exact .of_left (intBits_le_64 h1 h2)
 .exact .of_right (intBits_le_64 h1 h2)
def op_add:OpR X (binaryOp .Add) (EY λi j=>.int (i+j)):=mI λ_ _ _ _ _ _ _ q=>add_int q
def NX:OpR X (binaryOp .Sub) (EY λi j=>.int (i-j)):=mI λ_ _ _ _ _ _ _ q=>sub_int q
def op_mul:OpR X (binaryOp .Mult) (rI CMul λi j=>.int (i*j)):=sM λ_ _ _ _ _ _ _ hc q=>mul_int q hc.ok
def KY:OpR X (binaryOp .FloorDiv) (rI dB λi j=>.int (i / j)):=sM λi j _ _ _ _ _ hc q=>by have h1:(0:Int)<j:=hc.1;have h2:j<1073741824:=hc.2;exact floordiv_int (by lia) (by rw[Int.fdiv_eq_ediv_of_nonneg i (by lia)];exact q) (.inl (PyProof.noPylong_small (by lia)))
def SZ:OpR X (binaryOp .Mod) (rI (λ_ j=>0<j) λi j=>.int (i % j)):=sM λi j _ _ _ _ _ hc q=>by have h1:(0:Int)<j:=hc;exact mod_int' (by lia) (by rw[Int.fmod_eq_emod_of_nonneg i (by lia)];exact q)
def UH:OpR X (binaryOp .Pow) (rI eB λi j=>.int (i ^ j.toNat)):=sM λ_ _ _ _ _ _ _ hc q=>pow_int_small hc.1 hc.2.1 hc.2.2 q
end
noncomputable def nI:V->V->Bool
 | .non,.non=>true | .non,.int _=>true | .int _,.non=>true | .non,.bl _=>true | .bl _,.non=>true | .non,.str _=>true | .str _,.non=>true
 | .int _,.int _=>true | .bl _,.bl _=>true | .str _,.str _=>true | .byt _,.byt _=>true
 | .int _,.str _=>true | .str _,.int _=>true | .bl _,.str _=>true | .str _,.bl _=>true
 |_,_=>false
def tM:R2:=λx y H Q=>nI x y=true/\Q (.bl (decide (x=y))) H
def uM:R2:=λx y H Q=>nI x y=true/\Q (.bl (!decide (x=y))) H
def LY:decide (V.int i=V.int j)=(i==j):=by rw[O5];simp
def Mz:decide (V.bl i=V.bl j)=(i==j):=by rw[O5];simp
def MY:decide (V.str i=V.str j)=(i==j):=by rw[O5];simp
def sF:decide (V.byt i=V.byt j)=(i.toList==j.toList):=by rw[O5];cases i;cases j;simp
section
variable {X:Cx}{a b c:Expr}{ta tb tc:TE}{pos:Pos}
def EQ{σ:St}{Q:VK}(I:Inv X pins σ H s)(q:Q (.bl k) H)(e:k=k'):EP X pins σ Q (.bool k') s:=by subst e;exact ⟨.bl k,H,I,rfl,q⟩
def op_eq:OpR X (compareOp .Eq) tM:=by
 intro pins s σ H x y v u Q I rx ry h;obtain⟨hs,q⟩:=h;cases x with
 |non =>
  cases rx;cases y with
  |non=>cases ry;exact PySem.EqNone.eq_none_none (EQ I q (by simp))
  |bl j=>cases ry;exact PySem.EqNone.eq_none_bool (EQ I q (by simp))
  |int j=>obtain⟨t',rfl⟩:=ry;exact PySem.EqNone.eq_none_int (EQ I q (by simp))
  |str j=>obtain⟨t',rfl⟩:=ry;exact PySem.EqNone.eq_none_str (EQ I q (by simp))
  |_=>exact absurd (show false=true from hs) X0
 |bl i =>
  cases rx;cases y with
  |non=>cases ry;exact PySem.EqNone.eq_bool_none (EQ I q (by simp))
  |bl j=>cases ry;exact eq_bool (EQ I q Mz)
  |str j=>obtain⟨t',rfl⟩:=ry;exact PySem.EqMixed.eq_bool_str (EQ I q (by simp))
  |_=>exact absurd (show false=true from hs) X0
 |int i =>
  obtain⟨t,rfl⟩:=rx;cases y with
  |non=>cases ry;exact PySem.EqNone.eq_int_none (EQ I q (by simp))
  |int j=>obtain⟨t',rfl⟩:=ry;exact eq_int (EQ I q LY)
  |str j=>obtain⟨t',rfl⟩:=ry;exact PySem.EqMixed.eq_int_str (EQ I q (by simp))
  |_=>exact absurd (show false=true from hs) X0
 |str i =>
  obtain⟨t,rfl⟩:=rx;cases y with
  |non=>cases ry;exact PySem.EqNone.eq_str_none (EQ I q (by simp))
  |bl j=>cases ry;exact PySem.EqMixed.eq_str_bool (EQ I q (by simp))
  |int j=>obtain⟨t',rfl⟩:=ry;exact PySem.EqMixed.eq_str_int (EQ I q (by simp))
  |str j=>obtain⟨t',rfl⟩:=ry;exact eq_str (EQ I q MY)
  |_=>exact absurd (show false=true from hs) X0
 |byt i =>
  obtain⟨t,rfl⟩:=rx;cases y with
  |byt j=>obtain⟨t',rfl⟩:=ry;exact PySem.W.eq_bytes (EQ I q sF)
  |_=>exact absurd (show false=true from hs) X0
 |_=>cases y<;>exact absurd (show false=true from hs) X0
def op_ne:OpR X (compareOp .NotEq) uM:=by
 intro pins s σ H x y v u Q I rx ry h;obtain⟨hs,q⟩:=h;cases x with
 |non =>
  cases rx;cases y with
  |non=>cases ry;exact PySem.EqNone.ne_none_none (EQ I q (by simp))
  |bl j=>cases ry;exact PySem.EqNone.ne_none_bool (EQ I q (by simp))
  |int j=>obtain⟨t',rfl⟩:=ry;exact PySem.EqNone.ne_none_int (EQ I q (by simp))
  |str j=>obtain⟨t',rfl⟩:=ry;exact PySem.EqNone.ne_none_str (EQ I q (by simp))
  |_=>exact absurd (show false=true from hs) X0
 |bl i =>
  cases rx;cases y with
  |non=>cases ry;exact PySem.EqNone.ne_bool_none (EQ I q (by simp))
  |bl j=>cases ry;exact ne_bool (EQ I q (congrArg not Mz))
  |str j=>obtain⟨t',rfl⟩:=ry;exact PySem.EqMixed.ne_bool_str (EQ I q (by simp))
  |_=>exact absurd (show false=true from hs) X0
 |int i =>
  obtain⟨t,rfl⟩:=rx;cases y with
  |non=>cases ry;exact PySem.EqNone.ne_int_none (EQ I q (by simp))
  |int j=>obtain⟨t',rfl⟩:=ry;exact ne_int (EQ I q (congrArg not LY))
  |str j=>obtain⟨t',rfl⟩:=ry;exact PySem.EqMixed.ne_int_str (EQ I q (by simp))
  |_=>exact absurd (show false=true from hs) X0
 |str i =>
  obtain⟨t,rfl⟩:=rx;cases y with
  |non=>cases ry;exact PySem.EqNone.ne_str_none (EQ I q (by simp))
  |bl j=>cases ry;exact PySem.EqMixed.ne_str_bool (EQ I q (by simp))
  |int j=>obtain⟨t',rfl⟩:=ry;exact PySem.EqMixed.ne_str_int (EQ I q (by simp))
  |str j=>obtain⟨t',rfl⟩:=ry;exact ne_str (EQ I q (congrArg not MY))
  |_=>exact absurd (show false=true from hs) X0
 |byt i =>
  obtain⟨t,rfl⟩:=rx;cases y with
  |byt j=>obtain⟨t',rfl⟩:=ry;exact PySem.W.ne_bytes (EQ I q (congrArg not sF))
  |_=>exact absurd (show false=true from hs) X0
 |_=>cases y<;>exact absurd (show false=true from hs) X0
def nu:OpR X (compareOp .Lt) (EY λi j=>.bl (decide (i<j))):=Mw λ_ _ _ _ _ _ _ q=>lt_int q
def ou:OpR X (compareOp .LtE) (EY λi j=>.bl (decide (i<=j))):=Mw λ_ _ _ _ _ _ _ q=>le_int q
def tF:OpR X (compareOp .Gt) (EY λi j=>.bl (decide (j<i))):=Mw λ_ _ _ _ _ _ _ q=>gt_int q
def oI:OpR X (compareOp .GtE) (EY λi j=>.bl (decide (j<=i))):=Mw λ_ _ _ _ _ _ _ q=>ge_int q
def OpR.or(h:OpR X f r)(h':OpR X f r'):OpR X f (λx y H Q=>r x y H Q\/r' x y H Q):=by
 intro pins s σ H x y v u Q I rx ry q;rcases q with q|q
 .exact h pins s σ H x y v u Q I rx ry q
 .exact h' pins s σ H x y v u Q I rx ry q
def Nz(b:Expr){op:CmpOp}(h:op≠.In:=by decide)(h2:op≠.NotIn:=by decide):behindInMarks op b=false:=by
 have e1:(op==CmpOp.In)=false:=by cases op<;>first|rfl|exact absurd rfl h
 have e2:(op==CmpOp.NotIn)=false:=by cases op<;>first|rfl|exact absurd rfl h2
 cases b<;>simp[behindInMarks,e1,e2]
def uF(ho:OpR X (compareOp op) r)(ha:PE X a ta)(hb:PE X b tb)(hm:behindInMarks op b=false):PE X (.Compare a [op] [b] pos) (lu r ta tb):=by intro pins s σ H Q I h;exact wpAny_Compare1 (cB ha hb I h λv u s2 x y H2 I2 rx ry q=>ho pins s2 σ H2 x y v u Q I2 rx ry q) hm
def Oz(t:TE):TT:=λσ H Q=>t σ H λx H'=>∃k,x=.bl k/\Q k H'
def vF(ho:OpR X (compareOp op) r)(ha:PE X a ta)(hb:PE X b tb)(hm:behindInMarks op b=false):PT X (.Compare a [op] [b] pos) (Oz (lu r ta tb)):=by
 intro pins s σ H Q I h;refine wpAny_isTrue_Compare1 (eX (ha pins s σ H _ I h) λv s1 ⟨x,H1,I1,r1,q1⟩=>eX (hb pins s1 σ H1 _ I1 q1) λu s2 ⟨y,H2,I2,r2,q2⟩=>eX (ho pins s2 σ H2 x y v u _ I2 r1 r2 q2) λc s3 ⟨z,H3,I3,r3,k,e,q3⟩=>?_) hm;subst e;cases r3;exact wpAny_truthy_bool ⟨H3,I3,q3⟩
def VH(r r':R2)(ta tb tc:TE):TE:=λσ H Q=>ta σ H λx H1=>tb σ H1 λy H2=>r x y H2 λz H3=>∃k,z=.bl k /\
 (if k=true then tc σ H3 λw' H4=>r' y w' H4 Q else Q (.bl false) H3)
def Pz{op op':CmpOp}{r r':R2}(ho:OpR X (compareOp op) r)(ho':OpR X (compareOp op') r')(ha:PE X a ta)(hb:PE X b tb)(hc:PE X c tc)
  (hm:lastMarks [op,op'] [b,c]=false:=by with_unfolding_all rfl):PE X (.Compare a [op,op'] [b,c] pos) (VH r r' ta tb tc):=by
 intro pins s σ H Q I h;refine Compare_chain (eX (ha pins s σ H _ I h) λv s1 ⟨x,H1,I1,r1,q1⟩=>chain_link (eX (hb pins s1 σ H1 _ I1 q1) λu s2 ⟨y,H2,I2,r2,q2⟩=>eX (ho pins s2 σ H2 x y v u _ I2 r1 r2 q2) λd s3 ⟨z,H3,I3,r3,k,e,q3⟩=>?_)) hm;subst e;cases r3;refine wpAny_truthy_bool ?_;cases k with
 |false=>exact ite_ff ⟨.bl false,H3,I3,rfl,q3⟩
 |true=>exact ite_tt (chain_last (eX (hc pins s3 σ H3 _ I3 q3) λw' s4 ⟨z',H4,I4,r4,q4⟩=>ho' pins s4 σ H4 y z' u w' Q I4 r2 r4 q4))
def YV:(sizeLine:Nat)<2 ^ 63:=by rw[sizeLine_eq];decide
def iZ(r:Vals [x] us):∃u,us=[u]/\RelV x u:=by
 cases r with
 |cons r1 r2=>cases r2;exact ⟨_,rfl,r1⟩
def vY{y:V}(r:Vals [x,y] us):∃u w',us=[u,w']/\RelV x u/\RelV y w':=by
 cases r with
 |cons r1 r2 =>
  cases r2 with
  |cons r3 r4=>cases r4;exact ⟨_,_,rfl,r1,r3⟩
def XY:fX X (.builtin "abs") (λxs H Q=>∃i,xs=[.int i]/\Q (.int (if i<0 then -i else i)) H):=by intro pins s σ H xs us Q I r h;obtain⟨i,rfl,q⟩:=h;obtain⟨u,rfl,t,rfl⟩:=iZ r;exact call_abs_int λu tk=>⟨.int (if i<0 then -i else i),H,I.tok _,⟨_,rfl⟩,q⟩
def aq(hc:X.calm=true):fX X (.builtin "max") (λxs H Q=>∃i j,xs=[.int i,.int j]/\Q (.int (if j > i then j else i)) H):=by
 intro pins s σ H xs us Q I r h;obtain⟨i,j,rfl,q⟩:=h;obtain⟨u,w',rfl,⟨t,rfl⟩,⟨t',rfl⟩⟩:=vY r;refine max_two_ints (I.ok.hd hc) λh' tk k=>⟨_,H,I.kept k,?_,q⟩;by_cases hj:j > i
 .rw[if_pos hj,if_pos hj];exact ⟨_,rfl⟩
 .rw[if_neg hj,if_neg hj];exact ⟨_,rfl⟩
def oV(hc:X.calm=true):fX X (.builtin "min") (λxs H Q=>∃i j,xs=[.int i,.int j]/\Q (.int (if j<i then j else i)) H):=by
 intro pins s σ H xs us Q I r h;obtain⟨i,j,rfl,q⟩:=h;obtain⟨u,w',rfl,⟨t,rfl⟩,⟨t',rfl⟩⟩:=vY r;refine min_two_ints (I.ok.hd hc) λh' tk k=>⟨_,H,I.kept k,?_,q⟩;by_cases hj:j<i
 .rw[if_pos hj,if_pos hj];exact ⟨_,rfl⟩
 .rw[if_neg hj,if_neg hj];exact ⟨_,rfl⟩
def YK:fX X (.type "int") (λxs H Q=>(∃i,xs=[.int i]/\Q (.int i) H)\/∃k,xs=[.bl k]/\Q (.int (if k then 1 else 0)) H):=by
 intro pins s σ H xs us Q I r h;rcases h with⟨i,rfl,q⟩|⟨k,rfl,q⟩
 .obtain⟨u,rfl,t,rfl⟩:=iZ r;exact call_int_int ⟨.int i,H,I,⟨_,rfl⟩,q⟩
 .obtain⟨u,rfl,r1⟩:=iZ r;cases r1;exact call_int_bool ⟨.int (if k then 1 else 0),H,I.tok _,⟨_,rfl⟩,q⟩
end
structure ObjM(h:Heap)(x dx C:Addr)(mA:Str->Option Value):Prop where
 obj:h.get? x=some (m9 C dx)
 ns:h.Ns1 dx mA
 ne:dx≠x
section
variable {w:World}{K:B0}{x dx C f:Addr}{mA:Str->Option Value}{v:Value}
end
def RelO.some_of{o:Option Value}(r:RelO (some v) o):∃u,o=some u/\RelV v u:=by
 cases o with
 |none=>exact (show False from r).elim
 |some u=>exact ⟨u,rfl,r⟩
section
variable {P:Program}{w:World}{H H':Hp}{a C dx:Addr}{fs fs':List (Str×V)}
end
structure Cls(K:B0)(C:Addr):Prop where
 pg:PySem.W.plainGet K C Str.empty=true
 hd:PySem.W.hasDictIn K C=true
 po:PySem.W.plainOver K C=true
 sa:K6 K (.ref C) "__setattr__"=some (some (.builtin "object.__setattr__"))
structure Con(K:B0)(C:Addr)(f:Str)(v:V)(u:Value):Prop where
 at_:K6 K (.ref C) f=some (some u)
 rel:RelV v u
 get:g9 K u "__get__"=some none
 cp:PySem.W.copiedNames.contains f=false
structure Meth(K:B0)(C:Addr)(m:Str)(f:Addr):Prop where
 at_:K6 K (.ref C) m=some (some (.ref f))
 fn:PySem.W.isFn K (.ref f)=true
 kp:Z4 K (.ref f)=true
section
variable {X:Cx}{σ:St}{H:Hp}{a C dx:Addr}{fs:List (Str×V)}{f:Str}{v:V}
end
section
variable {X:Cx}{o e value:Expr}{f:Str}{pos tpos:Pos}{ta tv:TE}
end
section
variable {X:Cx}{σ:St}{H:Hp}{c:Value}{b:Bool}
inductive TyOf (K:B0) (H:Hp):V->Value->Prop where
 |non:TyOf K H .non (.type "NoneType")
 |bl (x:Bool):TyOf K H (.bl x) (.type "bool")
 |int (i:Int):TyOf K H (.int i) (.type "int")
 |str (x:Str):TyOf K H (.str x) (.type "str")
 |flt (x:UInt64):TyOf K H (.flt x) (.type "float")
 |lst {a:Addr}{xs:List V} (e:H a=some (.lst xs)):TyOf K H (.ref a) (.type "list")
 |frz {a:Addr}{o:Obj}{xs:List V} (e:H a=some (.frz o (.lst xs))):TyOf K H (.ref a) (.type "list")
 |tup {a:Addr}{xs:List V} (e:H a=some (.tup xs)):TyOf K H (.ref a) (.type "tuple")
 |dK {a:Addr}{kvs:List (OQ×V)} (e:H a=some (.dK kvs)):TyOf K H (.ref a) (.type "dict")
 |dT {a:Addr}{kvs:List (List OQ×V)} (e:H a=some (.dT kvs)):TyOf K H (.ref a) (.type "dict")
 | ins {a C dx:Addr}{fs:List (Str×V)} (e:H a=some (.ins C dx fs)) (cl:Cls K C) (ha:K6 K (.ref C) "__class__"=some (some (.builtin "object.__class__")))
   (hn:g9 K (.builtin "object.__class__") "__get__"=some (some (.builtin "getset_descriptor.__get__"))) (htk:PySem.W.takesIn K (.builtin "object.__class__")=some true)
   (hm:PySem.W.mroIn K C (.type "object")=some true):TyOf K H (.ref a) (.ref C)
end
structure Room(k:Nat)(A:Around):Prop where
 hd:A.handled=none
 dp:A.depth+3*k+5<recursionLimit
 un:A.units+16*k+200<cLine
 gd:A.guards=some []
def Room.mono(r:Room k A)(h:j<=k):Room j A:=⟨r.hd,by have:=r.dp;lia,by have:=r.un;lia,r.gd⟩
def Room.m{j k:Nat}(r:Room k A)(h:j<=k:=by first|decide|lia):Room j A:=r.mono h
def Room.deeper(r:Room (k+1) A)(env:Env):Room k (A.deeper env):=⟨r.hd,by have:=r.dp;show A.depth+1+3*k+5<_;lia,by have:=r.un;show A.units+3+16*k+200<_;lia,r.gd⟩
def Room.depth(r:Room k A):A.depth<recursionLimit:=by have:=r.dp;lia
def Room.units(r:Room k A):A.units+64<cLine:=by have:=r.un;lia
def bq:TA:=λ_ H Q=>Q [] H
def qK(ta:TE)(tr:TA):TA:=λσ H Q=>ta σ H λx H1=>tr σ H1 λxs H2=>Q (x::xs) H2
section
variable {X:Cx}{e:Expr}{es:List Expr}{te:TE}{t:TA}{pos:Pos}
def DZ:PA X [] bq:=λ_ _ _ _ H Q I h=>Calls.spliced_nil ⟨[],H,I,.nil,h⟩
def WQ(ha:PE X e te)(hr:PA X es t)(hs:starEach (e::es) X.env=(false,eval e X.env)::starEach es X.env:=by rfl):PA X (e::es) (qK te t):=by intro pos pins s σ H Q I h;rw[hs];show wpAny _ _ (spliced ((false,eval e X.env)::backTo pos (starEach es X.env))) _ _ s;refine Calls.spliced_cons (eX (ha pins s σ H _ I h) λu s1 ⟨x,H1,I1,r1,q1⟩=>?_);exact eX (hr pos pins s1 σ H1 _ I1 q1) λus s2 ⟨xs,H2,I2,r2,q2⟩=>⟨x::xs,H2,I2,.cons r1 r2,q2⟩
def fB(t:TA):TE:=λσ H Q=>t σ H λxs H1=>xs.length<=sizeLine/\∀p,H1 p=none->Q (.ref p) (DQ H1 p (.tup xs))
def gB(t:TA):TE:=λσ H Q=>t σ H λxs H1=>xs.length<=sizeLine/\∀p,H1 p=none->Q (.ref p) (DQ H1 p (.lst xs))
def iB{x1}(h:PA X es t):PE X (.Tuple es x1 pos) (fB t):=by intro pins s σ H Q I hq;refine wpAny_Tuple_spliced (eX (h pos pins s σ H _ I hq) λus s1 ⟨xs,H1,I1,r,z,q⟩=>⟨by rw[<-r.length];exact z,?_⟩);have hf:H1 s1.heap.objs.size=none:=I1.hok.fresh (M0 _);refine ⟨.ref s1.heap.objs.size,DQ H1 s1.heap.objs.size (.tup xs),I1.laid (t':=s1.toks) (λb u e=>i0 _ e) (M0 _) ?_,rfl,q _ hf⟩;exact ⟨z,us,r,⟨_,v0 _ rfl,rfl,_,rfl,rfl⟩⟩
def jB(h:PA X es t):PE X (.List es pos) (gB t):=by intro pins s σ H Q I hq;refine wpAny_List_spliced (eX (h pos pins s σ H _ I hq) λus s1 ⟨xs,H1,I1,r,z,q⟩=>⟨by rw[<-r.length];exact z,?_⟩);have hf:H1 s1.heap.objs.size=none:=I1.hok.fresh (M0 _);refine ⟨.ref s1.heap.objs.size,DQ H1 s1.heap.objs.size (.lst xs),I1.laid (t':=s1.toks) (λb u e=>i0 _ e) (M0 _) ?_,rfl,q _ hf⟩;exact ⟨z,us,0,r,v0 _ rfl⟩
end
noncomputable abbrev Sp:=List V->Hp->VK->XK->Prop
noncomputable abbrev Qz:=List Env->Hp->Shared->XK->Value->Shared->Prop
structure Env0(P:Program)(w:World)(K:B0)(mg:Str->Option Value)(base:Heap)(A:Around)(outer:List Env)(s:Shared)(H:Hp):Prop where
 frames:A.frames=some outer
 mod:Mod K mg base
 bs:∀b o,base.get? b=some o->s.heap.get? b=some o/\H b=none
 bsz:base.objs.size<=s.heap.objs.size
 funs:s.heap.FunFrames base outer
 frf:∀b∈UV outer,H b=none
 hok:HOk P w H s.heap
 bare:AllBare s.gens
def CE(outer:List Env)(P:Program)(w:World)(H:Hp)(s:Shared)(Q:VK)(u:Value)(s':Shared):Prop:=∃v H',s'.os=s.os/\AllBare s'.gens/\Un (UV outer) [] H H' s.heap s'.heap/\HOk P w H' s'.heap/\RelV v u/\Q v H'
def CR(CX:Qz)(outer:List Env)(P:Program)(w:World)(H:Hp)(s:Shared)(Q:VK)(E:XK)(r:Result)(s':Shared):Prop :=
 match r with
 | .ok (.ret u)=>CE outer P w H s Q u s'
 | .ok _=>False
 | .error e=>CX outer H s E e s'
structure FnOk(P:Program)(w:World)(K:B0)(mg:Str->Option Value)(base:Heap)(CX:Qz)(k:Nat)(f:Addr)(fd:FuncData)(ps:List Str)(sp:Sp):Prop where
 len:∀vs H Q E,sp vs H Q E->vs.length=ps.length
 run:∀(A:Around) (outer:List Env) (s:Shared) (H:Hp) (args:Args) (us:List Value) (vs:List V) (Q:VK) (E:XK),Room k A->Env0 P w K mg base A outer s H->BindsTo s fd args (ps.zip us)->Vals vs us->sp vs H Q E ->
  codeAny (model P w) A (.call (.ref f) args) (CR CX outer P w H s Q E) s
section
variable {X:Cx}{σ:St}{H:Hp}
def Inv.env0(I:Inv X pins σ H s):Env0 X.prog X.w X.K X.mg X.base X.A X.stack s H:=⟨I.ok.frames,I.ok.mod,I.bs,Z1 I.ok.bsz I.sz,I.stack,I.stkFree,I.hok,I.bare⟩
def Inv.after{Q:VK}(I:Inv X pins σ H s)(h:CE X.stack X.prog X.w H s Q u s'):EP X pins σ Q u s':=by obtain⟨v,H',os,bare,un,hok,r,q⟩:=h;obtain⟨hh,g,d,t,os'⟩:=s';obtain rfl:os'=s.os:=os;exact ⟨v,H',I.call (h':=hh) (g':=g) (d':=d) (t':=t) (ch:=[]) un hok bare (λb z=>absurd z (by simp)),r,q⟩
end
def wY(sp:Sp)(dvs:List V)(E:XK)(t:TA):TE:=λσ H Q=>t σ H λvs H1=>sp (vs++dvs) H1 Q E
def Binds(K:B0)(fd:FuncData)(ps:List Str)(ds:List Value):Prop:=∀(s:Shared) (us:List Value),K.In s.heap->(us++ds).length=ps.length->BindsTo s fd ⟨us,[]⟩ (ps.zip (us++ds))
def Binds.all{K:B0}(h:∀us:List Value,us.length=ps.length->bindArgs fd ⟨us,[]⟩=pure (ps.zip us)):Binds K fd ps []:=λs us _ hl=>by rw[O2]at hl ⊢;exact .of_eq (h us hl)
def WH(CX:Qz)(X:Cx)(E:XK):Prop:=∀(pins:List (Addr×Obj)) (σ:St) (H:Hp) (s:Shared) (e:Value) (s':Shared),Inv X pins σ H s->CX X.stack H s E e s'->X.xe e s'
section
variable {X:Cx}{CX:Qz}{k:Nat}{f C:Addr}{ps:List Str}{sp:Sp}{dvs:List V}{ds:List Value}{E:XK}{x m:Str}{p pos apos:Pos}{e o:Expr}{es:List Expr}{ta:TE}{t:TA}
def lB{σ:St}{Q:VK}(F:FnOk X.prog X.w X.K X.mg X.base CX k f fd ps sp)(hr:Room k X.A)(hb:Binds X.K fd ps ds)(hd:Vals dvs ds)(hx:WH CX X E)(I:Inv X pins σ H s) (r:Vals vs us) (h:sp (vs++dvs) H Q E):wpAny (model X.prog X.w) X.A (call (.ref f) us) (EP X pins σ Q) X.xe s:=by
 have r2:Vals (vs++dvs) (us++ds):=r.append hd;have hl:(us++ds).length=ps.length:=by rw[<-r2.length];exact F.len _ _ _ _ h
 refine wpAny_call (codeAny_mono (F.run X.A X.stack s H ⟨us,[]⟩ (us++ds) (vs++dvs) Q E hr I.env0 (hb s us I.kIn hl) r2 h) λr s' hq=>?_);cases r with
 |error e=>exact hx pins σ H s e s' I hq
 |ok fl =>
  cases fl with
  |ret u=>exact I.after hq
  |next=>exact False.elim hq
  |brk=>exact False.elim hq
  |cont=>exact False.elim hq
def Nw(F:FnOk X.prog X.w X.K X.mg X.base CX k f fd ps sp)(hr:Room k X.A)(hg:Gl X x)(hm:X.mg x=some (.ref f))(hk:Z4 X.K (.ref f)=true)(hb:Binds X.K fd ps ds)(hd:Vals dvs ds)(hx:WH CX X E)
  (ha:PA X (e::es) t) (hdb:(x==("__debug__":Str))=false:=by decide) (he:starEach (e::es) X.env=(false,eval e X.env)::starEach es X.env:=by rfl) (hpl:(backTo pos (starEach es X.env)).any (·.1)=false:=by rfl) :
  PE X (.Call (.Name x p) (e::es) [] pos) (wY sp dvs E t):=by
 intro pins s σ H Q I h;refine wpAny_Call_Name_kw (XV I hg hm ?_ hdb);refine S8 (h₀:=X.base) I.ok.mod.kin hk (eX (ha pos pins s σ H _ I h) λus s1 ⟨vs,H1,I1,r,q⟩=>⟨I1.kIn,?_⟩) he hpl;exact lB F hr hb hd hx I1 r q
structure Mk(K:B0)(C f:Addr):Prop where
 makes:PySem.W.makesIn K C=true
 init:K6 K (.ref C) "__init__"=some (some (.ref f))
 fn:PySem.W.isFn K (.ref f)=true
 kp:Z4 K (.ref C)=true
end
section
variable {X:Cx}{CX:Qz}{k:Nat}{f C:Addr}{ps ks:List Str}{sp:Sp}{E:XK}{x m:Str}{p pos apos kpos:Pos}{e o:Expr}{es:List Expr}{kws:List Keyword}{te ta:TE}{t tk:TA}{nm:Option Str}
structure KBinds(K:B0)(fd:FuncData)(ps ks:List Str)(g:List Value->List Value->List Value)(gV:List V->List V->List V):Prop where
 to:∀(s:Shared) (us ws:List Value),K.In s.heap->(g us ws).length=ps.length->BindsTo s fd ⟨us,ks.zip ws⟩ (ps.zip (g us ws))
 rel:∀{vs:List V}{us:List Value}{zs:List V}{ws:List Value},Vals vs us->Vals zs ws->Vals (gV vs zs) (g us ws)
variable {g:List Value->List Value->List Value}{gV:List V->List V->List V}
end
structure FnScope(N P:List Str)(sc:Scope):Prop where
 kind:sc.kind=.function:=by rfl
 co:sc.isCoroutine=false:=by rfl
 gen:sc.isGenerator=false:=by rfl
 nd:N.Nodup:=by decide +kernel
 pre:N.take P.length=P:=by rfl
 par:∀x∈P,sc.names.lookup x=some .local\/sc.names.lookup x=some .cell:=by decide +kernel
 nofree:∀y∈sc.names,y.2≠.free:=by decide +kernel
theorem pV{kindOf:Str->Option NameKind}{x:Str}:∀{binds:List (Str×Value)}{m:Str->Option Value},(∀v,(x,v)∉binds)->bindL kindOf binds m x=m x
 |[],_,_=>rfl
 |(n,v)::r,m,h=>by
  unfold bindL;rw[pV λw hw=>h w (K0 _ hw)];split
  .have:x≠n:=by rintro rfl;exact h v R0
   simp[this]
  .rfl
theorem qV{kindOf:Str->Option NameKind}{x:Str}:∀{binds:List (Str×Value)}{m:Str->Option Value},(∀v,(x,v)∉binds)->bindC kindOf binds m x=m x
 |[],_,_=>rfl
 |(n,v)::r,m,h=>by
  unfold bindC;rw[qV λw hw=>h w (K0 _ hw)];split
  .rfl
  .have:x≠n:=by rintro rfl;exact h v R0
   simp[this]
theorem rV{kindOf:Str->Option NameKind}{x:Str}{v:Value}:∀{P:List Str}{vs:List Value}{i:Nat}{m:Str->Option Value},P.Nodup->P[i]?=some x->vs[i]?=some v->kindOf x=some .local -> bindL kindOf (P.zip vs) m x=some v
 |[],_,_,_,_,h,_,_=>by simp at h
 |_::_,[],_,_,_,_,h,_=>by simp at h
 |p::P,w::vs,0,m,nd,h1,h2,hk=>by simp at h1 h2;subst h1;subst h2;show bindL kindOf ((p,w)::P.zip vs) m p=_;unfold bindL;rw[pV λv hv=>(T3.mp nd).1 (o5 hv).1,if_pos hk];simp
 |p::P,w::vs,i+1,m,nd,h1,h2,hk=>by show bindL kindOf ((p,w)::P.zip vs) m x=_;unfold bindL;exact rV (i:=i) (T3.mp nd).2 (by simpa using h1) (by simpa using h2) hk
theorem sV{kindOf:Str->Option NameKind}{x:Str}{v:Value}:∀{P:List Str}{vs:List Value}{i:Nat}{m:Str->Option Value},P.Nodup->P[i]?=some x->vs[i]?=some v->kindOf x≠some .local -> bindC kindOf (P.zip vs) m x=some v
 |[],_,_,_,_,h,_,_=>by simp at h
 |_::_,[],_,_,_,_,h,_=>by simp at h
 |p::P,w::vs,0,m,nd,h1,h2,hk=>by simp at h1 h2;subst h1;subst h2;show bindC kindOf ((p,w)::P.zip vs) m p=_;unfold bindC;rw[qV λv hv=>(T3.mp nd).1 (o5 hv).1,if_neg hk];simp
 |p::P,w::vs,i+1,m,nd,h1,h2,hk=>by show bindC kindOf ((p,w)::P.zip vs) m x=_;unfold bindC;exact sV (i:=i) (T3.mp nd).2 (by simpa using h1) (by simpa using h2) hk
noncomputable def start(N:List Str)(vs:List V):St:=vs.map some++L1 (N.length-vs.length) none
noncomputable def YY(CX:Qz)(P:Program)(w:World)(K:B0)(mg:Str->Option Value)(base:Heap)(N:List Str)(qual:Str)(scope:Scope)(f:Addr)(cd:Value)(A:Around)(outer:List Env)(s:Shared)(H:Hp)(E:XK):Cx where
 prog:=P
 w:=w
 K:=K
 mg:=mg
 base:=base
 A:=A.deeper (envOfC qual scope s.heap.objs.size f cd)
 N:=N
 s₀:=s
 H₀:=H
 env:=envOfC qual scope s.heap.objs.size f cd
 outer:=outer
 stack:=envOfC qual scope s.heap.objs.size f cd::outer
 ex:=[]
 calm:=true
 fn:=λ_=>true
 pn:=[]
 xe:=λe s'=>wpAny (model P w) (A.deeper (envOfC qual scope s.heap.objs.size f cd)) (leaving (envOfC qual scope s.heap.objs.size f cd) e) (λ_ s''=>CX outer H s E e s'') (λe' s''=>CX outer H s E e' s'') s'
def rK(h:sc.names.lookup x=some .cell):∃c,(cellsFrom n sc.names []).lookup x=some c:=by have q:=g8 sc.names n [] (.inl h);exact Option.isSome_iff_exists.mp q
def cq{K:B0}{E:XK}(S:FnScope N ps scope) (hd:A.handled=none) (e0:Env0 P w K mg base A outer s H) (hl:vs.length=ps.length) (r:Vals vs us)(x:InCallC s s.heap.objs.size (bindL (envOfC qual scope s.heap.objs.size f cd).kindOf (ps.zip us) λ_=>none) (cellsFrom (s.heap.objs.size+1) scope.names []) (bindC (envOfC qual scope s.heap.objs.size f cd).kindOf (ps.zip us) λ_=>none) s1):Inv (YY CX P w K mg base N qual scope f cd A outer s H E) [] (start N vs) H s1:=by
 have hpl:ps.length<=N.length:=by have:=congrArg J3 S.pre;rw[P4]at this;lia
 obtain⟨h1,tk,rfl,hk⟩:=x.done;have noA:∀b:Addr,b∉(YY CX P w K mg base N qual scope f cd A outer s H E).ex:=λb z=>absurd (show b∈([]:List Addr) from z) (by simp);refine ⟨⟨e0.mod,S.kind,rfl,rfl,M0 _,λy z c h1 h2=>?_,λy hy=>?_,λy c _ h=>?_,λ_=>hd,Around.frames_deeper e0.frames,.inr ⟨rfl,rfl⟩,λb z=>absurd z (noA b),e0.bs,e0.bsz,λb _ _=>noA b,λb z=>absurd z (noA b),e0.funs,e0.frf⟩,
   rfl,e0.bare,Un.kept hk,⟨_,x.toInCall.ns,λi y v h1 h2 h3=>?_⟩,λy c h=>⟨_,x.cell y c h⟩,e0.hok.fresh (M0 _),λy c h=>?_,λp hp=>absurd (show p∈([]:List (Addr×Obj)) from hp) (by simp),e0.hok.kept hk,?_⟩
 .exact name_of_addr x.apart (PySem.mem_of_lookup h1) (PySem.mem_of_lookup h2)
 .have hy:scope.names.lookup y=some .cell\/scope.names.lookup y=some .free:=hy;rcases hy with hy|hy
  .exact rK hy
  .exact absurd rfl (S.nofree _ (PySem.mem_of_lookup hy))
 .exact B4 (x.above y c (PySem.mem_of_lookup h))
 .have hi:i<vs.length:=by
   unfold start at h2;by_cases hi:i<vs.length
   .exact hi
   .rw[P1 (by simpa using hi)]at h2;rw[X7]at h2;split at h2<;>cases h2
  have ha:vs[i]?=some v:=by
   unfold start at h2;rw[J2 (by simpa using hi),Q0]at h2;cases e:vs[i]? with
   |none=>rw[e]at h2;cases h2
   |some a=>rw[e]at h2;cases h2;rfl
  obtain⟨u,hu,rv⟩:=r.get ha;have hp:ps[i]?=some y:=by rw[<-S.pre,P7 (by lia)];exact h1
  have ndP:ps.Nodup:=by rw[<-S.pre];exact S.nd.sublist (M7 _ _)
  refine ⟨u,rv,?_⟩;rcases S.par y (B1 hp) with k|k
  .exact .inl ⟨k,rV ndP hp hu k⟩
  .obtain⟨c,e⟩:=rK (n:=s.heap.objs.size+1) k;refine .inr ⟨.inl k,c,e,?_⟩;have q:=x.cell y c e;rw[sV ndP hp hu (by show scope.names.lookup y≠_;rw[k];decide)]at q;exact q
 .exact e0.hok.fresh (B4 (x.above y c (PySem.mem_of_lookup h)))
 .unfold start;show _=N.length;rw[U0,q0,List.length_replicate];lia
def pu{CX:Qz}{P:Program}{w:World}{K:B0}{mg:Str->Option Value}{base:Heap}{k:Nat}{f:Addr}{params:Arguments}{body:List Stmt}{dV kV doc pm cdv ct oc:Value}{an od:Option Addr}{osl:Array (Option Value)}{ps:List Str}{sp:Sp} (lk:K.lookup f=some ⟨oc,od,.func (q5 name qual params body scope dV kV doc pm an cdv ct),osl⟩) (hcd:y7 K cdv qual=true) (S:FnScope N ps scope)(len:∀vs H Q E,sp vs H Q E->vs.length=ps.length)(hbody:∀(A:Around) (outer:List Env) (s:Shared) (H:Hp) (vs:List V) (Q:VK) (E:XK),Room k (A.deeper (envOfC qual scope s.heap.objs.size f cdv))->sp vs H Q E -> ∃t,PSs (YY CX P w K mg base N qual scope f cdv A outer s H E) body t/\t {nx:=λ_ H'=>Q .non H',rt:=Q} (start N vs) H):FnOk P w K mg base CX (k+1) f (q5 name qual params body scope dV kV doc pm an cdv ct) ps sp:=by
 refine ⟨len,λA outer s H args us vs Q E hr e0 hb r hsp=>?_⟩;have hl:=len _ _ _ _ hsp;have KX:K.In s.heap:=e0.mod.kin.keeps λb o e=>(e0.bs b o e).1;have lim:s.heap.NoLimit:=e0.mod.nolimit.keeps λb o e=>(e0.bs b o e).1;have hkind:∀y∈ps.zip us,scope.names.lookup y.1=some .local\/(scope.names.lookup y.1=some .cell/\((cellsFrom (s.heap.objs.size+1) scope.names []).lookup y.1).isSome=true):=λ⟨n,v⟩ hy=>by
  rcases S.par n (o5 hy).1 with q|q
  .exact .inl q
  .exact .inr ⟨q,g8 _ _ _ (.inl q)⟩
 refine codeAny_call_function hr.depth (KX _ _ lk) rfl S.co S.gen rfl (PySem.W.codeRec_of KX hcd) (hb _ _ _ _ ?_);refine wpAny_newFunctionEnv_cells S.kind hkind λenv he s1 x=>?_;subst he;refine ⟨lim.keeps x.toInCall.keep,codeAny_func ?_⟩;obtain⟨t,ht,hq⟩:=hbody A outer s H vs Q E (hr.deeper _) hsp;have I:Inv (YY CX P w K mg base N qual scope f cdv A outer s H E) [] (start N vs) H s1:=cq S hr.hd e0 hl r x;refine wpAny_mono (ht [] s1 (start N vs) H _ I hq) (λfl s' hs=>?_) λe s' hs=>hs;have fin:∀{σ':St}{H':Hp}{v:V}{u:Value},Inv (YY CX P w K mg base N qual scope f cdv A outer s H E) [] σ' H' s'->RelV v u->Q v H'->CE outer P w H s Q u s':=λ{σ' H' v u} J rv q=>⟨v,H',J.os,J.bare,J.base,J.hok,rv,q⟩;cases fl with
 |ret u=>obtain⟨v,σ',H',J,rv,q⟩:=hs;exact fin J rv q
 |next=>obtain⟨σ',H',J,q⟩:=hs;exact fin (v:=V.non) (u:=T4) J rfl q
 |brk=>obtain⟨_,_,_,q⟩:=hs;exact False.elim q
 |cont=>obtain⟨_,_,_,q⟩:=hs;exact False.elim q
section
variable {X:Cx}{x:Str}{p pos:Pos}{e:Expr}{es:List Expr}{t:TA}{id T:String}{r:List V->Hp->VK->Prop}
def qu(r:List V->Hp->VK->Prop)(t:TA):TE:=λσ H Q=>t σ H λvs H1=>r vs H1 Q
def sK(hc:fX X (.builtin id) r)(hg:Gl X x)(hm:X.mg x=none)(hv:bootBuiltins x=some (.builtin id))(ha:PA X (e::es) t)(hn:x ≠ "__name__":=by decide)(hdb:(x==("__debug__":Str))=false:=by decide)
  (he:starEach (e::es) X.env=(false,eval e X.env)::starEach es X.env:=by rfl) (hpl:(backTo pos (starEach es X.env)).any (·.1)=false:=by rfl):PE X (.Call (.Name x p) (e::es) [] pos) (qu r t):=by
 intro pins s σ H Q I h;refine wpAny_Call_Name_kw (UX I hg hm hv ?_ hn hdb);exact PyProof.Rows.callWith_builtin1 (eX (ha pos pins s σ H _ I h) λus s1 ⟨vs,H1,I1,r1,q1⟩=>hc pins s1 σ H1 vs us Q I1 r1 q1) he hpl
def JZ(hc:fX X (.type T) r)(hg:Gl X x)(hm:X.mg x=none)(hv:bootBuiltins x=some (.type T))(ha:PA X (e::es) t)(hn:x ≠ "__name__":=by decide)(hdb:(x==("__debug__":Str))=false:=by decide)
  (he:starEach (e::es) X.env=(false,eval e X.env)::starEach es X.env:=by rfl) (hpl:(backTo pos (starEach es X.env)).any (·.1)=false:=by rfl):PE X (.Call (.Name x p) (e::es) [] pos) (qu r t):=by
 intro pins s σ H Q I h;refine wpAny_Call_Name_kw (UX I hg hm hv ?_ hn hdb);exact S1 (eX (ha pos pins s σ H _ I h) λus s1 ⟨vs,H1,I1,r1,q1⟩=>hc pins s1 σ H1 vs us Q I1 r1 q1) he hpl
end
end L2
variable {σ:L2.St}{H H':L2.Hp}{ys:List L2.V}{X:L2.Cx}{r:L2.V->List L2.V->L2.Hp->L2.VK->Prop}
namespace HT
noncomputable def lexLt:Qa->Qa->Bool
 |[],[]=>false
 |[],_::_=>true
 |_::_,[]=>false
 |x::xs,y::ys=>if x=y then lexLt xs ys else decide (x<y)
def lexLt_cons(x y:Int)(xs ys:Qa):lexLt (x::xs) (y::ys)=if x=y then lexLt xs ys else decide (x<y):=rfl
def lexLt_nil_nil:lexLt [] []=false:=rfl
def lexLt_nil_cons(y:Int)(ys:Qa):lexLt [] (y::ys)=true:=rfl
def lexLt_cons_nil(x:Int)(xs:Qa):lexLt (x::xs) []=false:=rfl
def Rz(A:Around)(s:Shared)(a:Int)(t:Tok)(c:Int)(u:Tok):∃e,SeqAt.EqAt A s (.int a t) (.int c u) e/\(e=true↔a=c):=⟨(a==c),SeqAt.EqAt.int_int a t c u,by simp⟩
def Sz(A:Around)(s:Shared)(a:Int)(t:Tok)(c:Int)(u:Tok)(prog:Program)(w:World)(E:Value->Shared->Prop)(Q:Value->Shared->Prop)(h:Q (.bool (decide (a<c))) s):wpAny (model prog w) A (richCompare .Lt (.int a t) (.int c u)) Q E s:=
 (PyProof.Rows.lt_int h:wpAny (model prog w) A (compareOp .Lt (.int a t) (.int c u)) Q E s)
section
open PySem.SeqAt
open PySem.AutoSeq1 (wpAny_loadPart')
open PySem.MeetsSeq PySem.MeetsSeq2 PySem.MeetsSeq3
def QW(l b:Addr)(items items2:Array Value)(n n2:Nat)(dd dd2:Option Addr)(sl sl2:Array (Option Value))(ns ms:Qa)(hi:IntsAre items.toList ns)(hj:IntsAre items2.toList ms):Meets (Builtin.«tuple.__lt__» ⟨[.ref l,.ref b],[]⟩) (λ_ R s=>s.heap.get? l=some {cls:=.type "tuple",dict:=dd,data:=.seq items n,slots:=sl}/\s.heap.get? b=some {cls:=.type "tuple",dict:=dd2,data:=.seq items2 n2,slots:=sl2} /\ R (.ok (.ret (.bool (lexLt ns ms)))) s):=
 .of_wp λprog w A R s h=>by
  obtain⟨hp,g,d,tk,os⟩:=s;obtain⟨hl,hb,h⟩:=h;have f2:=AutoSeq1.sub_tuple_tuple;have z1:items.size=ns.length:=by rw[<-hi.length];simp
  have z2:items2.size=ms.length:=by rw[<-hj.length];simp
  wp_walk using wpAny_loadPart' hl,wpAny_loadPart' hb,wpAny_forIn_list _ (λrest b s'=>b.1=none/\s'=⟨hp,g,d,tk,os⟩/\∃(vs ws:List Value) (ns' ms':Qa),rest=vs.zip ws /\
    IntsAre vs ns'/\IntsAre ws ms'/\ns'.length+items2.size=ms'.length+items.size/\R (.ok (.ret (.bool (lexLt ns' ms')))) ⟨hp,g,d,tk,os⟩) _
  case turn =>
   rintro⟨y,x⟩ rest b s' ⟨hb',rfl,vs,ws,ns',ms',hz,hvi,hwi,hlen,hR⟩;cases hvi with
   |nil=>rw[List.zip_nil_left]at hz;cases hz
   |cons a t hvi' =>
    cases hwi with
    |nil=>rw[List.zip_nil_right]at hz;cases hz
    |cons c u hwi' =>
     rw[T8]at hz;injection hz with hyx hrest;injection hyx with hy hx;subst hy hx;rw[lexLt_cons]at hR;simp only[Y2]at hlen;obtain⟨e,he,hiff⟩:=Rz A.in1 ⟨hp,g,d,tk,os⟩ a t c u;refine wpAny_bind (he prog w _ _ ?_);cases e with
     |true =>
      rw[if_pos (hiff.mp rfl)]at hR
      wp_walk
      exact ⟨rfl,rfl,_,_,_,_,hrest,hvi',hwi',by lia,hR⟩
     |false =>
      rw[if_neg (λq=>absurd (hiff.mpr q) X0)]at hR;have hri:=Sz A.in1 ⟨hp,g,d,tk,os⟩ a t c u prog w
      wp_walk using hri
      exact ⟨_,rfl,by simpa using hR⟩
  case fin =>
   rintro⟨b1,b2⟩ s' ⟨hb',rfl,vs,ws,ns',ms',hz,hvi,hwi,hlen,hR⟩;simp only at hb';subst hb';have hv:lexLt ns' ms'=decide (items.size<items2.size):=by
    cases hvi with
    |nil =>
     cases hwi with
     |nil=>simp only[P5]at hlen;rw[lexLt_nil_nil];exact (decide_eq_false (by lia)).symm
     |cons c u hw=>simp only[P5,Y2]at hlen;rw[lexLt_nil_cons];exact (decide_eq_true (by lia)).symm
    |cons a t hv =>
     cases hwi with
     |nil=>simp only[P5,Y2]at hlen;rw[lexLt_cons_nil];exact (decide_eq_false (by lia)).symm
     |cons c u hw=>rw[T8]at hz;cases hz
   rw[hv]at hR
   wp_walk
   exact ⟨_,rfl,by simpa [S6]using hR⟩
  case h=>exact ⟨rfl,rfl,items.toList,items2.toList,ns,ms,rfl,hi,hj,by lia,h⟩
end
section
variable {w:World}
def lt_tupInts(hl:IsTup s.heap l items)(hb:IsTup s.heap b items2)(hi:IntsAre items.toList ns)(hj:IntsAre items2.toList ms)(hu:A.units<cLine) (h:Q (.bool (lexLt ns ms)) s):wpAny (model prog w) A (compareOp .Lt (.ref l) (.ref b)) Q E s:=by
 obtain⟨⟨cls,dd,data,sl⟩,ho,hc,n,hd⟩:=id hl;obtain⟨⟨cls2,dd2,data2,sl2⟩,ho2,hc2,n2,hd2⟩:=id hb;simp only at hc hd hc2 hd2;subst hc hd hc2 hd2;exact richCompare_meets_room (op:=.Lt) ⟨_,ho,rfl⟩ ⟨_,ho2,rfl⟩ PySem.F.slot_tuple_lt PySem.F.entry_tuple_lt (PySem.F.args_tuple_lt_2 _ _) (QW l b items items2 n n2 dd dd2 sl sl2 ns ms hi hj)
  ⟨ho,ho2,show o9 (lexLt ns ms)≠Value.notImplemented/\Q (.bool (lexLt ns ms)) s from ⟨(λx=>nomatch x),h⟩⟩ hu
def cat_tup(ht:IsTup s.heap t vs.toArray)(hb:IsTup s.heap b ws.toArray)(hv:vs≠[])(h1:ws=[]->Q (.ref t) s) (h2:ws≠[]->Q (.ref s.heap.objs.size) {s with heap:=s.heap.push {cls:=.type "tuple",data:=.seq (vs++ws).toArray}})(hsz:vs.length+ws.length<=sizeLine):wpAny (model prog w) A (binaryOp .Add (.ref t) (.ref b)) Q E s:=by
 obtain⟨⟨cls,dd,data,sl⟩,ho,hc,n,hd⟩:=id ht;obtain⟨⟨cls2,dd2,data2,sl2⟩,ho2,hc2,n2,hd2⟩:=id hb;simp only at hc hd hc2 hd2;subst hc hd hc2 hd2;have e:vs.toArray++ws.toArray=(vs++ws).toArray:=by simp
 by_cases hw:ws=[]
 .exact concat_meets ⟨_,ho,rfl⟩ ⟨_,ho2,rfl⟩ noFill_tuple_add seq_tuple_add PySem.F.slot_tuple_add PySem.F.entry_tuple_add (PySem.F.args_tuple_add_2 _ _)
   (tuple_addW1 t b vs.toArray ws.toArray n n2 dd dd2 sl sl2 (by simpa using hv) (by simp[hw])) ⟨ho,ho2,h1 hw⟩
 .refine concat_meets ⟨_,ho,rfl⟩ ⟨_,ho2,rfl⟩ noFill_tuple_add seq_tuple_add PySem.F.slot_tuple_add PySem.F.entry_tuple_add (PySem.F.args_tuple_add_2 _ _)
   (tuple_addW2 t b vs.toArray ws.toArray n n2 dd dd2 sl sl2 (by simpa using hv) (by simpa using hw) (by rw[V0,V0];exact hsz)) ⟨ho,ho2,?_⟩;rw[e];exact h2 hw
end
end HT
namespace L2
noncomputable abbrev TO:=St->Hp->(Option Int->Hp->Prop)->Prop
def FQ:∀{us:List Value},Vals (ns.map V.int) us->IntsAre us ns:=by
 induction ns with
 |nil=>intro us r;rw[u7]at r;cases r;exact .nil
 |cons n ns ih =>
  intro us r;rw[E1]at r;cases r with
  |cons r1 r2=>obtain⟨t,e⟩:=r1;subst e;exact .cons n t (ih r2)
section
variable {e:Expr}{te:TE}{lo hi:Option Expr}{tl th:TO}{pos p2:Pos}
def pI(K:B0):R2:=λx y H Q=>∃a b xs ys,x=.ref a/\y=.ref b/\SqT K H a xs/\SqT K H b ys/\xs≠[]/\xs.length+ys.length<=sizeLine /\
 (ys=[]->Q (.ref a) H)/\(ys≠[]->∀p,H p=none->Q (.ref p) (DQ H p (.tup (xs++ys))))
def Vals.nil_iff(r:Vals xs us):us=[]↔xs=[]:=by
 cases r with
 |nil=>simp
 |cons _ _=>simp
def Ow:OpR X (binaryOp .Add) (pI X.K):=by intro pins s σ H x y v u Q I rx ry h;obtain⟨a,b,xs,ys,rfl,rfl,ha,hb,hx,hz,q1,q2⟩:=h;cases rx;cases ry;obtain⟨its,r1,p1,_⟩:=I.tuple ha;obtain⟨its2,r2,p2,_⟩:=I.tuple hb;refine HT.cat_tup p1 p2 (λz=>hx (r1.nil_iff.mp z)) (λz=>⟨.ref a,H,I,rfl,q1 (r2.nil_iff.mp z)⟩) (λz=>?_) (by rw[<-r1.length,<-r2.length];exact hz);refine ⟨.ref s.heap.objs.size,_,I.laid (t':=s.toks) (o:=.tup (xs++ys)) (λb ob q=>i0 _ q) (M0 _) ?_,rfl,q2 (λw=>z (r2.nil_iff.mpr w)) _ (I.hok.fresh (M0 _))⟩;exact ⟨by rw[U0];exact hz,_,r1.append r2,IsTupD.new _ _⟩
end
noncomputable def dq(n:Nat)(i:Int):Option Nat:=if 0<=i then (if i<n then some i.toNat else none) else if -(n:Int)<=i then some (i+n).toNat else none
noncomputable def NY{α:Type}(xs:List α)(i:Int):Option α:=(dq xs.length i).bind λj=>xs[j]?
def wF(h:dq n i=some j):seqIndex? i n=some j/\j<n/\-(n:Int)<=i/\i<n:=by
 unfold dq at h;by_cases h0:0<=i
 .rw[if_pos h0]at h;by_cases h1:i<n
  .rw[if_pos h1]at h;have e:i.toNat=j:=O1 h;exact ⟨by rw[seqIndex_of h0 h1,e],by lia,by lia,h1⟩
  .rw[if_neg h1]at h;cases h
 .rw[if_neg h0]at h;by_cases h1:-(n:Int)<=i
  .rw[if_pos h1]at h;have e:(i+n).toNat=j:=O1 h;exact ⟨by rw[seqIndex_neg (by lia) h1,e],by lia,h1,by lia⟩
  .rw[if_neg h1]at h;cases h
def xF(h:NY xs i=some v):∃j,seqIndex? i xs.length=some j/\xs[j]?=some v/\j<xs.length/\-(xs.length:Int)<=i/\i<xs.length:=by
 unfold NY at h;cases e:dq xs.length i with
 |none=>rw[e]at h;cases h
 |some j=>rw[e]at h;obtain⟨h1,h2,h3,h4⟩:=wF e;exact ⟨j,h1,h,h2,h3,h4⟩
def ZV{xs:List α}{j:Nat}{v:α}(h:xs[j]?=some v):NY xs (j:Int)=some v:=by
 have hj:j<xs.length:=(S0.mp h).1;have e:dq xs.length (j:Int)=some j:=by unfold dq;rw[if_pos (by lia),if_pos (by lia)];simp
 unfold NY;rw[e];exact h
def yF(b:Expr):Prop:=∀o i,subscripted b false o i=operate [o,i] (getItem o i)
def IxR(X:Cx)(r:R2):Prop :=
 ∀(value slice:Expr) (pins:List (Addr×Obj)) (s:Shared) (σ:St) (H:Hp) (x y:V) (v u:Value) (Q:VK),Inv X pins σ H s->RelV x v->RelV y u->r x y H Q ->
  subscripted slice false v u=operate [v,u] (getItem v u)->wpAny (model X.prog X.w) X.A (subscriptTail value slice v u) (EP X pins σ Q) X.xe s
def vM(X:Cx)(id:String)(r:V->List V->Hp->VK->Prop):Prop :=
 ∀(pins:List (Addr×Obj)) (s:Shared) (σ:St) (H:Hp) (x:V) (xs:List V) (v:Value) (us:List Value) (Q:VK),Inv X pins σ H s->RelV x v->Vals xs us->r x xs H Q ->
  wpAny (model X.prog X.w) X.A (call (.builtin id) (v::us)) (EP X pins σ Q) X.xe s
section
variable {a b:Expr}{ta tb:TE}{pos:Pos}
def IxR.or{r:R2}(h:IxR X r)(h':IxR X r'):IxR X (λx y H Q=>r x y H Q\/r' x y H Q):=by
 intro value slice pins s σ H x y v u Q I rx ry q hs;rcases q with q|q
 .exact h value slice pins s σ H x y v u Q I rx ry q hs
 .exact h' value slice pins s σ H x y v u Q I rx ry q hs
def qI{r:R2}(hr:IxR X r)(ha:PE X a ta)(hb:PE X b tb)(hs:yF b):PE X (.Subscript a b pos) (lu r ta tb):=by intro pins s σ H Q I h;exact Subscript_ (cB ha hb I h λv u s2 x y H2 I2 rx ry q=>hr a b pins s2 σ H2 x y v u Q I2 rx ry q (hs _ _))
def Pw(K:B0):R2:=λx y H Q=>∃p xs i v,x=.ref p/\y=.int i/\SqL K H p xs/\NY xs i=some v/\Q v H
def Qw(K:B0):R2:=λx y H Q=>∃p xs i v,x=.ref p/\y=.int i/\SqT K H p xs/\NY xs i=some v/\Q v H
def Rw:IxR X (Pw X.K):=by
 intro value slice pins s σ H x y v u Q I rx ry h hs;obtain⟨p,xs,i,z,rfl,rfl,hq,he,q⟩:=h;cases rx;obtain⟨t,rfl⟩:=ry;obtain⟨its,r,pl,hz⟩:=I.list hq;obtain⟨j,h1,h2,h3,h4,h5⟩:=xF he;obtain⟨w,ew,rw'⟩:=r.get h2;have hl:=r.length;have hn:=YV;have fin:EP X pins σ Q w s:=⟨z,H,I,rw',q⟩;by_cases h0:0<=i
 .have hj:i.toNat=j:=by
   rw[seqIndex_of h0 h5]at h1;exact O1 h1
  exact item_listR pl.isList h0 (by lia) (by rw[hj];simpa using ew) fin hs
 .have hj:(i+(its.toArray.size:Int)).toNat=j:=by
   rw[seqIndex_neg (by lia) h4]at h1;rw[V0,<-hl];exact O1 h1
  exact subscriptTail_builtinR (x:=w) pl.isList.typeIs slot_list_getitem.lookup
   (wpAny_getItem_list_neg (Q:=λr s'=>r=w/\EP X pins σ Q r s') pl.isList (by lia) (by rw[V0]<;>lia) (by lia) (by rw[hj];simpa using ew) ⟨rfl,fin⟩) hs
def mB:IxR X (Qw X.K):=by
 intro value slice pins s σ H x y v u Q I rx ry h hs;obtain⟨p,xs,i,z,rfl,rfl,hq,he,q⟩:=h;cases rx;obtain⟨t,rfl⟩:=ry;obtain⟨its,r,pl,hz⟩:=I.tuple hq;obtain⟨j,h1,h2,h3,h4,h5⟩:=xF he;obtain⟨w,ew,rw'⟩:=r.get h2;have hl:=r.length;have hn:=YV;have fin:EP X pins σ Q w s:=⟨z,H,I,rw',q⟩;exact subscriptTail_builtinR (x:=w) pl.typeIs slot_tuple_getitem.lookup
  (getItem_tuple (j:=j) (Q:=λr s'=>r=w/\EP X pins σ Q r s') pl (by lia) (by lia) (by rw[V0,<-hl];exact h1) (by simpa using ew) ⟨rfl,fin⟩) hs
def XH(its:List Value)(n j:Nat)(u:Value):W2 (·.setIfInBounds j u) {cls:=.type "list",data:=.seq its.toArray n}={cls:=.type "list",data:=.seq (its.set j u).toArray n}:=by simp[W2]
def Inv.lst{p:Addr}(I:Inv X pins σ H s)(h:H p=some (.lst xs)):∃(its:List Value) (n:Nat),Vals xs its/\s.heap.get? p=some {cls:=.type "list",data:=.seq its.toArray n}/\xs.length<=sizeLine:=by
 obtain⟨z,its,n,r,e⟩:=I.hok p _ h;exact ⟨its,n,r,e,z⟩
def Inv.lstUpd{p:Addr}(I:Inv X pins σ H s)(h:H p=some (.lst xs))(ho:s.heap.get? p=some {cls:=.type "list",data:=.seq its.toArray n}) (hf:f {cls:=.type "list",data:=.seq its.toArray n}={cls:=.type "list",data:=.seq its'.toArray n'}) (r:Vals ys its') (hz:ys.length<=sizeLine) (t:Nat):Inv X pins σ (DQ H p (.lst ys)) {s with heap:=s.heap.update p f,toks:=t}:=by
 have e:(s.heap.update p f).get? p=some {cls:=.type "list",data:=.seq its'.toArray n'}:=by rw[X1 f ho (by rw[hf]<;>rfl),hf]
 refine I.write (x:=p) (e:=p) (by rw[h];trivial) (.inl rfl) (λb u hb q=>(K1 _ _ (Y1 hb)).trans q) ⟨_,e⟩ ?_;exact ⟨hz,its',n',r,e⟩
def zF:V->V->V->Hp->(Hp->Prop)->Prop:=λo i v H Q=>∃p xs k j,o=.ref p/\i=.int k/\H p=some (.lst xs)/\dq xs.length k=some j/\Q (DQ H p (.lst (xs.set j v)))
def Tz:gI X zF:=by
 intro pins s σ H o i v ov iv u Q I ro ri rv h;obtain⟨p,xs,k,j,rfl,rfl,hp,hj,q⟩:=h;cases ro;obtain⟨t,rfl⟩:=ri;obtain⟨its,n,r,ho,hz⟩:=I.lst hp;obtain⟨h1,h2,h3,h4⟩:=wF hj;have hl:=r.length;have hn:=YV;have I':Inv X pins σ (DQ H p (.lst (xs.set j v))) {s with heap:=s.heap.update p (W2 (·.setIfInBounds j u))}:=I.lstUpd hp ho (XH its n j u) (r.set rv j) (by rw[L4];exact hz) s.toks;by_cases h0:0<=k
 .have hk:k.toNat=j:=by
   rw[seqIndex_of h0 h4]at h1;exact O1 h1
  exact PySem.W.ki_setAt ho h0 (by lia) (by rw[V0,<-hl];exact h4) (by rw[hk];exact ⟨_,I',q⟩)
 .have hk:(k+(its.toArray.size:Int)).toNat=j:=by
   rw[seqIndex_neg (by lia) h3]at h1;rw[V0,<-hl];exact O1 h1
  exact PySem.W.ki_setBack ho (by lia) (by rw[V0,<-hl];exact h3) (by lia) (by rw[hk];exact ⟨_,I',q⟩)
noncomputable def tK:V->Bool
 | .non=>true
 | .bl _=>true
 | .int _=>true
 | .str _=>true
 |_=>false
noncomputable def Sw:V->V->Bool
 | .non,.non=>true
 | .bl a,.bl b=>a==b
 | .bl a,.int b=>(if a then 1 else 0)==b
 | .int a,.bl b=>a==(if b then 1 else 0)
 | .int a,.int b=>a==b
 | .str a,.str b=>a==b
 |_,_=>false
def nB{y:V}(ry:RelV y u)(rx:RelV x v)(fy:tK y=true)(fx:tK x=true):SeqAt.EqAt A s u v (Sw y x):=by
 cases y with
 |non =>
  cases ry;cases x with
  |non=>cases rx;exact SeqAt.EqAt.same _
  |bl b=>cases rx;exact SeqAt.EqAt.none_bool b
  |int b=>obtain⟨t,rfl⟩:=rx;exact SeqAt.EqAt.none_int b t
  |str b=>obtain⟨t,rfl⟩:=rx;exact SeqAt.EqAt.none_str b t
  |_=>exact absurd (show false=true from fx) X0
 |bl a =>
  cases ry;cases x with
  |non=>cases rx;exact SeqAt.EqAt.bool_none a
  |bl b=>cases rx;exact SeqAt.EqAt.bool_bool a b
  |int b=>obtain⟨t,rfl⟩:=rx;exact SeqAt.EqAt.bool_int a b t
  |str b=>obtain⟨t,rfl⟩:=rx;exact SeqAt.EqAt.bool_str a b t
  |_=>exact absurd (show false=true from fx) X0
 |int a =>
  obtain⟨t',rfl⟩:=ry;cases x with
  |non=>cases rx;exact SeqAt.EqAt.int_none a t'
  |bl b=>cases rx;exact SeqAt.EqAt.int_bool a t' b
  |int b=>obtain⟨t,rfl⟩:=rx;exact SeqAt.EqAt.int_int a t' b t
  |str b=>obtain⟨t,rfl⟩:=rx;exact SeqAt.EqAt.int_str a t' b t
  |_=>exact absurd (show false=true from fx) X0
 |str a =>
  obtain⟨t',rfl⟩:=ry;cases x with
  |non=>cases rx;exact SeqAt.EqAt.str_none a t'
  |bl b=>cases rx;exact SeqAt.EqAt.str_bool a t' b
  |int b=>obtain⟨t,rfl⟩:=rx;exact SeqAt.EqAt.str_int a t' b t
  |str b=>obtain⟨t,rfl⟩:=rx;exact SeqAt.EqAt.str_str a t' b t
  |_=>exact absurd (show false=true from fx) X0
 |_=>exact absurd (show false=true from fy) X0
noncomputable def Tw(x:V)(u:Value):Bool:=match u with
 | .none=>Sw .non x
 | .bool b=>Sw (.bl b) x
 | .int i _=>Sw (.int i) x
 | .str z _=>Sw (.str z) x
 |_=>false
def Uz{y:V}(r:RelV y u)(f:tK y=true):Tw x u=Sw y x:=by
 cases y with
 |non=>cases r;rfl
 |bl b=>cases r;rfl
 |int i=>obtain⟨t,rfl⟩:=r;rfl
 |str z=>obtain⟨t,rfl⟩:=r;rfl
 |_=>exact absurd (show false=true from f) X0
theorem aU{x:V}:∀{xs:List V}{us:List Value},Vals xs us->xs.all tK=true->us.any (Tw x)=xs.any λy=>Sw y x
 |_,_,.nil,_=>rfl
 |y::xs,u::us,.cons r t,f=>by rw[M8,N3]at f;rw[S5,S5,Uz r f.1,aU t f.2]
theorem ZY{x:V}{v:Value}(rx:RelV x v)(fx:tK x=true):∀{xs:List V}{us:List Value},Vals xs us->xs.all tK=true->∀u∈us,SeqAt.EqAt A s u v (Tw x u)
 |_,_,.nil,_=>λu hu=>by cases hu
 |y::xs,u::us,.cons r t,f=>λu' hu=>by
  rw[M8,N3]at f;rcases Y0.mp hu with rfl|hu
  .rw[Uz r f.1];exact nB r rx f.1 fx
  .exact ZY rx fx t f.2 u' hu
noncomputable def sI(x:V)(xs:List V):Bool:=xs.any λy=>Sw y x
def aN(K:B0)(neg:Bool):R2:=λx y H Q=>∃p xs,y=.ref p/\(SqL K H p xs\/SqT K H p xs)/\tK x=true/\xs.all tK=true/\Q (.bl (if neg then !sI x xs else sI x xs)) H
def fq:OpR X (compareOp .In) (aN X.K false):=by
 intro pins s σ H x y v u Q I rx ry h;obtain⟨p,xs,rfl,hq,fx,fs,q⟩:=h;cases ry;rcases hq with hq|hq
 .obtain⟨its,r,pl,hz⟩:=I.list hq;refine SeqAt.in_listAt (Tw x) pl.isList (λw hw=>ZY rx fx r fs w (by simpa using hw)) ⟨.bl _,H,I,rfl,?_⟩;rw[show its.toArray.any (Tw x)=its.any (Tw x) by simp,aU r fs];exact q
 .obtain⟨its,r,pl,hz⟩:=I.tuple hq;refine SeqAt.in_tupleAt (Tw x) pl (λw hw=>ZY rx fx r fs w (by simpa using hw)) ⟨.bl _,H,I,rfl,?_⟩;rw[show its.toArray.any (Tw x)=its.any (Tw x) by simp,aU r fs];exact q
def bU:fX X (.builtin "len") (λxs H Q=>∃p ys,xs=[.ref p]/\(SqL X.K H p ys\/SqT X.K H p ys)/\Q (.int ys.length) H):=by
 intro pins s σ H xs us Q I r h;obtain⟨p,ys,rfl,hq,q⟩:=h;obtain⟨u,rfl,rx⟩:=iZ r;cases rx;have hn:=YV;rcases hq with hq|hq
 .obtain⟨its,r',pl,hz⟩:=I.list hq;have hlen:=r'.length;exact Calls.call_len_list pl.isList (by simp only[V0]<;>lia) ⟨.int ys.length,H,I.tok _,⟨s.toks+1,by rw[V0,hlen]⟩,q⟩
 .obtain⟨its,r',pl,hz⟩:=I.tuple hq;have hlen:=r'.length;exact len_tuple pl (by simp only[V0]<;>lia) ⟨.int ys.length,H,I.tok _,⟨s.toks+1,by rw[V0,hlen]⟩,q⟩
def RW:fX X (.type "tuple") (λxs H Q=>∃p ys,xs=[.ref p]/\((SqL X.K H p ys/\∀l,H l=none->Q (.ref l) (DQ H l (.tup ys)))\/(SqT X.K H p ys/\Q (.ref p) H))):=by
 intro pins s σ H xs us Q I r h;obtain⟨p,ys,rfl,h⟩:=h;obtain⟨u,rfl,rx⟩:=iZ r;cases rx;rcases h with⟨hq,q⟩|⟨hq,q⟩
 .obtain⟨its,r',pl,hz⟩:=I.list hq;have hlen:=r'.length;refine call_tuple_list pl.isList (λh' kp=>?_) (by simp only[V0]<;>lia);have I1:Inv X pins σ H {s with heap:=h'}:=I.kept (t':=s.toks) kp;have I2:Inv X pins σ (DQ H h'.objs.size (.tup ys)) {s with heap:=h'.push {cls:=.type "tuple",data:=.seq its.toArray}}:=I1.laid (t':=s.toks) (λb o e=>i0 _ e) (M0 _) (show ObjOk X.prog X.w _ _ _ (.tup ys) from ⟨hz,its,r',IsTupD.new _ _⟩);exact ⟨.ref h'.objs.size,_,I2,rfl,q _ (I1.hok.fresh (M0 _))⟩
 .obtain⟨its,r',pl,hz⟩:=I.tuple hq;exact call_tuple_same pl ⟨.ref p,H,I,rfl,q⟩
def bN(K:B0)(T:String)(x:V)(H:Hp):Prop:=match x with
 | .str _=>T = "str"
 | .int _=>T = "int"
 | .ref p=>(T = "list"/\∃xs,SqL K H p xs)\/(T = "tuple"/\∃o,K.lookup p=some o/\o.cls=.type "tuple"/\o.dict=none) \/
   (T = "dict"/\((∃kvs,H p=some (.dK kvs))\/∃kvs,H p=some (.dT kvs)))\/(T = "set"/\∃S n,H p=some (.set S n))
 |_=>False
def Vz{T:String}(I:Inv X pins σ H s)(r:RelV x v)(ty:bN X.K T x H):s.TypeIs v T/\∀a,v=.ref a->∃ob,s.heap.get? a=some ob/\ob.dict=none:=by
 cases x with
 |str z=>obtain⟨t,rfl⟩:=r;cases (show T = "str" from ty);exact ⟨typeIs_str s z t,λ_ e=>nomatch e⟩
 |int i=>obtain⟨t,rfl⟩:=r;cases (show T = "int" from ty);exact ⟨typeIs_int s i t,λ_ e=>nomatch e⟩
 |ref p =>
  cases r;rcases ty with⟨rfl,xs,hq⟩|⟨rfl,o,hk,hc,hd⟩|⟨rfl,hk⟩|⟨rfl,S,n,hk⟩
  .obtain⟨its,_,pl,_⟩:=I.list hq;refine ⟨pl.isList.typeIs,λa e=>?_⟩;cases e;obtain⟨o,n,e,c,hd,_⟩:=pl;exact ⟨o,e,hd⟩
  .refine ⟨⟨o,I.kIn p o hk,hc⟩,λa e=>?_⟩;cases e;exact ⟨o,I.kIn _ o hk,hd⟩
  .have z:∃o,s.heap.get? p=some o/\o.ExactDict:=by
    rcases hk with⟨kvs,hk⟩|⟨kvs,hk⟩
    .obtain⟨_,_,_,_,o,_,_,e,ex,_⟩:=I.hok p _ hk;exact ⟨o,e,ex⟩
    .obtain⟨_,_,_,_,o,_,_,e,ex,_⟩:=I.hok p _ hk;exact ⟨o,e,ex⟩
   obtain⟨o,e,ex⟩:=z;refine ⟨⟨o,e,ex.1⟩,λa e2=>?_⟩;cases e2;exact ⟨o,e,ex.2.1⟩
  .obtain⟨o,_,_,_,e,ex,_⟩:=I.hok p _ hk;refine ⟨⟨o,e,ex.1⟩,λa e2=>?_⟩;cases e2;exact ⟨o,e,ex.2.1⟩
 |_=>exact False.elim ty
def uI(K:B0)(T:String)(r:V->List V->Hp->VK->Prop)(to:TE):TE:=λσ H Q=>to σ H λx H1=>bN K T x H1/\r x [] H1 Q
def eO(K:B0)(T:String)(r:V->List V->Hp->VK->Prop)(to:TE)(t:TA):TE:=λσ H Q=>to σ H λx H1=>bN K T x H1/\t σ H1 λxs H2=>r x xs H2 Q
variable {o e:Expr}{es:List Expr}{to:TE}{t:TA}{apos cpos:Pos}{T id:String}
def oB(pa:PlainAttrs T)(slot:Slot T name id)(hty:typeOf (.builtin id)=pure (.type "method_descriptor"))(hm:vM X id r)(ho:PE X o to)
  (hbase:attributeBase o name X.env (eval o X.env)=eval o X.env:=by rfl) (hline:(apos.endLine==cpos.line)=true:=by rfl):PE X (.Call (.Attribute o name apos) [] [] cpos) (uI X.K T r to):=by
 intro pins s σ H Q I h;refine wpAny_Call_method0_late hbase hline (eX (ho pins s σ H _ I h) λv s1 ⟨x,H1,I1,r1,ty,q1⟩=>?_);obtain⟨h1,h2⟩:=Vz I1 r1 ty;exact ⟨T,id,pa,slot,hty,h1,h2,Calls.callWith_builtin rfl (PySem.evalArgs_none (hm pins s1 σ H1 x [] v [] Q I1 r1 .nil q1))⟩
def vI(pa:PlainAttrs T)(slot:Slot T name id)(hty:typeOf (.builtin id)=pure (.type "method_descriptor"))(hm:vM X id r)(ho:PE X o to)(ha:PA X (e::es) t)
  (hbase:attributeBase o name X.env (eval o X.env)=eval o X.env:=by rfl)
  (hfew:((backTo cpos (starEach (e::es) X.env)).all (λx=>!x.1)&&(backToKw cpos (keywordEach [] X.env)).all (λx=>x.1.isSome)
    && decide ((e::es).length+([]:List Keyword).length+(if ([]:List Keyword).isEmpty then 0 else 1)<30))=true:=by rfl)
  (hline:(apos.endLine==cpos.line)=true:=by rfl) (hs:starEach (e::es) X.env=(false,eval e X.env)::starEach es X.env:=by rfl) (hplain:(backTo cpos (starEach es X.env)).any (·.1)=false:=by rfl) :
  PE X (.Call (.Attribute o name apos) (e::es) [] cpos) (eO X.K T r to t):=by
 intro pins s σ H Q I h;refine wpAny_Call_method_late hbase hfew hline rfl (eX (ho pins s σ H _ I h) λv s1 ⟨x,H1,I1,r1,ty,q1⟩=>?_);obtain⟨h1,h2⟩:=Vz I1 r1 ty;refine ⟨T,id,pa,slot,hty,h1,h2,?_⟩;have hA:=ha cpos pins s1 σ H1 _ I1 q1;rw[hs]at hA ⊢;refine Calls.callWith_builtin (by show (false||(backTo cpos (starEach es X.env)).any (·.1))=false;rw[hplain]<;>rfl) (Calls.evalArgs_plain ?_);exact eX hA λus s2 ⟨vs,H2,I2,r2,q2⟩=>hm pins s2 σ H2 x vs v us Q I2 r1 r2 q2
end
def wM(X:Cx)(id:String)(r:V->List V->Hp->VK->Prop):Prop :=
 ∀(pins:List (Addr×Obj)) (s:Shared) (σ:St) (H:Hp) (x:V) (xs:List V) (v:Value) (us:List Value) (Q:VK),Inv X pins σ H s->RelV x v->Vals xs us->r x xs H Q ->
  wpAny (model X.prog X.w) X.A (call (.builtin id) (v::us)) (EP X pins σ Q) X.xe s
theorem Vals.one:∀{x:V}{us:List Value},Vals [x] us->∃u,us=[u]/\RelV x u
 |_,_,.cons r .nil=>⟨_,rfl,r⟩
theorem Vals.zero:∀{us:List Value},Vals [] us->us=[]
 |_,.nil=>rfl
def Vals.reverse(h:Vals xs us):Vals xs.reverse us.reverse:=by
 induction h with
 |nil=>exact .nil
 |cons r t ih=>rw[U5,U5];exact Vals.append ih (.cons r .nil)
theorem Vals.rep{xs:List V}(h:Vals xs us):∀k:Nat,Vals (L1 k xs).flatten (L1 k us).flatten
 |0=>.nil
 |k+1=>by rw[J4,J4,u5,u5];exact Vals.append h (Vals.rep h k)
theorem tV(its:List Value):∀(k:Nat) (acc:List Value), q9 (λx1 x2=>x1++x2) acc.toArray (L1 k its.toArray)=(acc++(L1 k its).flatten).toArray
 |0,acc=>by simp
 |k+1,acc=>by
  have e:acc.toArray++its.toArray=(acc++its).toArray:=by simp
  have e2:(acc++its)++(L1 k its).flatten=acc++(L1 (k+1) its).flatten:=by rw[J4,u5,S2]
  rw[<-e2,<-tV its k (acc++its),<-e,J4,List.foldl_cons]
section
variable {b:Addr}{xs zs:List V}
def Inv.lset(I:Inv X pins σ H s)(hH:H l=some (.lst xs))(e:s.heap.get? l=some {cls:=.type "list",data:=.seq its.toArray n}) (hf:f its.toArray=its'.toArray) (hv:Vals ys its') (hz:ys.length<=sizeLine):Inv X pins σ (DQ H l (.lst ys)) {s with heap:=s.heap.update l (W2 f),toks:=t'}:=by
 have q:=PySem.IsL.update e f;rw[hf]at q;refine I.write (x:=l) (e:=l) (by rw[hH];exact trivial) (.inl rfl) (λb' u hb hu=>(K1 s.heap (W2 f) (Y1 hb)).trans hu) ⟨_,q⟩ ?_;exact ⟨hz,its',_,hv,q⟩
def Inv.lnew(I:Inv X pins σ H s)(hv:Vals ys its)(hz:ys.length<=sizeLine):Inv X pins σ (DQ H s.heap.objs.size (.lst ys)) {s with heap:=s.heap.push {cls:=.type "list",data:=.seq its.toArray},toks:=t'}:=
 I.laid (λ_ _ q=>i0 _ q) (M0 _) ⟨hz,its,0,hv,v0 _ rfl⟩
def Inv.fresh(I:Inv X pins σ H s):H s.heap.objs.size=none:=I.hok.fresh (M0 _)
def Inv.lstM(I:Inv X pins σ H s)(hH:H l=some (.lst xs)):xs.length<=sizeLine/\∃(its:List Value) (n:Nat),Vals xs its/\xs.length=its.length/\s.heap.get? l=some {cls:=.type "list",data:=.seq its.toArray n}:=by obtain⟨z,its,n,r,e⟩:=I.hok l _ hH;exact ⟨z,its,n,r,r.length,e⟩
def LU(h:n<=sizeLine):E5 n=false:=by unfold E5;exact decide_eq_false (by lia)
end
def AF:V->List V->Hp->VK->Prop:=λx vs H Q=>∃l xs y,x=.ref l/\vs=[y]/\H l=some (.lst xs)/\xs.length<sizeLine/\Q .non (DQ H l (.lst (xs++[y])))
def KJ:wM X "list.append" AF:=by intro pins s σ H x vs v us Q I rx rv h;obtain⟨l,xs,y,rfl,rfl,hH,hz,q⟩:=h;cases rx;obtain⟨u,rfl,ru⟩:=rv.one;obtain⟨z,its,n,r,hl,e⟩:=I.lstM hH;refine call_meets F.slot_list_append ⟨_,e,rfl⟩ F.entry_list_append (F.args_list_append_2 _ _) (PySem.list_append l its.toArray n u (by rw[V0];lia)) ⟨e,?_⟩;refine ⟨.non,_,I.lset (its':=its++[u]) hH e (by simp) (r.append (.cons ru .nil)) ?_,rfl,q⟩;rw[U0,Z2];lia
def BF:V->List V->Hp->VK->Prop:=λx vs H Q=>∃l b xs zs,x=.ref l/\vs=[.ref b]/\H l=some (.lst xs)/\H b=some (.lst zs)/\xs.length+zs.length<=sizeLine/\Q .non (DQ H l (.lst (xs++zs)))
def gq:wM X "list.extend" BF:=by
 intro pins s σ H x vs v us Q I rx rv h;obtain⟨l,b,xs,zs,rfl,rfl,hH,hB,hz,q⟩:=h;cases rx;obtain⟨u,rfl,ru⟩:=rv.one;cases ru;obtain⟨z,its,n,r,hl,e⟩:=I.lstM hH;obtain⟨z2,its2,n2,r2,hl2,e2⟩:=I.lstM hB;have hsz:its.toArray.size+its2.toArray.size<=sizeLine:=by rw[V0,V0];lia
 have hlong:¬(!its.toArray.isEmpty&&E5 (its.toArray.size+its2.toArray.size))=true:=by rw[LU hsz,Bool.and_false];exact X0
 refine call_meets F.slot_list_extend ⟨_,e,rfl⟩ F.entry_list_extend (F.args_list_extend_2 _ _)
  (AutoSeq1.list_extend_list_list_0 l its.toArray n b its2.toArray n2 hlong (by rw[V0];lia) (by lia)) ⟨e,e2,?_⟩;refine ⟨.non,_,I.lset (its':=its++its2) hH e (by simp) (r.append r2) ?_,rfl,q⟩;rw[U0];lia
def MU:V->List V->Hp->VK->Prop:=λx vs H Q=>∃l xs,x=.ref l/\vs=[]/\H l=some (.lst xs)/\Q .non (DQ H l (.lst xs.reverse))
def YH:wM X "list.reverse" MU:=by intro pins s σ H x vs v us Q I rx rv h;obtain⟨l,xs,rfl,rfl,hH,q⟩:=h;cases rx;have hus:=rv.zero;subst hus;obtain⟨z,its,n,r,hl,e⟩:=I.lstM hH;refine call_meets F.slot_list_reverse ⟨_,e,rfl⟩ F.entry_list_reverse (F.args_list_reverse_1 _) (AutoSeq1.list_reverse_list_0 l its.toArray n (by rw[V0];lia)) ⟨e,?_⟩;refine ⟨.non,_,I.lset (its':=its.reverse) hH e (by simp) r.reverse ?_,rfl,q⟩;rw[j7];lia
def pB:R2:=λx y H Q=>∃l b xs zs,x=.ref l/\y=.ref b/\H l=some (.lst xs)/\H b=some (.lst zs)/\xs.length+zs.length<=sizeLine/\∀p,H p=none->Q (.ref p) (DQ H p (.lst (xs++zs)))
def qB:OpR X (binaryOp .Add) pB:=by
 intro pins s σ H x y v u Q I rx ry h;obtain⟨l,b,xs,zs,rfl,rfl,hH,hB,hz,q⟩:=h;cases rx;cases ry;obtain⟨z,its,n,r,hl,e⟩:=I.lstM hH;obtain⟨z2,its2,n2,r2,hl2,e2⟩:=I.lstM hB;refine PySem.P.add_list e e2 ?_ (by rw[V0,V0];lia);have ea:its.toArray++its2.toArray=(its++its2).toArray:=by simp
 rw[ea];exact ⟨.ref _,_,I.lnew (t':=s.toks) (r.append r2) (by rw[U0];lia),rfl,q _ I.fresh⟩
def rB:R2:=λx y H Q=>∃l k xs,x=.ref l/\y=.int k/\H l=some (.lst xs)/\-(2 ^ 63)<=k/\k<2 ^ 63/\xs.length*k.toNat<=sizeLine /\
 ∀p,H p=none->Q (.ref p) (DQ H p (.lst (L1 k.toNat xs).flatten))
def Uw(xs:List α)(k:Nat):(L1 k xs).flatten.length=k*xs.length:=by
 induction k with
 |zero=>simp
 |succ k ih=>rw[J4,u5,U0,ih,Nat.succ_mul,Nat.add_comm]
def uB:OpR X (binaryOp .Mult) rB:=by
 intro pins s σ H x y v u Q I rx ry h;obtain⟨l,k,xs,rfl,rfl,hH,h1,h2,hz,q⟩:=h;cases rx;obtain⟨t,rfl⟩:=ry;obtain⟨z,its,n,r,hl,e⟩:=I.lstM hH;have hlen:its.toArray.size*k.toNat<=sizeLine:=by rw[V0,<-hl];exact hz
 have hcap:¬its.toArray.size*k.toNat > (2 ^ 63-1) / 8:=by
  have:(sizeLine:Nat)<=(2 ^ 63-1) / 8:=by decide
  lia
 have hfit:¬(!Builtin.List.listFitsIndex k)=true:=by rw[fitsIndex_both h1 h2];exact X0
 have hlong:¬E5 (its.toArray.size*k.toNat)=true:=by rw[LU hlen];exact X0
 have hnew:q9 (λx1 x2=>x1++x2) #[] (L1 (if its.toArray.isEmpty=true then 0 else k.toNat) its.toArray)=(L1 k.toNat its).flatten.toArray:=by
  have f0:∀m:Nat,q9 (λx1 x2=>x1++x2) #[] (L1 m its.toArray)=(L1 m its).flatten.toArray:=λm=>by have:=tV its m [];rw[g7]at this;exact this
  rw[f0];cases its with
  |nil=>simp
  |cons a r'=>rw[if_neg (by simp)]
 refine wpAny_binaryOp_repeat_ref (T:="list") (U:="int") (by decide) ⟨_,e,rfl⟩ (λs'=>typeIs_int s' k t) noFill_list_mul F.fills_int_mul F.slot_int_rmul repeat_list F.slot_int_index.lookup
  (call_meets F.slot_int_rmul (typeIs_int s k t) F.entry_int_rmul (F.args_int_rmul_2 _ _) (int___rmul___int_list k t l its.toArray n)
    ⟨e,rfl,⟨_,e,rfl⟩,call_meets F.slot_list_mul ⟨_,e,rfl⟩ F.entry_list_mul (F.args_list_mul_2 _ _) (AutoListH.list___mul___list_int_3 l its.toArray n k t hfit hcap hlong) ⟨e,?_⟩⟩);rw[hnew];exact ⟨.ref _,_,I.lnew (t':=s.toks) (r.rep k.toNat) (by rw[Uw,Nat.mul_comm];exact hz),rfl,q _ I.fresh⟩
section
variable {w:World}
set_option maxRecDepth 100000 in
end
section
variable {κ:Type}[DecidableEq κ]
noncomputable def TZ(kvs:List (κ×V))(k:κ):Option V:=(kvs.find? λkv=>decide (kv.1=k)).map (·.2)
noncomputable def EZ(kvs:List (κ×V))(k:κ)(v:V):List (κ×V):=if (kvs.any λkv=>decide (kv.1=k))=true then kvs.map (λkv=>if kv.1=k then (kv.1,v) else kv) else kvs++[(k,v)]
def aW{p:κ×V}{r:List (κ×V)}(e:p.1=k):TZ (p::r) k=some p.2:=by simp[TZ,j4,e]
def bW{p:κ×V}{r:List (κ×V)}(e:¬p.1=k):TZ (p::r) k=TZ r k:=by simp[TZ,j4,e]
theorem cW(k:κ):∀kvs:List (κ×V),(kvs.any λkv=>decide (kv.1=k))=(TZ kvs k).isSome
 |[]=>rfl
 |p::r=>by
  rw[S5];by_cases e:p.1=k
  .simp only[aW e,decide_eq_true e,Bool.true_or,U8]
  .rw[bW e,decide_eq_false e,Bool.false_or];exact cW k r
def pJ(kvs:List (κ×V))(k:κ)(v:V):(EZ kvs k v).length<=kvs.length+1:=by
 unfold EZ;split
 .rw[q0];lia
 .rw[U0,Y2,P5];lia
def Wz{k:κ}(v:V)(h:TZ kvs k=none):EZ kvs k v=kvs++[(k,v)]:=by unfold EZ;rw[cW,h];exact if_neg (by decide)
def RelO.isSome_eq{o:Option V}{u:Option Value}(r:RelO o u):o.isSome=u.isSome:=by
 cases o with
 |none=>cases u with
  |none=>rfl
  |some _=>exact (show False from r).elim
 |some _=>cases u with
  |none=>exact (show False from r).elim
  |some _=>rfl
def KV.val(r:KV kvs vs)(k:κ):RelO (TZ kvs k) (valueAt vs k):=by
 unfold KV at r;induction r with
 |nil=>exact True.intro
 |@cons p q ps qs h t ih =>
  obtain⟨h1,h2⟩:=h;by_cases e:p.1=k
  .have e':q.1=k:=h1.symm.trans e;have b:valueAt (q::qs) k=some q.2:=by simp[valueAt,j4,e']
   rw[aW e,b];exact h2
  .have e':¬q.1=k:=λz=>e (h1.trans z);have b:valueAt (q::qs) k=valueAt qs k:=by simp[valueAt,j4,e']
   rw[bW e,b];exact ih
def KV.any(r:KV kvs vs)(k:κ):(kvs.any λkv=>decide (kv.1=k))=vs.any λkv=>decide (kv.1=k):=by
 unfold KV at r;induction r with
 |nil=>rfl
 |cons h t ih=>rw[S5,S5,ih,h.1]
def KV.repl(r:KV kvs vs)(k:κ){y:V}{u:Value}(ry:RelV y u):KV (kvs.map λkv=>if kv.1=k then (kv.1,y) else kv) (vs.map λkv=>if kv.1=k then (kv.1,u) else kv):=by
 unfold KV at r ⊢;induction r with
 |nil=>exact .nil
 |@cons p q ps qs h t ih =>
  rw[E1,E1];refine .cons ?_ ih;obtain⟨h1,h2⟩:=h;by_cases e:p.1=k
  .rw[if_pos e,if_pos (h1.symm.trans e)];exact ⟨h1,ry⟩
  .rw[if_neg e,if_neg (λz=>e (h1.trans z))];exact ⟨h1,h2⟩
def KV.put(r:KV kvs vs)(k:κ){y:V}{u:Value}(ry:RelV y u):KV (EZ kvs k y) (stored vs k u):=by
 unfold EZ stored;rw[r.any k];by_cases e:(vs.any λkv=>decide (kv.1=k))=true
 .rw[if_pos e,if_pos e];exact r.repl k ry
 .rw[if_neg e,if_neg e];exact Paired.snoc r ⟨rfl,ry⟩
def KV.length{vs:List (κ×Value)}(r:KV kvs vs):kvs.length=vs.length:=Paired.length r
end
def CF{P:Program}{w:World}{k:OQ}(r:RelV (kV k) u):(lX P w).is k u=true:=by
 cases k with
 |inl i=>obtain⟨t,e⟩:=(show ∃t,u=v7 i t from r);subst e;exact HU P w i t
 |inr x=>obtain⟨t,e⟩:=(show ∃t,u=Value.str x t from r);subst e;exact IU P w x t
theorem uV{P:Program}{w:World}:∀{ks:List OQ}{us:List Value},Vals (ks.map kV) us->ItemsAre (lX P w) ks us
 |[],_,r=>by rw[u7]at r;cases r;exact .nil
 |k::ks,_,r=>by
  rw[E1]at r;cases r with
  |cons h t=>exact .cons (CF h) (uV t)
abbrev KT(H:Hp):List (List OQ×V)->List (List OQ×Addr×Value)->Prop:=Paired λp q=>p.1=q.1/\H q.2.1=some (.tup (p.1.map kV))/\RelV p.2 q.2.2
def KT.val(r:KT H kvs xs)(k:List OQ):RelO (TZ kvs k) ((atKey xs k).map (·.2)):=by
 induction r with
 |nil=>exact True.intro
 |@cons p q ps qs h t ih =>
  obtain⟨h1,_,h2⟩:=h;by_cases e:p.1=k
  .have e':q.1=k:=h1.symm.trans e;have b:atKey (q::qs) k=some q.2:=by simp[atKey,j4,e']
   rw[aW e,b];exact h2
  .have e':¬q.1=k:=λz=>e (h1.trans z);have b:atKey (q::qs) k=atKey qs k:=by simp[atKey,j4,e']
   rw[bW e,b];exact ih
def KT.repl(r:KT H kvs xs)(k:List OQ){y:V}{u:Value}(ry:RelV y u):KT H (kvs.map λkv=>if kv.1=k then (kv.1,y) else kv) (xs.map (putAt k u)):=by
 induction r with
 |nil=>exact .nil
 |@cons p q ps qs h t ih =>
  rw[E1,E1];refine .cons ?_ ih;obtain⟨h1,h2,h3⟩:=h;unfold putAt;by_cases e:p.1=k
  .rw[if_pos e,if_pos (h1.symm.trans e)];exact ⟨h1,h2,ry⟩
  .rw[if_neg e,if_neg (λz=>e (h1.trans z))];exact ⟨h1,h2,h3⟩
def KT.put(r:KT H kvs xs)(k:List OQ){b:Addr}{y:V}{u:Value}(hb:H b=some (.tup (k.map kV)))(ry:RelV y u):KT H (EZ kvs k y) (storedH xs k b u):=by
 have e:(kvs.any λkv=>decide (kv.1=k))=(atKey xs k).isSome:=by rw[cW,(r.val k).isSome_eq,h9]
 unfold EZ storedH;rw[e];by_cases q:(atKey xs k).isSome=true
 .rw[if_pos q,if_pos q];exact r.repl k ry
 .rw[if_neg q,if_neg q];exact Paired.snoc r ⟨rfl,hb,ry⟩
def KT.keeps(r:KT H kvs xs)(ht:∀b ys,H b=some (.tup ys)->H' b=some (.tup ys)):KT H' kvs xs:=Paired.mapP r λ_ _ z=>⟨z.1,ht _ _ z.2.1,z.2.2⟩
section
variable {P:Program}{w:World}{a:Addr}
def tu{u:HO}(ok:HOk P w H h)(e:Rd H a u):ObjOk P w H h a u:=e.ok ok
def DF{kvs:List (OQ×V)}(ok:HOk P w H h)(e:Rd H a (.dK kvs)):kvs.length<=sizeLine/\(a==sysModules)=false/\∃vs,KV kvs vs/\h.DictOf (lX P w) a vs:=show ObjOk P w H h a (.dK kvs) from tu ok e
def uu{kvs:List (OQ×V)}(ok:HOk P w H h)(e:H a=some (.dK kvs)):kvs.length<=sizeLine/\(a==sysModules)=false/\∃vs,KV kvs vs/\h.DictOf (lX P w) a vs:=DF ok (.inl e)
def ZH{ks:List OQ}(ok:HOk P w H h)(e:H a=some (.tup (ks.map kV))):(tupleKind (lX P w)).is h ks a:=by obtain⟨_,its,r,o,h1,h2,n,h3,_⟩:=(show ObjOk P w H h a (.tup (ks.map kV)) from ok a _ e);exact ⟨o,its.toArray,n,h1,h2,h3,by simpa using uV r⟩
def EF{kvs:List (List OQ×V)}(ok:HOk P w H h)(e:Rd H a (.dT kvs)):kvs.length<=sizeLine/\(a==sysModules)=false /\ ∃xs,KT H kvs xs/\h.DictOfH (tupleKind (lX P w)) a xs:=by
 obtain⟨z,y,xs,r,o,es,ep,h1,h2,h3,h4,h5⟩:=(show ObjOk P w H h a (.dT kvs) from tu ok e);refine ⟨z,y,xs,r,o,es,ep,h1,h2,h3,h4,λx hx=>?_,h5⟩;have all:∀{l:List (List OQ×V)}{m:List (List OQ×Addr×Value)},KT H l m->∀x∈m,(tupleKind (lX P w)).is h x.1 x.2.1:=by
  intro l m q;induction q with
  |nil=>intro x hx;exact nomatch hx
  |@cons p q ps qs hq t ih =>
   intro x hx;rcases Y0.mp hx with e|hx
   .subst e;exact ZH ok (by rw[<-hq.1];exact hq.2.1)
   .exact ih x hx
 exact all r x hx
def wI{kvs:List (List OQ×V)}(ok:HOk P w H h)(e:H a=some (.dT kvs)):kvs.length<=sizeLine/\(a==sysModules)=false /\ ∃xs,KT H kvs xs/\h.DictOfH (tupleKind (lX P w)) a xs:=EF ok (.inl e)
end
def Xz(H:Hp)(a:Addr)(y:V)(r:Option V):Prop:=(∃kvs k,Rd H a (.dK kvs)/\y=kV k/\r=TZ kvs k)\/∃kvs k b,Rd H a (.dT kvs)/\y=.ref b/\H b=some (.tup (k.map kV))/\r=TZ kvs k
def vB(H:Hp)(a:Addr)(y v:V)(H':Hp):Prop :=
 (∃kvs k,H a=some (.dK kvs)/\y=kV k/\kvs.length<sizeLine/\H'=DQ H a (.dK (EZ kvs k v))) \/
 ∃kvs k b,H a=some (.dT kvs)/\y=.ref b/\H b=some (.tup (k.map kV))/\kvs.length<sizeLine/\H'=DQ H a (.dT (EZ kvs k v))
section
variable {a:Addr}{y v:V}{r:Value}{o:Option V}
def Inv.big(I:Inv X pins σ H s):sysModules<s.heap.objs.size:=by have h:mainGlobals<s.heap.objs.size:=(I.mod.glob.keeps I.bk).lt;exact e6 (by decide) h
def iq(hu:A.units+1<cLine)(I:Inv X pins σ H s)(g:Xz H a y (some v))(ry:RelV y u)(h:∀w' s',Inv X pins σ H s'->RelV v w'->Q w' s'):wpAny (model X.prog X.w) A (getItem (.ref a) u) Q E s:=by
 rcases g with⟨kvs,k,e,ey,l⟩|⟨kvs,k,b,e,ey,eb,l⟩
 .subst ey;obtain⟨z,hd,vs,rel,dd⟩:=DF I.hok e;obtain⟨w',hw,rw'⟩:=RelO.some_of (v:=v) (o:=valueAt vs k) (by rw[l];exact rel.val k);exact wpAny_getItem_of (CF ry) dd.mapOf hw (h w' _ (I.tok _) rw')
 .subst ey;cases (show u=Q2 b from ry);obtain⟨z,hd,xs,rel,dd⟩:=EF I.hok e;obtain⟨w',hw,rw'⟩:=RelO.some_of (v:=v) (o:=(atKey xs k).map (·.2)) (by rw[l];exact rel.val k);obtain⟨p,hp,hp2⟩:=G3.mp hw;refine wpAny_getItem_heap (tupleKind_room_in1 hu) (ZH I.hok eb) dd hp ?_;rw[hp2];exact h w' _ (I.tok _) rw'
def OY(I:Inv X pins σ H s)(mu:aI (H a))(hs:B3 a s.heap h')(he:∃q,h'.get? a=some q)(new:ObjOk X.prog X.w (DQ H a ob) h' a ob):Inv X pins σ (DQ H a ob) {s with heap:=h',toks:=t'}:=
 I.write (x:=a) (e:=a) mu (.inl rfl) (λb q hb z=>(hs.2 b hb).trans z) he new
def Yz{P:Program}{w:World}{kvs:List (OQ×V)}{vs:List (OQ×Value)}(z:kvs.length<=sizeLine)(hd:(a==sysModules)=false)(rel:KV kvs vs)(dd:h'.DictOf (lX P w) a vs):ObjOk P w H' h' a (.dK kvs):=⟨z,hd,vs,rel,dd⟩
def jq{Q:Unit->Shared->Prop}(hu:A.units+1<cLine)(I:Inv X pins σ H s)(g:vB H a y v H')(ry:RelV y u)(rv:RelV v r)(h:∀s',Inv X pins σ H' s'->Q () s'):wpAny (model X.prog X.w) A (setItem (.ref a) u r) Q E s:=by
 rcases g with⟨kvs,k,e,ey,l,eH⟩|⟨kvs,k,b,e,ey,eb,l,eH⟩
 .subst ey eH;obtain⟨z,hd,vs,rel,dd⟩:=uu I.hok e;have hz:vs.length<=sizeLine:=by rw[<-rel.length];exact z
  have hl:(EZ kvs k v).length<=sizeLine:=by have:=pJ kvs k v;lia
  refine wpAny_setItem_pairs (hsz:=hz) (CF ry) dd λh' dd' hs=>h _ ?_;have he:∃q,h'.get? a=some q:=let ⟨q,_,_,hq,_⟩:=dd';⟨q,hq⟩;exact OY I (by rw[e];exact True.intro) hs he (Yz hl hd (rel.put k rv) dd')
 .subst ey eH;cases (show u=Q2 b from ry);obtain⟨z,hd,xs,rel,dd⟩:=wI I.hok e;have hz:xs.length<=sizeLine:=by rw[<-Paired.length rel];exact z
  have hl:(EZ kvs k v).length<=sizeLine:=by have:=pJ kvs k v;lia
  refine wpAny_setItem_heap (hsz:=hz) (tupleKind_room_in1 hu) (ZH I.hok eb) dd λh' dd' hs=>h _ ?_;obtain⟨q,es,ep,hq,h2,h3,h4,_,h5⟩:=dd';refine OY I (by rw[e];exact True.intro) hs ⟨q,hq⟩ ⟨hl,hd,_,(rel.put k eb rv).keeps λc ys ec=>?_,q,es,ep,hq,h2,h3,h4,h5⟩;rw[eQ (ZE ec e (λz=>nomatch z))];exact ec
end
section
variable {a:Addr}{kvs:List (OQ×V)}{k:OQ}
end
def Zz(i:Expr):Prop:=∀ov iv,subscripted i false ov iv=operate [ov,iv] (getItem ov iv)
def FF{T id:String}(hl:typeLookup (.type T) "__getitem__"=pure (some (.builtin id))) (hs:Zz slice)(h:wpAny (model prog w) A (eval value env) (λo s₁=>wpAny (model prog w) A (eval slice env) (λi s₂=>s₂.TypeIs o T/\wpAny (model prog w) A (getItem o i) Q E s₂) E s₁) E s):wpAny (model prog w) A (eval (.Subscript value slice pos) env) Q E s:=by
 refine Subscript_ (wpAny_mono h (λo s₁ h₁=>wpAny_mono h₁ (λi s₂ h₂=>?_) λ_ _ x=>x) λ_ _ x=>x);obtain⟨hT,h₂⟩:=h₂;unfold subscriptTail;refine wpAny_bind ?_;rw[getitemInPython_of_ne hT.not_modules];refine wpAny_bind (wpAny_specialOf hT hl ?_);have fin:wpAny (model prog w) A (subscripted slice false o i) (λr s₃=>wpAny (model prog w) A (letTemporaryGo value o r >>= λ_=>pure r) Q E s₃) E s₂:=by rw[hs o i];exact wpAny_operating (wpAny_mono h₂ (λr s₃ h₃=>wpAny_bind (wpAny_letTemporaryGo (wpAny_pure h₃))) λ_ _ x=>x)
 first
  |exact wpAny_pure (wpAny_bind fin)
  |exact wpAny_bind (wpAny_pure (wpAny_bind fin))
  |exact wpAny_bind fin
def NU{y:V}{o:Option V}(I:Inv X pins σ H s)(g:Xz H a y o):s.TypeIs (.ref a) "dict":=by
 rcases g with⟨kvs,k,e,_,_⟩|⟨kvs,k,b,e,_,_,_⟩
 .obtain⟨_,_,vs,_,dd⟩:=DF I.hok e;exact dd.typeIs
 .obtain⟨_,_,xs,_,dd⟩:=EF I.hok e;exact dd.typeIs
def xI(td ty:TE):TE:=λσ H Q=>td σ H λx H1=>ty σ H1 λy H2=>∃a v,x=.ref a/\Xz H2 a y (some v)/\Q v H2
def aj(td ty tv:TE):TS:=λD σ H=>tv σ H λv H1=>td σ H1 λx H2=>ty σ H2 λy H3=>∃a H4,x=.ref a/\vB H3 a y v H4/\D.nx σ H4
section
variable {o i e value:Expr}{pos tpos:Pos}{td ty tv:TE}
def Vw(hu:X.A.units+1<cLine)(ho:PE X o td)(hi:PE X i ty)(hs:Zz i):PE X (.Subscript o i pos) (xI td ty):=by intro pins s σ H Q I h;refine FF PySem.F.slot_dict_getitem.lookup hs (eX (ho pins s σ H _ I h) λu s1 ⟨x,H1,I1,rx,q1⟩=>eX (hi pins s1 σ H1 _ I1 q1) λiv s2 ⟨y,H2,I2,ry,a,v,ex,g,q2⟩=>?_);subst ex;obtain rfl:u=Q2 a:=rx;exact ⟨NU I2 g,iq hu I2 g ry λw' s3 I3 rw'=>⟨v,H2,I3,rw',q2⟩⟩
def Ww(hu:X.A.units+1<cLine)(ho:PE X o td)(hi:PE X i ty)(hv:PE X value tv)(hs:swapsWith value (some (.Subscript o i pos')) pos.line X.env=pure false):PS X (.Assign [.Subscript o i pos'] value pos) (aj td ty tv):=by
 intro pins s σ H D I h;refine wpAny_Assign_Subscript (eX (hv pins s σ H _ I h) λr s1 ⟨v,H1,I1,rv,q1⟩=>eX (ho pins s1 σ H1 _ I1 q1) λu s2 ⟨x,H2,I2,rx,q2⟩=>eX (hi pins s2 σ H2 _ I2 q2) λiv s3 ⟨y,H3,I3,ry,a,H4,ex,g,q3⟩=>?_) hs;subst ex;obtain rfl:u=Q2 a:=rx;exact jq hu I3 g ry rv λs4 I4=>⟨σ,H4,I4,q3⟩
end
def bj(h:Heap)(hb:sysModules<h.objs.size):ObjOk P w H (h.push {cls:=.type "dict",data:=.dict #[]}) h.objs.size (.dK []):=⟨P3 _,beq_eq_false_iff_ne.mpr (Y1 (N0 hb)),[],.nil,Heap.DictOf.new h⟩
section
variable {pos:Pos}
end
noncomputable def cU:List (TE×TE)->St->Hp->(List (V×V)->Hp->Prop)->Prop
 |[],_,H,Q=>Q [] H
 |(tk,tv)::r,σ,H,Q=>tk σ H λx H1=>tv σ H1 λy H2=>cU r σ H2 λps H3=>Q ((x,y)::ps) H3
abbrev VV:List (V×V)->List (Value×Value)->Prop:=Paired λp q=>RelV p.1 q.1/\RelV p.2 q.2
def xM(X:Cx)(pos:Pos)(keys:List (Option Expr))(values:List Expr)(trs:List (TE×TE)):Prop :=
 ∀(pins:List (Addr×Obj)) (s:Shared) (σ:St) (H:Hp) (Q:List (V×V)->Hp->Prop),Inv X pins σ H s->cU trs σ H Q ->
  wpAny (model X.prog X.w) X.A (evalPairs (pairTrees keys values X.env pos)) (λvs s'=>∃ps H',Inv X pins σ H' s'/\VV ps vs/\Q ps H') X.xe s
def Xw:xM X pos [] [] []:=λpins s σ H Q I h=>pairTrees_nil_walk ⟨[],H,I,.nil,h⟩
def dW(hk:PE X k tk)(hv:PE X v tv)(hr:xM X pos ks vs trs):xM X pos (some k::ks) (v::vs) ((tk,tv)::trs):=λpins s σ H Q I h =>
 pairTrees_cons_walk (eX (hk pins s σ H _ I h) λu s1 ⟨x,H1,I1,rx,q1⟩=>eX (hv pins s1 σ H1 _ I1 q1) λw2 s2 ⟨y,H2,I2,ry,q2⟩=>eX (hr pins s2 σ H2 _ I2 q2) λws s3 ⟨ps,H3,I3,rel,q3⟩=>⟨(x,y)::ps,H3,I3,.cons ⟨rx,ry⟩ rel,q3⟩)
noncomputable def qJ(kvs more:List (OQ×V)):List (OQ×V):=more.foldl (λacc kv=>EZ acc kv.1 kv.2) kvs
def KV.merge:∀{more:List (OQ×V)}{rs:List (OQ×Value)}{kvs:List (OQ×V)}{vs:List (OQ×Value)},KV more rs->KV kvs vs->KV (qJ kvs more) (merged vs rs):=by
 intro more rs kvs vs r;unfold KV at r;induction r generalizing kvs vs with
 |nil=>intro q;exact q
 |@cons p q ps qs h t ih =>
  intro r0;have e:KV (EZ kvs p.1 p.2) (stored vs q.1 q.2):=by have:=r0.put p.1 h.2;rw[<-h.1];exact this
  exact ih e
theorem YJ:∀(more kvs:List (OQ×V)),(qJ kvs more).length<=kvs.length+more.length
 |[],kvs=>by show kvs.length<=kvs.length+0;lia
 |p::r,kvs=>by have h1:=YJ r (EZ kvs p.1 p.2);have h2:=pJ kvs p.1 p.2;show (qJ (EZ kvs p.1 p.2) r).length<=_;rw[Y2];lia
theorem eW{P:Program}{w:World}:∀{kvs:List (OQ×V)}{ws:List (Value×Value)},VV (kvs.map λkv=>(kV kv.1,kv.2)) ws->∃rs,Carries (lX P w) ws rs/\KV kvs rs
 |[],_,r=>by rw[u7]at r;cases r;exact ⟨[],True.intro,.nil⟩
 |p::kvs,_,r=>by
  rw[E1]at r;cases r with
  |@cons a b as bs h t=>obtain⟨rs,c,q⟩:=eW (P:=P) (w:=w) t;obtain⟨b1,b2⟩:=b;exact ⟨(p.1,b2)::rs,⟨CF h.1,rfl,c⟩,.cons ⟨rfl,h.2⟩ q⟩
def cj(trs:List (TE×TE)):TE:=λσ H Q=>∀p,H p=none->cU trs σ (DQ H p (.dK [])) λps H2=>H2 p=some (.dK [])/\∃kvs:List (OQ×V),ps=kvs.map (λkv=>(kV kv.1,kv.2))/\kvs.length<=15/\Q (.ref p) (DQ H2 p (.dK (qJ [] kvs)))
def Yw(h:xM X pos keys values trs)(hall:keys.all (·.isSome)=true)(hl:keys.length=values.length)(h0:keys≠[])(h15:keys.length<=15):PE X (.Dict keys values pos) (cj trs):=by
 intro pins s σ H Q I q;have hn:=I.hok.fresh (M0 s.heap.objs.size);have I1:=I.laid (a:=s.heap.objs.size) (o:=.dK []) (h':=s.heap.push {cls:=.type "dict",data:=.dict #[]}) (t':=s.toks) (λ_ _ q=>i0 _ q) (M0 _) (bj s.heap I.big);refine wpAny_Dict_walk (knd:=lX X.prog X.w) hall hl h0 h15 (eX (h pins _ σ _ _ I1 (q _ hn)) λws s2 ⟨ps,H2,I2,rel,e,kvs,ep,lk,q2⟩=>?_);subst ep;obtain⟨rs,c,rk⟩:=eW (P:=X.prog) (w:=X.w) rel;obtain⟨z,hd,vs0,r0,dd⟩:=uu I2.hok e;cases r0;refine ⟨rs,c,dd,λh' dd' hs=>⟨.ref s.heap.objs.size,_,?_,rfl,q2⟩⟩;have hz:(qJ [] kvs).length<=sizeLine:=by have h1:=YJ kvs [];rw[P5]at h1;rw[sizeLine_eq];lia
 have he:∃q,h'.get? s.heap.objs.size=some q:=let ⟨q,_,_,hq,_⟩:=dd';⟨q,hq⟩;exact OY I2 (by rw[e];exact True.intro) hs he (Yz hz hd (rk.merge .nil) dd')
structure M1(X:Cx)(o:Expr)(m:Str)(apos:Pos)(e:Expr)(cpos:Pos):Prop where
 base:attributeBase o m X.env (eval o X.env)=eval o X.env
 few:((backTo cpos (starEach [e] X.env)).all (λx=>!x.1)&&(backToKw cpos (keywordEach [] X.env)).all (λx=>x.1.isSome)
   && decide (([e]:List Expr).length+([]:List Keyword).length+(if ([]:List Keyword).isEmpty then 0 else 1)<30))=true
 line:(apos.endLine==cpos.line)=true
 trees:backTo cpos (starEach [e] X.env)=[(false,eval e X.env)]
structure M2(X:Cx)(o:Expr)(m:Str)(apos:Pos)(e f:Expr)(cpos:Pos):Prop where
 base:attributeBase o m X.env (eval o X.env)=eval o X.env
 few:((backTo cpos (starEach [e,f] X.env)).all (λx=>!x.1)&&(backToKw cpos (keywordEach [] X.env)).all (λx=>x.1.isSome)
   && decide (([e,f]:List Expr).length+([]:List Keyword).length+(if ([]:List Keyword).isEmpty then 0 else 1)<30))=true
 line:(apos.endLine==cpos.line)=true
 trees:backTo cpos (starEach [e,f] X.env)=[(false,eval e X.env),(false,eval f X.env)]
def cN(H:Hp)(a:Addr):Prop:=(∃kvs,Rd H a (.dK kvs))\/∃kvs,Rd H a (.dT kvs)
def wB(I:Inv X pins σ H s)(d:cN H a):s.TypeIs (.ref a) "dict"/\(∀b,Q2 a=.ref b->∃ob,s.heap.get? b=some ob/\ob.dict=none)/\(a==sysModules)=false:=by
 rcases d with⟨kvs,e⟩|⟨kvs,e⟩
 .obtain⟨_,hd,vs,_,dd⟩:=DF I.hok e;refine ⟨dd.typeIs,λb q=>?_,hd⟩;cases q;obtain⟨ob,_,_,h1,h2,_⟩:=dd;exact ⟨ob,h1,h2.2.1⟩
 .obtain⟨_,hd,xs,_,dd⟩:=EF I.hok e;refine ⟨dd.typeIs,λb q=>?_,hd⟩;cases q;obtain⟨ob,_,_,h1,h2,_⟩:=dd;exact ⟨ob,h1,h2.2.1⟩
section
variable {a:Addr}{y d:V}{r:Value}{o:Option V}
end
section
variable {o e f:Expr}{apos cpos:Pos}{td ty tx:TE}
end
section
variable {a:Addr}{kvs:List (OQ×V)}
end
section
variable {a:Addr}{y:V}
end
end L2
namespace Att
open PySem.W PySem.Calls
def FY:∀(ns:Qa) (vs:List Value),WellAll P h vs (ns.map WData.int)->IntsAre vs ns:=by
 intro ns;induction ns with
 |nil=>intro vs w;rw[u7]at w;cases w;exact .nil
 |cons n ns ih =>
  intro vs w;rw[E1]at w;cases w with
  |cons a b=>cases a;exact .cons _ _ (ih _ b)
def kq{l:OpenLaw}(hn:l.most=some n){P:Params}{h:Heap}{args:List WData}{vals:List Value}(hpre:l.row.toRowW.claim.pre args=true) (hwl:WellAll P h vals args):∃a vs ns,vals=[Q2 a]/\args=[WData.list (ns.map WData.int)]/\h.get? a=some {cls:=.type "list",data:=.seq vs.toArray}/\IntsAre vs ns/\ns.length<=n:=by
 have hsh:WShape.hasAll [] args [.list .int]=true:=(pre_splitW hpre).1;have hc:l.pre.holds [] {args:=args}=true:=(pre_splitW hpre).2;obtain⟨d,r,rfl,h1,h2⟩:=hasAllW_cons hsh;obtain rfl:=hasAllW_nil h2;obtain⟨xs,rfl,h3⟩:=hasW_list h1;obtain⟨ns,rfl⟩:=items_int h3;have hlen:ns.length<=n:=by
  unfold OpenLaw.pre at hc;have h4:(WTm.not (.lt (.lit (.int (n:Int))) (.len (.arg 0)))).holds [] {args:=[.list (ns.map .int)]}=true:=by have h4:=(holds_andW hc).1;rw[hn]at h4;exact h4
  have h5:=condW_of h4 (w_not (w_lt w_lit (w_len_list (w_arg rfl))));rw[q0]at h5;refine R7 λq=>?_;have q':(n:Int)<((ns.length:Nat):Int):=by lia
  first
   |(rw[decide_eq_true q']at h5;exact absurd h5 (by decide))
   |(simp at h5;lia)
 cases hwl with
 |cons w1 w2 =>
  cases w2;cases w1 with
  |list ho hall=>exact ⟨_,_,ns,rfl,rfl,ho,FY ns _ hall,hlen⟩
def lq(l:OpenLaw)(args:List WData):l.row.toRowW.claim.post args (.bool true) args=true :=
 postW_of (r:=l.row.toRowW) (X:=(true==true))
  (show WShape.has [] (.bool true) .bool=true by first|rfl|decide|simp[WShape.has,WShape.arms,WShape.armsAll])
  (show (WTm.eq .res (.lit (.bool true))).value [] {args:=args,res:=some (.bool true),after:=args}=some (.bool (true==true)) from w_eq_bool (w_res rfl) w_lit) rfl
def attach_call{l:OpenLaw}(hn:l.most=some n) (hdf:d.params.defaults=[])(call:∀(w:World) (s₀ s₁:Shared) (mg mb:Str->Option Value) (fa:Addr) (o:Obj) (pm cd doc:Value) (a:Addr) (vs:List Value) (ns:Qa), Ground q loose [] XP w s₀ mg mb s₁.heap->YP w s₁.heap -> s₁.heap.get? fa=some o->o.data=.func (docDef d.name d.params d.body d.scope pm cd doc)->s₁.heap.CodeRec cd d.name->mg d.name=some (.ref fa) -> s₁.heap.get? a=some {cls:=.type "list",data:=.seq vs.toArray}->IntsAre vs ns->ns.length<=n->s₁.gens=#[] -> codeAny (model l.prog w) callerA (.call (.ref fa) ⟨[.ref a],[]⟩) (λr s'=>r=.ok (.ret (.bool true))/\OldK s₁.heap s'.heap/\s'.os=s₁.os/\AllBare s'.gens) s₁):WalkO q loose XP YP l.row.toRowW d [] (λf vs=>PySem.call f vs):=by
 intro w s₀ s₁ mg mb G Y fa o pm cd doc dV kV ho hd hcd hD hmg hg args vals as hpre hlay hrd hwl hlo;obtain rfl:dV=.none:=Dflts.none hD hdf;obtain rfl:kV=.none:=Dflts.noKw hD;obtain⟨a,vs,ns,rfl,rfl,hobj,hints,hlen⟩:=kq hn hpre hwl;refine enter_call (codeAny_mono (call w s₀ s₁ mg mb fa o pm cd doc a vs ns G Y ho (fd_plain hd) hcd hmg hobj hints hlen hg) λr s' hq=>?_);obtain⟨rfl,h2,h3,h4⟩:=hq;exact ⟨.inl ⟨.bool true,.bool true,[],rfl,λ_=>rfl,.bool true,lq l _,λ_=>⟨List.Pairwise.nil,λ_ hm=>(nomatch hm)⟩⟩,h2,h3,h4⟩
section
variable {w:World}{K:Frag}
end
end Att
namespace L2
theorem vV:∀{vs:List Value}{ns:Qa},IntsAre vs ns->Vals (ns.map V.int) vs
 |_,_,.nil=>.nil
 |_,_,.cons n t h=>.cons ⟨t,rfl⟩ (vV h)
noncomputable def UZ(s:Stmt):Arguments:=match s with
 | .FunctionDef _ a _ _ _ _ _ _ _ _=>a
 |_=>{posonlyargs:=[],args:=[],vararg:=none,kwonlyargs:=[],kw_defaults:=[],kwarg:=none,defaults:=[]}
noncomputable def aX(s:Stmt):List Stmt:=match s with
 | .FunctionDef _ _ b _ _ _ _ _ _ _=>b
 |_=>[]
noncomputable def cQ(s:Stmt):Scope:=match s with
 | .FunctionDef _ _ _ _ _ _ sc _ _ _=>sc
 |_=>{kind:=.function,names:=[],isGenerator:=false,isCoroutine:=false}
noncomputable abbrev DX:Qz:=λ_ _ _ _ _ _=>False
noncomputable abbrev E0:XK:=λ_ _ _=>False
def yI:WH DX X E0:=λ_ _ _ _ _ _ _ h=>h.elim
structure Fun(K:B0)(x qual:Str)(st:Stmt)(f:Addr)(fd:FuncData):Prop where
 ex:∃(oc:Value) (od:Option Addr) (kV doc pm:Value) (an:Option Addr) (cdv ct:Value) (osl:Array (Option Value)),
  fd=q5 x qual (UZ st) (aX st) (cQ st) .none kV doc pm an cdv ct/\K.lookup f=some ⟨oc,od,.func fd,osl⟩/\y7 K cdv qual=true
 kp:Z4 K (.ref f)=true
section
variable {P:Program}{w:World}{K:B0}{mg:Str->Option Value}{base:Heap}
def Fun.ok{st:Stmt}(F:Fun K x qual st f fd)(S:FnScope N ps (cQ st))(len:∀vs H Q E,sp vs H Q E->vs.length=ps.length)(hbody:∀(cdv:Value) (A:Around) (outer:List Env) (s:Shared) (H:Hp) (vs:List V) (Q:VK) (E:XK),Room k (A.deeper (envOfC qual (cQ st) s.heap.objs.size f cdv))->sp vs H Q E -> ∃t,PSs (YY DX P w K mg base N qual (cQ st) f cdv A outer s H E).nox (aX st) t/\t {nx:=λ_ H'=>Q .non H',rt:=Q} (start N vs) H):FnOk P w K mg base DX (k+1) f fd ps sp:=by
 obtain⟨oc,od,kV,doc,pm,an,cdv,ct,osl,rfl,lk,hcd⟩:=F.ex;refine pu lk hcd S len λA outer s H vs Q E hr hsp=>?_;obtain⟨t,h,q⟩:=hbody cdv A outer s H vs Q E hr hsp;exact ⟨t,h.nox,q⟩
def Fun.binds{st:Stmt}(F:Fun K x qual st f fd)(h:∀(kV doc pm:Value) (an:Option Addr) (cdv ct:Value) (us:List Value),us.length=ps.length->bindArgs (q5 x qual (UZ st) (aX st) (cQ st) .none kV doc pm an cdv ct) ⟨us,[]⟩=pure (ps.zip us)):Binds K fd ps []:=by
 obtain⟨oc,od,kV,doc,pm,an,cdv,ct,osl,rfl,lk,hcd⟩:=F.ex;exact .all (h kV doc pm an cdv ct)
def xB{st:Stmt}{od:Option Addr}{kV:Value}(l:K.lookup f=some ⟨oc,od,.func (q5 x qual (UZ st) (aX st) (cQ st) .none kV doc pm an cdv ct),osl⟩)(c:y7 K cdv qual=true) (k:Z4 K (.ref f)=true):Fun K x qual st f (q5 x qual (UZ st) (aX st) (cQ st) .none kV doc pm an cdv ct):=⟨⟨oc,od,kV,doc,pm,an,cdv,ct,osl,rfl,l,c⟩,k⟩
end
def ZJ(hr:Room k A):A.units+1<cLine:=o4 (m7 (by decide:1<=64) _) hr.units
def pv(i:Nat){x:Str}{pos:Pos}(hN:X.N[i]?=some x:=by rfl)(hv:SE X.env.scope x:=by first|exact Or.inl rfl|exact Or.inr (Or.inl rfl)|exact Or.inr (Or.inr rfl))(hd:(x==("__debug__":Str))=false:=by decide)
  (hcd:(x==("__classdict__":Str))=false:=by decide):PE X (.Name x pos) (CZ i):=OH hN hv hd hcd
def oZ{A:Prop}[Decidable c](h1:c->A)(h2:¬c->B):if c then A else B:=by
 by_cases h:c
 .rw[if_pos h];exact h1 h
 .rw[if_neg h];exact h2 h
section
variable {κ:Type}[DecidableEq κ]
end
noncomputable def VZ(cells:List (Str×Addr)):List (Str×NameKind)->List (Str×Addr)->List (Str×Addr)
 |[],acc=>acc
 |(n,k)::r,acc=>VZ cells r (if k==.free then (n,(cells.lookup n).getD 0)::acc else acc)
def fW(h:∀y∈sc.names,y.2=.free->∃c,env.cells.lookup y.1=some c):closureFor sc env=pure (VZ env.cells sc.names []):=by
 have go:∀(l:List (Str×NameKind)) (acc:List (Str×Addr)),(∀y∈l,y.2=.free->∃c,env.cells.lookup y.1=some c) ->
   (forIn l acc λ(x:Str×NameKind) r=>(if (x.2==NameKind.free)=true then (do let a<-cellOf env x.1;pure (ForInStep.yield ((x.1,a)::r))) else pure (ForInStep.yield r):Sem (ForInStep (List (Str×Addr)))))=pure (VZ env.cells l acc):=by
  intro l;induction l with
  |nil=>intro acc _;rfl
  |cons y r ih =>
   intro acc hl;obtain⟨n,k⟩:=y;rw[U4];by_cases hk:(k==NameKind.free)=true
   .obtain⟨c,hc⟩:=hl (n,k) R0 (by simpa using hk);have hc:env.cells.lookup n=some c:=hc;simp only[hk,if_true,cellOf,hc,pure_bind,VZ,W4];exact ih _ λy hy=>hl y (K0 _ hy)
   .simp only[hk,if_false,pure_bind,VZ];exact ih _ λy hy=>hl y (K0 _ hy)
 have e:=go sc.names [] h;unfold closureFor;show (forIn sc.names [] _ >>= λcs=>pure cs)=_;rw[show (forIn sc.names ([]:List (Str×Addr)) λ(x:Str×NameKind) r=>(match x with|(name,kind)=>if (kind==NameKind.free)=true then (do let a<-cellOf env name;pure (ForInStep.yield ((name,a)::r))) else pure (ForInStep.yield r):Sem (ForInStep (List (Str×Addr)))))=pure (VZ env.cells sc.names []) from e];rfl
theorem rJ{cells:List (Str×Addr)}{x:Str}{c:Addr}:∀{l:List (Str×NameKind)}{acc:List (Str×Addr)},(∀y∈l,y.2=.free->∃c,cells.lookup y.1=some c)->(VZ cells l acc).lookup x=some c -> acc.lookup x=some c\/cells.lookup x=some c
 |[],acc,_,h=>.inl h
 |(n,k)::r,acc,hl,h=>by
  have ih:=rJ (l:=r) (λy hy=>hl y (K0 _ hy)) h;rcases ih with ih|ih
  .by_cases hk:(k==NameKind.free)=true
   .rw[if_pos hk,O3]at ih;obtain⟨c',hc⟩:=hl (n,k) R0 (by simpa using hk);have hc:cells.lookup n=some c':=hc;cases e:x==n with
    |true =>
     rw[e]at ih;have:x=n:=by simpa using e
     subst this;simp only[hc,W4,Option.some.injEq]at ih;subst ih;exact .inr hc
    |false=>rw[e]at ih;exact .inl ih
   .rw[if_neg hk]at ih;exact .inl ih
  .exact .inr ih
theorem gW{cells:List (Str×Addr)}{x:Str}:∀{l:List (Str×NameKind)}{acc:List (Str×Addr)},((∃c,acc.lookup x=some c)\/l.lookup x=some .free)->∃c,(VZ cells l acc).lookup x=some c
 |[],acc,h=>by
  rcases h with h|h
  .exact h
  .simp at h
 |(n,k)::r,acc,h=>by
  refine gW (l:=r) ?_;rcases h with⟨c,h⟩|h
  .left;by_cases hk:(k==NameKind.free)=true
   .rw[if_pos hk,O3];cases x==n with
    |true=>exact ⟨_,rfl⟩
    |false=>exact ⟨c,h⟩
   .rw[if_neg hk];exact ⟨c,h⟩
  .rw[O3]at h;cases e:x==n with
   |true=>rw[e]at h;have hk:k=.free:=O1 h;left;subst hk;rw[if_pos (by decide),O3,e];exact ⟨_,rfl⟩
   |false=>rw[e]at h;exact .inr h
theorem sJ{env:Env}{x:Str}:∀{names:List (Str×NameKind)}, (names.map λ(n,k)=>if (k==NameKind.free&&env.scope.kind==.function&&env.kindOf n==some .cell) then (n,NameKind.cell) else (n,k)).lookup x = (names.lookup x).map λk=>if (k==NameKind.free&&env.scope.kind==.function&&env.kindOf x==some .cell) then .cell else k
 |[]=>rfl
 |(n,k)::r=>by
  have ih:=@sJ env x r;rw[E1];show J7 x ((if (k==NameKind.free&&env.scope.kind==.function&&env.kindOf n==some .cell)=true then (n,NameKind.cell) else (n,k))::_)=_;cases hx:x==n with
  |true =>
   have e:x=n:=by simpa using hx
   subst e;by_cases hc:(k==NameKind.free&&env.scope.kind==.function&&env.kindOf x==some .cell)=true
   .rw[if_pos hc];simp only[O3,hx,M4];rw[if_pos hc]
   .rw[if_neg hc];simp only[O3,hx,M4];rw[if_neg hc]
  |false =>
   by_cases hc:(k==NameKind.free&&env.scope.kind==.function&&env.kindOf n==some .cell)=true
   .rw[if_pos hc];simp only[O3,hx];exact ih
   .rw[if_neg hc];simp only[O3,hx];exact ih
def tJ(sc:Scope)(env:Env)(x:Str):(relabel sc env).names.lookup x=(sc.names.lookup x).map λk=>if (k==NameKind.free&&env.scope.kind==.function&&env.kindOf x==some .cell) then .cell else k:=sJ
theorem WZ:∀(names:List (Str×NameKind)) (n:Nat) (acc:List (Str×Addr)),cellsFrom n names acc=cellsFrom n names []++acc
 |[],_,_=>rfl
 |(x,k)::r,n,acc=>by
  unfold cellsFrom;split
  .rw[WZ r (n+1) ((x,n)::acc),WZ r (n+1) [(x,n)],S2];rfl
  .exact WZ r n acc
theorem hW{x:Str}{c:Addr}:∀(names:List (Str×NameKind)) (n:Nat),(x,c)∈cellsFrom n names []->(x,NameKind.cell)∈names/\n<=c
 |[],_,h=>by cases h
 |(y,k)::r,n,h=>by
  unfold cellsFrom at h;split at h
  .rename_i hk;have hk:k=.cell:=by simpa using hk
   rw[WZ,A3]at h;rcases h with h|h
   .have:=hW r (n+1) h;exact ⟨K0 _ this.1,by lia⟩
   .have h:(x,c)=(y,n):=by simpa using h
    cases h;subst hk;exact ⟨R0,M0 _⟩
  .have:=hW r n h;exact ⟨K0 _ this.1,this.2⟩
theorem VX{x:Str}:∀{l m:List (Str×α)},(l++m).lookup x=(l.lookup x).or (m.lookup x)
 |[],_=>rfl
 |(y,v)::l,m=>by
  rw[Q4,O3,O3];cases x==y with
  |true=>rfl
  |false=>exact VX
def ZK{Q:Env->Shared->Prop}(hQ:Q (newEnv scope s.heap.objs.size globals (cellsFrom (s.heap.objs.size+1) scope.names closure) qual none .none (some env) builtinsNs) {s with heap:=pushCells (s.heap.push {cls:=.type "dict",data:=.dict #[]}) scope.names}):wpAny M A (newFunctionEnv scope globals closure [] qual none .none (some env)) Q E s:=by
 simp only[newFunctionEnv,U8,if_true];refine wpAny_bind (wpAny_alloc ?_);refine wpAny_bind (wpAny_layCells _ (λname kind cells=>by cases hkc:kind==NameKind.cell<;>simp[hkc]) _ _ _ _ ?_);rw[show ({s with heap:=s.heap.push {cls:=.type "dict",data:=.dict #[]}}:Shared).heap.objs.size=s.heap.objs.size+1 from Z0 ..];refine wpAny_bind ?_;rw[i5];exact wpAny_pure (wpAny_pure hQ)
noncomputable def AI(N:List Str)(fr:List Nat):List Str:=fr.map λi=>N.getD i Str.empty
noncomputable def yB(σ:St)(fr:List Nat):St:=fr.map λi=>(σ[i]?).getD none
noncomputable def xQ(X:Cx)(own:List Str)(fr:List Nat)(sc:Scope)(C:Addr)(s:Shared)(H:Hp)(ex:List Addr):Cx where
 prog:=X.prog
 w:=X.w
 K:=X.K
 mg:=X.mg
 base:=X.base
 A:=X.A
 N:=own++AI X.N fr
 s₀:=s
 H₀:=H
 env:=compEnvC sc (cellsFrom (C+1) sc.names (VZ X.env.cells sc.names [])) C X.env
 outer:=X.stack
 stack:=X.stack
 ex:=ex
 fn:=λx=>sc.names.lookup x==some .cell
 calm:=X.calm
 pn:=[]
 xe:=λ_ _=>False
noncomputable def Zw(own:List Str)(σ:St)(fr:List Nat):St:=own.map (λ_=>none)++yB σ fr
structure CompSc(X:Cx)(own:List Str)(fr:List Nat)(sc:Scope):Prop where
 kind:sc.kind=.function
 cells:∀y∈sc.names,y.2=.cell->sc.names.lookup y.1=some .cell
 loc:∀y∈sc.names,y.2=.local->sc.names.lookup y.1=some .local
 free:∀y∈sc.names,y.2=.free->X.env.kindOf y.1=some .cell\/X.env.kindOf y.1=some .free
 fr:∀i∈fr,∃x,X.N[i]?=some x/\sc.names.lookup x=some .free
def aG{C D:Addr}(S:CompSc X own fr sc) (I:Inv X pins σ H s) (hf:∀b∈fp,DY X pins H b) (hfo:∀b∈fp,∃o,s.heap.get? b=some o) (hC:s.heap.objs.size<=C) (hD:s.heap.objs.size<=D) (hDC:D≠C) (hn:h1.Ns C λx=>([]:List (Str×Value)).reverse.lookup x)(hk:∀b o,s.heap.get? b=some o->h1.get? b=some o) (hcl:∀x c,(x,c)∈cellsFrom (C+1) sc.names []->h1.IsCell c none) (hap:(cellsFrom (C+1) sc.names []).Pairwise λx y=>x.2≠y.2) (hoD:h1.get? D=some oD) (hdD:∀v,oD.data≠.cell v):Inv (xQ X own fr sc C s H fp) [(D,oD)] (Zw own σ fr) H {s with heap:=h1,toks:=tk}:=by
 have hfree:∀y∈sc.names,y.2=.free->∃c,X.env.cells.lookup y.1=some c:=λy hy e=>I.ok.has y.1 (S.free y hy e);have cl1:∀x c,(VZ X.env.cells sc.names []).lookup x=some c->X.env.cells.lookup x=some c:=λx c e=>by
  rcases rJ hfree e with z|z
  .simp at z
  .exact z
 have cl2:∀x c,(cellsFrom (C+1) sc.names (VZ X.env.cells sc.names [])).lookup x=some c->(x,c)∈cellsFrom (C+1) sc.names []\/X.env.cells.lookup x=some c:=λx c e=>by
  rw[WZ,VX]at e;cases q:(cellsFrom (C+1) sc.names []).lookup x with
  |none=>rw[q]at e;exact .inr (cl1 x c e)
  |some c'=>rw[q]at e;cases e;exact .inl (PySem.mem_of_lookup q)
 have new:∀x c,(x,c)∈cellsFrom (C+1) sc.names []->C+1<=c:=λx c h=>(hW _ _ h).2;have oldc:∀x c,X.env.cells.lookup x=some c->c<s.heap.objs.size:=λx c e=>by obtain⟨v,q⟩:=I.cell x c e;exact q.lt
 have kin:∀x k,(relabel sc X.env).names.lookup x=some k->k=.cell\/k=.free->sc.names.lookup x=some .free\/sc.names.lookup x=some .cell:=λx k e hk=>by
  rw[tJ]at e;cases q:sc.names.lookup x with
  |none=>rw[q]at e;cases e
  |some j =>
   rw[q,M4,Option.some.injEq]at e;by_cases hj:j=.free
   .rw[hj];exact .inl rfl
   .have hne:(j==NameKind.free)=false:=by simpa using hj
    rw[hne,x8,x8,if_neg (by simp)]at e;subst e;rcases hk with z|z
    .rw[z];exact .inr rfl
    .exact absurd z hj
 have kout:∀x,sc.names.lookup x=some .free->((relabel sc X.env).names.lookup x=some .cell\/(relabel sc X.env).names.lookup x=some .free):=λx e=>by
  rw[tJ,e,M4];by_cases h:(NameKind.free==NameKind.free&&X.env.scope.kind==.function&&X.env.kindOf x==some .cell)=true
  .rw[if_pos h];exact .inl rfl
  .rw[if_neg h];exact .inr rfl
 have okc:∀b∈fp,b<s.heap.objs.size:=λb hb=>by obtain⟨o,e⟩:=hfo b hb;exact u0 e
 have fresh:∀{a:Addr},s.heap.objs.size<=a->H a=none:=λh=>I.hok.fresh h;have ok:(xQ X own fr sc C s H fp).Ok:={
   mod:=I.ok.mod
   kind:=S.kind
   glob:=I.ok.glob
   blt:=I.ok.blt
   above:=hC
   inj:=λx y c h1 h2=>by
     have hC:s.heap.objs.size<=C:=hC;rcases cl2 x c h1 with a|a<;>rcases cl2 y c h2 with b|b
     . exact name_of_addr hap a b
     . have:=new x c a;have:=oldc y c b;exact absurd (L0 (oldc y c b) (Z1 hC (v5 (new x c a)))) (U2 _)
     . exact absurd (L0 (oldc x c a) (Z1 hC (v5 (new y c b)))) (U2 _)
     . exact I.ok.inj x y c a b
   has:=λx hx=>by
     have hx:sc.names.lookup x=some .free\/sc.names.lookup x=some .cell:=by
       rcases hx with hx|hx
       . exact kin x _ hx (.inl rfl)
       . exact kin x _ hx (.inr rfl)
     show ∃c,(cellsFrom (C+1) sc.names (VZ X.env.cells sc.names [])).lookup x=some c;rw[WZ,VX];rcases hx with hx|hx
     . obtain⟨c,e⟩:=gW (cells:=X.env.cells) (x:=x) (l:=sc.names) (acc:=[]) (.inr hx);rw[e];cases (cellsFrom (C+1) sc.names []).lookup x with
       |none=>exact ⟨c,rfl⟩
       |some c'=>exact ⟨c',rfl⟩
     . obtain⟨c,e⟩:=rK (n:=C+1) hx;rw[e];exact ⟨c,rfl⟩
   cab:=λx c h e=>by
     have h:sc.names.lookup x=some .cell:=by simpa [xQ]using h
     have e:(cellsFrom (C+1) sc.names (VZ X.env.cells sc.names [])).lookup x=some c:=e;obtain⟨c',q⟩:=rK (n:=C+1) h;rw[WZ,VX,q]at e;cases e;exact Z1 hC (v5 (new x _ (PySem.mem_of_lookup q)))
   hd:=I.ok.hd
   frames:=I.ok.frames
   stk:=.inl rfl
   exf:=λb hb=>⟨N0 (L0 (okc b hb) hC),λx c e=>by
     rcases cl2 x c e with z|z
     . exact N1 (L0 (okc b hb) (Z1 hC (v5 (new x c z))))
     . exact (hf b hb).2.2.2.2.1 x c z⟩
   bs:=I.bs
   bsz:=Z1 I.ok.bsz I.sz
   noex:=λb o e hb=>by
     rcases (hf b hb).2.2.2.1 with z|z
     . exact I.ok.noex b o e z
     . exact absurd (L0 (u0 e) (Z1 I.ok.bsz z)) (U2 _)
   exfs:=λb hb hm=>by
     rcases Y0.mp (I.stkSub b hm) with z|z
     . exact (hf b hb).2.1 z
     . exact (hf b hb).2.2.1 z
   funs:=I.stack
   frf:=I.stkFree};refine ⟨ok,rfl,I.bare,Un.kept hk,⟨_,hn,λi x v e1 e2 e3=>?_⟩,λx c e=>?_,fresh hC,λx c e=>?_,λp hp=>?_,I.hok.kept hk,?_⟩
 .have e1:(own++AI X.N fr)[i]?=some x:=e1;have e2:(own.map (λ_=>(none:Option V))++yB σ fr)[i]?=some (some v):=e2;by_cases hi:i<own.length
  .rw[J2 (by simpa using hi),Q0]at e2;cases q:own[i]? with
   |none=>rw[q]at e2;cases e2
   |some z=>rw[q]at e2;cases e2
  .rw[P1 (by lia)]at e1;rw[P1 (by simpa using hi),q0]at e2;unfold AI at e1;unfold yB at e2;rw[Q0]at e1 e2;cases q:fr[i-own.length]? with
   |none=>rw[q]at e1;cases e1
   |some j =>
    rw[q,M4,Option.some.injEq]at e1 e2;obtain⟨y,hy,hyf⟩:=S.fr j (B1 q);rw[G0,hy,W4]at e1;subst e1;have e2':σ[j]?=some (some v):=by
     cases r:σ[j]? with
     |none=>rw[r]at e2;cases e2
     |some z=>rw[r,W4]at e2;rw[e2]
    have hkf:X.env.kindOf y=some .cell\/X.env.kindOf y=some .free:=S.free (y,.free) (PySem.mem_of_lookup hyf) rfl;obtain⟨m,hm,hl⟩:=I.loc;have vis:SE X.env.scope y:=by
     rcases hkf with z|z
     .exact .inr (.inl z)
     .exact .inr (.inr z)
    obtain⟨u,r,l⟩:=hl j y v hy e2' vis;refine ⟨u,r,?_⟩;rcases l with⟨k,_⟩|⟨k,c,hc,z⟩
    .rcases hkf with k'|k'<;>rw[k]at k'<;>cases k'
    .refine .inr ⟨kout y hyf,?_⟩;obtain⟨c',hc'⟩:∃c',(VZ X.env.cells sc.names []).lookup y=some c':=gW (.inr hyf);have:c'=c:=O1 ((cl1 y c' hc').symm.trans hc);subst this;obtain⟨o,ho,hd⟩:=z;refine ⟨c',?_,o,hk _ _ ho,hd⟩;show (cellsFrom (C+1) sc.names (VZ X.env.cells sc.names [])).lookup y=some c';rw[WZ,VX,hc'];cases q:(cellsFrom (C+1) sc.names []).lookup y with
     |none=>rfl
     |some c2=>have:=S.cells _ (hW _ _ (PySem.mem_of_lookup q)).1 rfl;rw[hyf]at this;cases this
 .rcases cl2 x c e with z|z
  .exact ⟨_,hcl x c z⟩
  .obtain⟨v,o,ho,hd⟩:=I.cell x c z;exact ⟨v,o,hk _ _ ho,hd⟩
 .rcases cl2 x c e with z|z
  .exact fresh (Z1 hC (v5 (new x c z)))
  .exact I.freeC x c z
 .have e:p=(D,oD):=by
   have:p∈([]:List (Addr×Obj))++[(D,oD)]:=hp;simpa using this
  subst e;refine ⟨hoD,fresh hD,hDC,λhm=>?_,hdD⟩;have hm:D∈UV X.stack:=hm;obtain⟨_,o,ho,_⟩:=I.stack.mem hm;exact absurd (L0 (u0 ho) hD) (U2 _)
 .show (own.map (λ_=>(none:Option V))++yB σ fr).length=(own++AI X.N fr).length;simp[yB,AI]
def dj{σ':St}{C D:Addr}(I:Inv X pins σ H s) (hf:∀b∈fp,DY X pins H b) (hC:s.heap.objs.size<=C) (hD:s.heap.objs.size<=D) (hDC:D≠C)(J:Inv (xQ X own fr sc C s H fp) [(D,oD)] σ' H' s') (ho:oD={cls:=.type "list",data:=.seq us.toArray n}) (r:Vals ys us) (hz:ys.length<=sizeLine):Inv X pins σ (DQ H' D (.lst ys)) s'/\(∃m,s'.heap.Ns C m)/\DY X pins (DQ H' D (.lst ys)) C:=by
 have pD:=J.pin (D,oD) (by simp[xQ]);have hHD:H' D=none:=pD.2.1;have u:Un (UV X.stack) fp H H' s.heap s'.heap:=J.base;have lt:∀b o,s.heap.get? b=some o->b≠D:=λb o e=>N0 (L0 (u0 e) hD);have u2:Un (UV X.stack) fp H (DQ H' D (.lst ys)) s.heap s'.heap :=
  ⟨u.keep,u.slot,λb o e n hx=>by rw[eQ (lt b o e)];exact u.free b o e n hx,u.there,λb xs e=>by rw[eQ (gQ (u.tups b xs e) hHD)];exact u.tups b xs e,
    λb o x e=>by rw[eQ (gQ (u.frzs b o x e) hHD)];exact u.frzs b o x e,λb ps e=>by obtain⟨more,q⟩:=u.tbls b ps e;exact ⟨more,by rw[eQ (gQ q hHD)];exact q⟩⟩;have hok:HOk X.prog X.w (DQ H' D (.lst ys)) s'.heap:=λb o e=>by
  by_cases hb:b=D
  .subst hb;rw[kQ]at e;cases e;exact ⟨hz,us,n,r,by rw[<-ho];exact pD.1⟩
  .rw[eQ hb]at e;exact (J.hok b o e).stay (λ_ _ _ q=>q) (λc q=>by rw[eQ (gQ q hHD)];exact q) λc xs q=>by rw[eQ (gQ q hHD)];exact q
 refine ⟨I.call' (ch:=fp) J.os u2 hok J.bare λb hb=>?_,?_,?_⟩
 .obtain⟨f0,f1,f2,f3,f4,f5⟩:=hf b hb;exact ⟨f3,f1,f4,f5⟩
 .obtain⟨m,hm,_⟩:=J.loc;exact ⟨m,hm⟩
 .have hfree:H' C=none:=J.free;refine ⟨by rw[eQ (Y1 hDC)];exact hfree,?_⟩;exact (I.fpOk hC (I.hok.fresh hC)).2
theorem uJ{it:Value}(I:Nat->Shared->Prop)
  (turn:∀n s,I n s->wpAny (model prog w) A (pyNext it) (λr s₁=>match r with
    |none=>R (.ok .next) s₁
    | some v=>wpAny (model prog w) A (letOwnedTupleGo target it v) (λ_ s₁'=>wpAny (model prog w) A (assign target env v) (λ_ s₂ =>
        wpAny (model prog w) A (forIn ifs true λc r=>if r=true then do let ok<-isTrue c env (eval c env);pure (ForInStep.yield ok) else pure (ForInStep.yield r)) (λok s₃ =>
          if ok=true then wpAny (model prog w) A (eval elt env) (λx s₄=>wpAny (model prog w) A (call (.builtin "list.append") [acc,x]) (λ_ s₅=>∃m,m<n/\I m s₅) (λ_ _=>False) s₄) (λ_ _=>False) s₃
          else ∃m,m<n/\I m s₃) (λ_ _=>False) s₂) (λ_ _=>False) s₁') (λ_ _=>False) s₁) (λ_ _=>False) s)
  (n:Nat) (h:I n s) :
  codeAny (model prog w) A (.compLoop (.ListComp elt [⟨target,iter,ifs,0⟩] scope pos) 0 it acc env) R s:=by
 refine codeAny_loop rfl I (λn s hI=>?_) n h;show wpAny _ A ((compTurn (.ListComp elt [⟨target,iter,ifs,0⟩] scope pos) 0 it acc env).onRaise (λx=>do noteFrame x env;theTreesLotGoes x)) _ _ s;refine wpAny_noted ?_;rw[compTurn_list];refine wpAny_bind (wpAny_standAt (wpAny_bind (wpAny_mono (turn n s hI) (λr s₁ h₁=>?_) λ_ _ h'=>h'.elim)));cases r with
 |none=>exact wpAny_pure h₁
 |some v =>
  refine wpAny_bind (wpAny_mono h₁ (λ_ s₁' h₁'=>?_) λ_ _ h'=>h'.elim);refine wpAny_bind (wpAny_mono h₁' (λ_ s₂ h₂=>wpAny_bind (wpAny_mono h₂ (λok s₃ h₃=>?_) λ_ _ h'=>h'.elim)) λ_ _ h'=>h'.elim);cases ok with
  |false=>exact wpAny_pure ⟨rfl,h₃⟩
  |true=>exact wpAny_bind (wpAny_bind (wpAny_mono h₃ (λx s₄ h₄=>wpAny_bind (wpAny_mono h₄ (λ_ s₅ h₅=>wpAny_pure (wpAny_pure ⟨rfl,h₅⟩)) λ_ _ h'=>h'.elim)) λ_ _ h'=>h'.elim))
def fj(X:Cx)(ifs:List Expr)(t:TT):Prop :=
 ∀(pins:List (Addr×Obj)) (s:Shared) (σ:St) (H:Hp) (Q:Bool->Hp->Prop),Inv X pins σ H s->t σ H Q ->
  wpAny (model X.prog X.w) X.A (forIn ifs true λc r=>if r=true then do let ok<-isTrue c X.env (eval c X.env);pure (ForInStep.yield ok) else pure (ForInStep.yield r)) (TP X pins σ Q) X.xe s
def BI:TT:=λ_ H Q=>Q true H
def zB:fj X [] BI:=λ_ _ _ H _ I h=>wpAny_tests_nil ⟨H,I,h⟩
def AB(h:PT X c t):fj X [c] t:=λpins s σ H Q I hw=>wpAny_tests_one (h pins s σ H Q I hw)
def vu(wi:TI)(own:List Str)(fr:List Nat)(g:TG)(tc:TT)(te:TE):TE:=λσ H Q=>wi σ H λJ H1=>∃W:Nat->Nat->List V->St->Hp->Prop,(∃m,W 0 m [] (Zw own σ fr) H1)/\∀i m ys τ H,W i m ys τ H ->
 (J.stop i H/\∀D,H D=none->Q (.ref D) (DQ H D (.lst ys))) \/
 (J.go i H/\ys.length<sizeLine/\∃N:List V->St->Hp->Prop,(∀ys' τ' H',N ys' τ' H'->∃m',m'<m/\W (i+1) m' ys' τ' H')/\∀x H',J.yld i H x H'->g x τ H' λτ2 H2=>tc τ2 H2 λb H3=>if b=true then te τ2 H3 λy H4=>N (ys++[y]) τ2 H4 else N ys τ2 H3)
def mq{D:Addr}(I:Inv X ([(D,{cls:=.type "list",data:=.seq us.toArray k})]++pl) σ H s) (h1:X.s₀.heap.objs.size<=D) (h2:∀x c,X.env.cells.lookup x=some c->c≠D) (h3:∀p∈X.pn++pl,p.1≠D) (hz:us.length<sizeLine)(h:∀k' s',Inv X ([(D,{cls:=.type "list",data:=.seq (us++[u]).toArray k'})]++pl) σ H s'->Q .none s'):wpAny (model X.prog X.w) X.A (call (.builtin "list.append") [.ref D,u]) Q E s:=by
 obtain⟨e,hn,hL,hF,_⟩:=I.pin (D,{cls:=.type "list",data:=.seq us.toArray k}) (Q1 _ (Y5 _ (G1.mpr rfl)));dsimp only at e hn hL hF;have I0:Inv X pl σ H s:=I.pins_of λp hp=>I.pin p (Q1 _ (Q1 _ hp));refine call_meets F.slot_list_append ⟨_,e,rfl⟩ F.entry_list_append (F.args_list_append_2 _ _) (PySem.list_append D us.toArray k u (by rw[V0];lia)) ⟨e,?_⟩;have q:=PySem.IsL.update e λxs=>xs.push u;rw[show us.toArray.push u=(us++[u]).toArray by simp]at q;have I1:Inv X pl σ H {s with heap:=s.heap.update D (W2 λxs=>xs.push u),toks:=s.toks}:=I0.turned (it:=D) (λb o hb ho=>(K1 s.heap (W2 λxs=>xs.push u) (Y1 hb)).trans ho) hn hL (.inr h1) h2 h3;obtain⟨k',q⟩:∃k',(s.heap.update D (W2 λxs=>xs.push u)).get? D=some {cls:=.type "list",data:=.seq (us++[u]).toArray k'}:=⟨_,q⟩;refine h k' _ (I1.pins_of (pins':=[(D,{cls:=.type "list",data:=.seq (us++[u]).toArray k'})]++pl) λp hp=>?_);rcases A3.mp hp with z|z
 .have z:p=_:=G1.mp z;subst z;exact ⟨q,hn,hL,hF,λv z=>by cases z⟩
 .exact I1.pin p (Q1 _ z)
def iW{g:TG}{Q:VK}{RR:Value->Addr->Result->Shared->Prop}(hc:X.calm=true) (S:CompSc X own fr sc) (I2:Inv X pins σ H2 s2) (T:Turn X.prog X.w X.K tg J fp it tn) (st2:tn 0 s2.heap) (f2:∀b∈fp,DY X pins H2 b)(hg:∀C ex,PG (xQ X own fr sc C s2 H2 ex) tg g) (hif:∀C ex,fj (xQ X own fr sc C s2 H2 ex) ifs tc) (he:∀C ex,PE (xQ X own fr sc C s2 H2 ex) elt te)(W:Nat->Nat->List V->St->Hp->Prop) (m0:Nat) (w0:W 0 m0 [] (Zw own σ fr) H2)(turn:∀i m ys τ H,W i m ys τ H->(J.stop i H/\∀D,H D=none->Q (.ref D) (DQ H D (.lst ys))) \/(J.go i H/\ys.length<sizeLine/\∃N:List V->St->Hp->Prop,(∀ys' τ' H',N ys' τ' H'->∃m',m'<m/\W (i+1) m' ys' τ' H')/\∀x H',J.yld i H x H'->g x τ H' λτ2 H2=>tc τ2 H2 λb H3=>if b=true then te τ2 H3 λy H4=>N (ys++[y]) τ2 H4 else N ys τ2 H3))(hRR:∀D C H s',Inv X pins σ H s'->Q (.ref D) H->(∃m,s'.heap.Ns C m)->DY X pins H C->RR (.ref D) C (.ok .next) s'):wpAny (model X.prog X.w) X.A (newList []) (λacc s₃=>wpAny (model X.prog X.w) X.A (newFunctionEnv sc X.env.globals (VZ X.env.cells sc.names []) [] X.env.qual none .none (some X.env)) (λcenv s₄=>codeAny (model X.prog X.w) X.A (.compStart (.ListComp elt [⟨tg,iter,ifs,0⟩] sc pos) 0 (.ref it) acc {cenv with scope:=relabel sc X.env}) (RR acc cenv.locals) s₄) E s₃) E s2:=by
 refine wpAny_newObj_type (ZK ?_);dsimp only;generalize hH2:s2.heap.push {cls:=.type "list",dict:=none,data:=.seq ([]:List Value).toArray}=G;generalize hh1:pushCells (G.push {cls:=.type "dict",data:=.dict #[]}) sc.names=h₁;have kp:∀b o,(G.push {cls:=.type "dict",data:=.dict #[]}).get? b=some o->h₁.get? b=some o:=λb o e=>hh1 ▸ pushCells_keeps _ _ b o e;have hns₁:h₁.Ns G.objs.size λx=>([]:List (Str×Value)).reverse.lookup x:=(Heap.Ns.new G (.type "dict")).keeps kp;have cok:CellsOk h₁ (G.objs.size+1) (cellsFrom (G.objs.size+1) sc.names []):=by have:=cellsFrom_ok sc.names (G.push {cls:=.type "dict",data:=.dict #[]}) (G.objs.size+1) [] ⟨λ_ _ hm=>(nomatch hm),List.Pairwise.nil⟩ (by rw[Z0];exact M0 _);rw[Z0,hh1]at this;exact this
 have hC:G.objs.size=s2.heap.objs.size+1:=by rw[<-hH2,Z0]
 have hCle:s2.heap.objs.size<=G.objs.size:=by rw[hC];exact X5 _
 have hDC:s2.heap.objs.size≠G.objs.size:=by rw[hC];exact N0 (S7 _)
 have old:∀b o,s2.heap.get? b=some o->h₁.get? b=some o:=λb o e=>kp b o (i0 _ (hH2 ▸ i0 _ e));have hacc:h₁.get? s2.heap.objs.size=some {cls:=.type "list",data:=.seq ([]:List Value).toArray}:=kp _ _ (i0 _ (hH2 ▸ v0 _ rfl));have st0':tn 0 h₁:=T.keep _ _ _ st2 λb hb o e=>old b o e;have fo:∀b∈fp,∃o,s2.heap.get? b=some o:=λb hb=>let ⟨o,e,_⟩:=T.obj _ _ st2 b hb;⟨o,e⟩;have flt:∀b∈fp,b<s2.heap.objs.size:=λb hb=>by obtain⟨o,e⟩:=fo b hb;exact u0 e
 have clb:∀x c,(VZ X.env.cells sc.names []).lookup x=some c->X.env.cells.lookup x=some c:=λx c e=>by
  rcases rJ (λy hy e=>I2.ok.has y.1 (S.free y hy e)) e with z|z
  .simp at z
  .exact z
 have clb2:∀(C':Addr) x c,(cellsFrom (C'+1) sc.names (VZ X.env.cells sc.names [])).lookup x=some c->C'+1<=c\/X.env.cells.lookup x=some c:=λC' x c e=>by
  rw[WZ,VX]at e;cases q:(cellsFrom (C'+1) sc.names []).lookup x with
  |none=>rw[q]at e;exact .inr (clb x c e)
  |some c'=>rw[q]at e;cases e;exact .inl (hW _ _ (PySem.mem_of_lookup q)).2
 have stt:∀C':Addr,s2.heap.objs.size<=C'->∀{H':Hp}{pl:List (Addr×Obj)},(∀b∈fp,H' b=none)->(∀p∈pl,s2.heap.objs.size<=p.1)->∀b∈fp,DY (xQ X own fr sc C' s2 H2 fp) pl H' b:=λC' hC' H' pl hn hp b hb=>by
  have I0:=f2 b hb;refine ⟨hn b hb,N0 (L0 (flt b hb) hC'),λhm=>?_,.inl hb,λx c e=>by
      rcases clb2 C' x c e with z|z
      . exact N1 (L0 (flt b hb) (Z1 hC' (v5 z)))
      . exact I0.2.2.2.2.1 x c z,λp hp'=>?_⟩
  .rcases Y0.mp (I2.stkSub b hm) with z|z
   .exact I0.2.1 z
   .exact I0.2.2.1 z
  .have hp':p∈pl:=by
    have:p∈([]:List (Addr×Obj))++pl:=hp';simpa using this
   exact N1 (L0 (flt b hb) (hp p hp'))
 have loop:∀s₃:Shared,s₃={s2 with heap:=h₁,toks:=s2.toks} ->
   codeAny (model X.prog X.w) X.A (.compLoop (.ListComp elt [⟨tg,iter,ifs,0⟩] sc pos) 0 (.ref it) (.ref s2.heap.objs.size) (compEnvC sc (cellsFrom (G.objs.size+1) sc.names (VZ X.env.cells sc.names [])) G.objs.size X.env))
    (RR (.ref s2.heap.objs.size) G.objs.size) s₃:=by
  rintro s₃ rfl;have I3:=aG (own:=own) (fr:=fr) (tk:=s2.toks) S I2 f2 fo hCle (M0 _) hDC hns₁ old (λx c h=>(cok.empty x c h).1) cok.apart hacc (λv z=>by cases z);refine uJ (λn s'=>∃i H' ys us k τ,Inv (xQ X own fr sc G.objs.size s2 H2 fp) [(s2.heap.objs.size,{cls:=.type "list",data:=.seq us.toArray k})] τ H' s'/\tn i s'.heap/\(∀b∈fp,H' b=none)/\Vals ys us/\ys.length<=sizeLine/\W i n ys τ H') ?_ m0
   ⟨0,H2,[],[],0,_,I3,st0',λb hb=>(f2 b hb).1,.nil,P3 _,w0⟩;rintro n s4 ⟨i,H4,ys,us,k,τ,I4,st4,fr4,rv4,hz4,w4⟩;have hp4:∀p∈[(s2.heap.objs.size,({cls:=.type "list",data:=.seq us.toArray k}:Obj))],s2.heap.objs.size<=p.1:=λp hp=>by
   rw[G1.mp hp];exact M0 _
  rcases turn i n ys τ H4 w4 with⟨stop,qn⟩|⟨go,hlt,N,hN,step⟩
  .refine eX (T.done (xQ X own fr sc G.objs.size s2 H2 fp) rfl rfl rfl hc i _ s4 _ H4 (λ_ _=>False) I4 (stt _ hCle fr4 hp4) st4 stop) λr s5 ⟨hr,I5⟩=>?_;subst hr;obtain⟨a1,a2,a3⟩:=dj I2 f2 hCle (M0 _) hDC I5 rfl rv4 hz4;exact hRR _ _ _ s5 a1 (qn _ (I5.pin _ (Q1 _ (G1.mpr rfl))).2.1) a2 a3
  .refine eX (T.item (xQ X own fr sc G.objs.size s2 H2 fp) rfl rfl rfl hc i _ s4 _ H4 (λ_ _=>False) I4 (stt _ hCle fr4 hp4) st4 go) λr s5 ⟨u,hr,h5⟩=>?_;subst hr;refine eX h5 λ_ s6 ⟨x,H6,I6,r6,y6,st6,fr6⟩=>?_;have I6':=I6.pinned (stt _ hCle fr6 hp4) (T.obj _ _ st6);refine eX (hg G.objs.size fp _ s6 _ H6 x u _ I6' r6 (step x H6 y6)) λ_ s7 ⟨σ7,H7,I7,q7⟩=>?_;refine eX (hif G.objs.size fp _ s7 σ7 H7 _ I7 q7) λb s8 ⟨H8,I8,q8⟩=>?_;have again:∀{s9:Shared}{H9:Hp}{ys':List V}{us':List Value}{k':Nat},Inv (xQ X own fr sc G.objs.size s2 H2 fp) ([(s2.heap.objs.size,{cls:=.type "list",data:=.seq us'.toArray k'})]++WK fp s6.heap) σ7 H9 s9->Vals ys' us'->ys'.length<=sizeLine->N ys' σ7 H9 ->
     ∃m,m<n/\∃i H' ys us k τ,Inv (xQ X own fr sc G.objs.size s2 H2 fp) [(s2.heap.objs.size,{cls:=.type "list",data:=.seq us.toArray k})] τ H' s9/\tn i s9.heap/\(∀b∈fp,H' b=none)/\Vals ys us/\ys.length<=sizeLine/\W i m ys τ H':=λ{s9 H9 ys' us' k'} I9 rv9 hz9 n9=>by
    obtain⟨m',hm,w9⟩:=hN ys' σ7 H9 n9;refine ⟨m',hm,i+1,H9,ys',us',k',σ7,I9.unpinned,T.keep _ _ _ st6 λb hb o e=>(I9.pin (b,o) (Q1 _ (Q1 _ (RZ hb e)))).1,λb hb=>?_,rv9,hz9,w9⟩;obtain⟨o,e,d⟩:=T.obj _ _ st6 b hb;exact (I9.pin (b,o) (Q1 _ (Q1 _ (RZ hb e)))).2.1
   cases b with
   |false=>rw[if_neg X0]at q8 ⊢;exact again I8 rv4 hz4 q8
   |true =>
    rw[if_pos rfl]at q8 ⊢;refine eX (he G.objs.size fp _ s8 σ7 H8 _ I8 q8) λy s9 ⟨yv,H9,I9,r9,n9⟩=>?_;refine mq (X:=xQ X own fr sc G.objs.size s2 H2 fp) I9 (M0 _) (λx c e z=>?_) (λp hp z=>?_) (by rw[<-rv4.length];exact hlt) λk' s10 I10=>?_
    .rcases clb2 _ x c e with y|y
     .rw[z]at y;exact absurd (L0 (Nat.lt_succ_of_le hCle) y) (U2 _)
     .obtain⟨v,q⟩:=I2.cell x c y;exact absurd (L0 q.lt (by rw[z];exact M0 _)) (U2 _)
    .have hp:p∈([]:List (Addr×Obj))++WK fp s6.heap:=hp;rw[g7]at hp;have:=flt _ (nV hp).1;rw[z]at this;exact absurd this (U2 _)
    .exact again I10 (rv4.append (.cons r9 .nil)) (by rw[U0,Z2];lia) n9
 exact codeAny_compStart_list (loop _ rfl) (T.self _ 0 _ _ _ st0' (loop _ rfl))
theorem av{pos:Pos}{own:List Str}{wi:TI}{g:TG}{tc:TT}{te:TE}(hc:X.calm=true)(S:CompSc X own fr sc)(hi:PI X tg iter wi)
  (hg:∀C s H ex,PG (xQ X own fr sc C s H ex) tg g) (hif:∀C s H ex,fj (xQ X own fr sc C s H ex) ifs tc) (he:∀C s H ex,PE (xQ X own fr sc C s H ex) elt te)
  (hs:∀x,foldedSetIterable iter X.env x=pure x:=by intro _;rfl):PE X (.ListComp elt [⟨tg,iter,ifs,0⟩] sc pos) (vu wi own fr g tc te):=by
 intro pins s σ H Q I h;rw[eval_ListComp];refine wpAny_comprehension_free (use:=none) rfl hs (fW λy hy e=>I.ok.has y.1 (S.free y hy e)) S.kind S.loc (eX (hi pins s σ H _ I h) λv s1 h1=>eX h1 λitv s2 h2=>?_);obtain⟨it,fp,tn,J,H2,e,I2,T,st2,f2,W,⟨m0,w0⟩,turn⟩:=h2;subst e;refine iW (Q:=Q) (RR:=λacc C=>compPost (model X.prog X.w) X.A X.xe none (EP X pins σ Q) acc C) hc S I2 T st2 f2 (λC ex=>hg C s2 H2 ex) (λC ex=>hif C s2 H2 ex) (λC ex=>he C s2 H2 ex) W m0 w0 turn ?_;intro D C H' s' I' q ⟨m,hm⟩ fC;refine ⟨m,hm,λh' sb=>⟨.ref D,H',?_,rfl,q⟩⟩;obtain⟨f0,f1,f2,f3,f4,f5⟩:=fC;exact I'.turned (t':=s'.toks) (λb o hb e=>(sb.2 b hb).trans e) f0 f1 f3 f4 f5
theorem bG{pos spos py:Pos}{i:Nat}{own:List Str}{wi:TI}{g:TG}{tc:TT}{te:TE}(hN:X.N.Nodup)(hy:X.N[i]?=some y)(hl:X.env.scope.names.lookup y=some .local)(hc:X.calm=true)(S:CompSc X own fr sc)(hi:PI X tg iter wi)
  (hg:∀C s H ex,PG (xQ X own fr sc C s H ex) tg g) (hif:∀C s H ex,fj (xQ X own fr sc C s H ex) ifs tc) (he:∀C s H ex,PE (xQ X own fr sc C s H ex) elt te)
  (hsw:swapsWith (.ListComp elt [⟨tg,iter,ifs,0⟩] sc pos) (some (.Name y py)) spos.line X.env=pure true:=by rfl)
  (hs:∀x,foldedSetIterable iter X.env x=pure x:=by intro _;rfl):PS X (.Assign [.Name y py] (.ListComp elt [⟨tg,iter,ifs,0⟩] sc pos) spos) (UK (vu wi own fr g tc te) (oJ i)):=by
 intro pins s σ H D I h;rw[exec_Assign_Name_used _ _ _ _ hsw];refine wpAny_bind (wpAny_standAt ?_);show wpAny _ _ (evalThenUse (.ListComp elt [⟨tg,iter,ifs,0⟩] sc pos) X.env _ >>= _) _ _ s;refine wpAny_bind ?_;unfold evalThenUse;refine wpAny_bind ?_;refine wpAny_comprehension_free rfl hs (fW λy hy e=>I.ok.has y.1 (S.free y hy e)) S.kind S.loc (eX (hi pins s σ H _ I h) λv s1 h1=>eX h1 λitv s2 h2=>?_);obtain⟨it,fp,tn,J,H2,e,I2,T,st2,f2,W,⟨m0,w0⟩,turn⟩:=h2;subst e;refine iW (Q:=λv H1=>D.nx (σ.set i (some v)) H1) hc S I2 T st2 f2 (λC ex=>hg C s2 H2 ex) (λC ex=>hif C s2 H2 ex) (λC ex=>he C s2 H2 ex) W m0 w0 turn ?_;intro D' C H' s' I' q ⟨m,hm⟩ fC;obtain⟨f0,f1,f2,f3,f4,f5⟩:=fC;show wpAny (model X.prog X.w) X.A (assign (.Name y py) X.env (.ref D')) (λ_ s''=>∃m,s''.heap.Ns C m/\∀h',B3 C s''.heap h'->_) X.xe s';refine wpAny_assign_Name (mV I' hN hy (.inl hl) (v:=.ref D') rfl (λs'' I'' hsb=>?_) (.inr hl));obtain⟨a,hsb,ha⟩:=hsb;have hCa:C≠a:=by
  rcases ha with z|z
  .rw[z];exact f1
  .exact λe=>f4 y a z e.symm
 obtain⟨m',hm'⟩:∃m',s''.heap.Ns C m':=⟨m,hm.sameBut hsb hCa⟩;refine ⟨m',hm',λh' sb=>wpAny_pure (wpAny_pure ⟨_,H',?_,q⟩)⟩;exact I''.turned (t':=s''.toks) (λb o hb e=>(sb.2 b hb).trans e) f0 f1 f3 f4 f5
inductive Kd where|l|t
def ItAt(k:Kd)(h:Heap)(it a:Addr)(i:Nat):Prop:=match k with | .l=>h.IsListIter it a i | .t=>h.IsTupleIter it a i
def SqAt(k:Kd)(h:Heap)(a:Addr)(xs:Array Value):Prop:=match k with | .l=>h.IsList a xs | .t=>h.IsTuple a xs
noncomputable def iX(k:Kd)(a:Addr):Obj:=match k with | .l=>{cls:=.type "list_iterator",data:=.fields #[.ref a,.int 0 0]} | .t=>{cls:=.type "tuple_iterator",data:=.fields #[.ref a,.int 0 0]}
def ItAt.at(x:ItAt k h it a i)(f:∀o,h.get? it=some o->h'.get? it=some o):ItAt k h' it a i:=by
 cases k with
 |l=>exact Heap.IsListIter.at x f
 |t=>exact Heap.IsTupleIter.at x f
def SqAt.at(x:SqAt k h a xs)(f:∀o,h.get? a=some o->h'.get? a=some o):SqAt k h' a xs:=by
 cases k with
 |l=>exact Heap.IsList.at x f
 |t=>obtain⟨o,e,r⟩:=x;exact ⟨o,f o e,r⟩
def ItAt.obj(x:ItAt k h it a i):∃o,h.get? it=some o/\∀v,o.data≠.cell v:=by
 cases k with
 |l=>obtain⟨o,e,c,d⟩:=x;exact ⟨o,e,λv z=>by rw[d]at z;cases z⟩
 |t=>obtain⟨o,e,c,d⟩:=x;exact ⟨o,e,λv z=>by rw[d]at z;cases z⟩
def ItAt.new(k:Kd){h:Heap}{it a:Addr}(e:h.get? it=some (iX k a)):ItAt k h it a 0:=by
 cases k with
 |l=>exact ⟨_,e,rfl,rfl⟩
 |t=>exact ⟨_,e,rfl,rfl⟩
section
variable {w:World}
def uK(hl:SqAt k s.heap a xs)(h:Q (.ref s.heap.objs.size) {s with heap:=s.heap.push (iX k a)}):wpAny (model prog w) A (pyIter (.ref a)) Q E s:=by
 cases k with
 |l=>exact wpAny_pyIter_list hl h
 |t=>exact wpAny_pyIter_tuple hl h
def vK(hit:s.heap.IsTupleIter it t i)(ht:s.heap.IsTuple t items)(hx:items[i]?=some x)(hQ:∀h',h'.IsTupleIter it t (i+1)->B3 it s.heap h'->Q x {s with heap:=h'}):wpAny (model prog w) A (T0 (.ref it)) Q E s:=by
 obtain⟨o,ho,hc,hd⟩:=id hit;obtain⟨ol,hol,_,nl,hdl⟩:=ht;unfold T0;refine wpAny_bind (wpAny_callSpecial?_slot (name:=Str.ofString "__next__") hit.typeIs F.slot_tuple_iterator_next
   (wpAny_call_entry F.slot_tuple_iterator_next hit.typeIs F.entry_tuple_iterator_next ?_ (F.args_tuple_iterator_next_1 _)));show wpAny _ _ (field (.ref it) 0 >>= _) _ _ s;refine wpAny_bind (wpAny_field ho hd (x:=.ref t) rfl ?_);show wpAny _ _ (if (Q2 t==T4)=true then _ else _) _ _ s;rw[if_neg (show ¬((Q2 t==T4)=true) from X0)];show wpAny _ _ (field (.ref it) 1 >>= _) _ _ s;refine wpAny_bind (wpAny_field ho hd (x:=.int i 0) rfl ?_);show wpAny _ _ (seqItems? (.ref t) >>= _) _ _ s;refine wpAny_bind (wpAny_seqItems hol hdl ?_);simp only[V5,hx];refine wpAny_bind (wpAny_setField ho hd (by simp) (wpAny_pure ⟨x,rfl,wpAny_pure (hQ _ ?_ (G5 ..))⟩));exact ⟨_,X1 _ ho (n8 (w6 hd _)),(Obj.cls_mapFields ..).trans hc,by
   rw[w6 hd];simp[rawInt]⟩
def aY(hh:A.handled=none)(hit:s.heap.IsTupleIter it l i) (hl:s.heap.IsTuple l items) (hx:items[i]?=none)(hE:∀h' e,i9 it s.heap h'->(∃o,h'.get? e=some o/\o.cls=.type "StopIteration")->E (.ref e) {s with heap:=h'}):wpAny (model prog w) A (T0 (.ref it)) Q E s:=by
 obtain⟨o,ho,hc,hd⟩:=id hit;obtain⟨ol,hol,_,nl,hdl⟩:=hl;unfold T0;refine wpAny_bind (wpAny_callSpecial?_slot (name:=Str.ofString "__next__") hit.typeIs F.slot_tuple_iterator_next
   (wpAny_call_entry F.slot_tuple_iterator_next hit.typeIs F.entry_tuple_iterator_next ?_ (F.args_tuple_iterator_next_1 _)));show wpAny _ _ (field (.ref it) 0 >>= _) _ _ s;refine wpAny_bind (wpAny_field ho hd (x:=.ref l) rfl ?_);show wpAny _ _ (if (Q2 l==T4)=true then _ else _) _ _ s;rw[if_neg (show ¬((Q2 l==T4)=true) from X0)];show wpAny _ _ (field (.ref it) 1 >>= _) _ _ s;refine wpAny_bind (wpAny_field ho hd (x:=.int i 0) rfl ?_);show wpAny _ _ (seqItems? (.ref l) >>= _) _ _ s;refine wpAny_bind (wpAny_seqItems hol hdl ?_);simp only[V5,hx];refine wpAny_bind (wpAny_rule (wpAny_bind (wpAny_setField ho hd (by simp) ?_)));show wpAny _ _ (newExc (.type "StopIteration") [] >>= _) _ _ _;refine wpAny_bind ?_;simp only[newExc,newTuple];refine wpAny_bind (wpAny_newObj_type ?_ (by size_fits));refine wpAny_bind (m:=firstArgMember _ _) (wpAny_of_eq (a:=T4) (by first|rfl|(simp only[firstArgMember];rfl)) ?_);refine wpAny_newObj_type ?_ (by size_fits);simp only[raiseNew];refine wpAny_bind (wpAny_handled ?_);first|rw[show A.in1.handled=none from hh]|rw[hh]
 refine wpAny_bind (wpAny_pure (wpAny_throw ?_));exact hE _ _ (((G5 ..).extBut.push _).push _) ⟨_,v0 _ rfl,rfl⟩
def TQ(hit:ItAt k s.heap it a i)(hl:SqAt k s.heap a xs)(hx:xs[i]?=some x)(hQ:∀h',ItAt k h' it a (i+1)->B3 it s.heap h'->Q x {s with heap:=h'}):wpAny (model prog w) A (T0 (.ref it)) Q E s:=by
 cases k with
 |l=>exact wpAny_nextOf_list_item hit hl hx hQ
 |t=>exact vK hit hl hx hQ
def sX(hh:A.handled=none)(hit:ItAt k s.heap it a i)(hl:SqAt k s.heap a xs)(hx:xs[i]?=none)(hE:∀h' e,i9 it s.heap h'->(∃o,h'.get? e=some o/\o.cls=.type "StopIteration")->E (.ref e) {s with heap:=h'}):wpAny (model prog w) A (T0 (.ref it)) Q E s:=by
 cases k with
 |l=>exact wpAny_nextOf_list_end hh hit hl hx hE
 |t=>exact aY hh hit hl hx hE
end
abbrev lQ(h:Heap)(T:Addr)(a1 a2:Value):Prop:=h.get? T=some {cls:=.type "tuple",data:=.seq #[a1,a2]}
structure ZAp2(z TI TO i1 i2 l1 l2:Addr):Prop where
 TIz:TI≠z
 TOz:TO≠z
 i1z:i1≠z
 i2z:i2≠z
 TOTI:TO≠TI
 i1TI:i1≠TI
 i2TI:i2≠TI
 i1TO:i1≠TO
 i2TO:i2≠TO
 i2i1:i2≠i1
 l1z:l1≠z
 l1TO:l1≠TO
 l1i1:l1≠i1
 l1i2:l1≠i2
 l2z:l2≠z
 l2TO:l2≠TO
 l2i1:l2≠i1
 l2i2:l2≠i2
def bv(n l1 l2:Nat)(h1:l1<n)(h2:l2<n):ZAp2 (n+4) (n+2) (n+3) n (n+1) l1 l2:=by constructor<;>(show ¬(@Eq Nat _ _))<;>lia
section
variable {w:World}
def bY{Q:Unit->Shared->Prop}(hT:lQ s.heap T a1 a2)(h:∀h',h'.get? T=some {cls:=.type "tuple",data:=.seq ((#[a1,a2]:Array Value).setIfInBounds k x)}->B3 T s.heap h'->Q () {s with heap:=h'}):wpAny (model prog w) A (updateSeq T (·.setIfInBounds k x)) Q E s:=by
 refine wpAny_updateSeq hT rfl (h _ ?_ (G5 ..));rw[X1 _ hT rfl];simp[W2]
def cG{TI TO:Addr}(D:ZAp2 z TI TO i1 i2 l1 l2)(hz:IsZip s.heap z TI TO .none) (hTI:lQ s.heap TI (.ref i1) (.ref i2)) (hTO:lQ s.heap TO a1 a2)(h1:ItAt k1 s.heap i1 l1 k) (h2:ItAt k2 s.heap i2 l2 k) (hl1:SqAt k1 s.heap l1 xs1) (hl2:SqAt k2 s.heap l2 xs2) (hx1:xs1[k]?=some x1) (hx2:xs2[k]?=some x2)(hQ:∀h',IsZip h' z TI TO (rawInt s.heap.objs.size)->lQ h' TO x1 x2->ItAt k1 h' i1 l1 (k+1)->ItAt k2 h' i2 l2 (k+1)->lQ h' s.heap.objs.size x1 x2->h'.objs.size=s.heap.objs.size+1 ->(∀c o,c≠z->c≠TO->c≠i1->c≠i2->s.heap.get? c=some o->h'.get? c=some o)->Q (.ref s.heap.objs.size) {s with heap:=h'}):wpAny (model prog w) A (Builtin.«zip.__next__» ⟨[.ref z],[]⟩) (λfin s'=>∃v,fin=.done (.ret v)/\Q v s') E s:=by
 show wpAny _ _ (field (.ref z) 2 >>= _) _ _ _;refine wpAny_bind (wpAny_field hz rfl (x:=.bool false) rfl ?_);show wpAny _ _ (field (.ref z) 3 >>= _) _ _ _;refine wpAny_bind (wpAny_field hz rfl (x:=.ref TI) rfl ?_);refine wpAny_bind (wpAny_seqItems hTI rfl ?_);show wpAny _ _ (W0 (.ref z) >>= _) _ _ _;refine wpAny_bind ?_;unfold W0;refine wpAny_bind (wpAny_field hz rfl (x:=.none) rfl (wpAny_pure ?_));simp only[if_true];refine wpAny_bind (wpAny_rule ?_);refine wpAny_bind (wpAny_field hz rfl (x:=.ref TO) rfl ?_);refine wpAny_bind (wpAny_setField_rec hz (by simp) λh₁ hz₁ hs₁=>?_)
 replace hz₁:IsZip h₁ z TI TO .ellipsis:=hz₁
 refine wpAny_bind ?_;simp only[i6,h7,U4,i5];have up₁:∀c o,c≠z->s.heap.get? c=some o->h₁.get? c=some o:=λc o c1 e=>hs₁.extBut _ _ c1 e;refine wpAny_bind (wpAny_bind (wpAny_onRaise ?_));show wpAny _ _ (T0 (.ref i1) >>= _) _ _ _;refine wpAny_bind (TQ (h1.at λo e=>hs₁.extBut _ o D.i1z e) (hl1.at λo e=>hs₁.extBut _ o D.l1z e) hx1 λha1 hi1 hsa1=>wpAny_pure ?_);have hTOa1:lQ ha1 TO a1 a2:=hsa1.extBut _ _ D.i1TO.symm (hs₁.extBut _ _ D.TOz hTO);refine wpAny_bind (wpAny_seqItems hTOa1 rfl ?_);refine wpAny_bind (bY hTOa1 λhb1 hTOb1 hsb1=>?_)
 replace hTOb1:lQ hb1 TO x1 a2:=hTOb1
 refine wpAny_bind (wpAny_letGo (wpAny_pure ?_));refine wpAny_bind (wpAny_bind (wpAny_onRaise ?_));show wpAny _ _ (T0 (.ref i2) >>= _) _ _ _;refine wpAny_bind (TQ (((h2.at λo e=>hs₁.extBut _ o D.i2z e).at λo e=>hsa1.extBut _ o D.i2i1 e).at λo e=>hsb1.extBut _ o D.i2TO e) (((hl2.at λo e=>hs₁.extBut _ o D.l2z e).at λo e=>hsa1.extBut _ o D.l2i1 e).at λo e=>hsb1.extBut _ o D.l2TO e) hx2 λha2 hi2 hsa2=>wpAny_pure ?_);have hTOa2:lQ ha2 TO x1 a2:=hsa2.extBut _ _ D.i2TO.symm hTOb1;refine wpAny_bind (wpAny_seqItems hTOa2 rfl ?_);refine wpAny_bind (bY hTOa2 λhb2 hTOb2 hsb2=>?_)
 replace hTOb2:lQ hb2 TO x1 x2:=hTOb2
 refine wpAny_bind (wpAny_letGo (wpAny_pure (wpAny_pure ?_)));refine wpAny_bind (wpAny_seqItems hTOb2 rfl ?_);refine wpAny_bind (wpAny_newTuple ?_);have hsz:hb2.objs.size=s.heap.objs.size:=by rw[hsb2.1,hsa2.1,hsb1.1,hsa1.1,hs₁.1]
 have hzG:IsZip hb2 z TI TO .ellipsis:=(hsb2.extBut _ _ D.TOz.symm (hsa2.extBut _ _ D.i2z.symm (hsb1.extBut _ _ D.TOz.symm (hsa1.extBut _ _ D.i1z.symm hz₁))));have hkG:∀c o,c≠z->c≠TO->c≠i1->c≠i2->s.heap.get? c=some o->hb2.get? c=some o:=λc o c1 c2 d1 d2 e=>(hsb2.extBut _ _ c2 (hsa2.extBut _ _ d2 (hsb1.extBut _ _ c2 (hsa1.extBut _ _ d1 (hs₁.extBut _ _ c1 e)))));have hiG1:ItAt k1 hb2 i1 l1 (k+1):=(((hi1.at λo e=>hsb1.extBut _ o D.i1TO e).at λo e=>hsa2.extBut _ o D.i2i1.symm e).at λo e=>hsb2.extBut _ o D.i1TO e);have hiG2:ItAt k2 hb2 i2 l2 (k+1):=(hi2.at λo e=>hsb2.extBut _ o D.i2TO e);have hzlt:z<hb2.objs.size:=u0 hzG;show wpAny _ _ (X2 (.ref z) (.ref hb2.objs.size) >>= _) _ _ _;refine wpAny_bind ?_;unfold X2;have hz₆:IsZip (hb2.push {cls:=.type "tuple",data:=.seq #[x1,x2]}) z TI TO .ellipsis:=i0 _ hzG;refine wpAny_bind (wpAny_setField_rec hz₆ (by simp) λh₇ hz₇ hs₇=>?_)
 replace hz₇:IsZip h₇ z TI TO (rawInt hb2.objs.size):=hz₇
 refine wpAny_setField_rec hz₇ (by simp) λh₈ hz₈ hs₈=>?_
 replace hz₈:IsZip h₈ z TI TO (rawInt hb2.objs.size):=hz₈
 have up:∀c o,c≠z->hb2.get? c=some o->h₈.get? c=some o:=λc o c1 e=>hs₈.extBut _ _ c1 (hs₇.extBut _ _ c1 (i0 _ e));have hT₈:lQ h₈ hb2.objs.size x1 x2:=hs₈.extBut _ _ (N1 hzlt) (hs₇.extBut _ _ (N1 hzlt) (v0 _ rfl));have hz8:h₈.objs.size=hb2.objs.size+1:=by rw[hs₈.1,hs₇.1,Z0]
 rw[hsz]at hz₈ hT₈ hz8;refine wpAny_pure ⟨_,rfl,?_⟩;show Q (.ref hb2.objs.size) _;rw[hsz];exact hQ h₈ hz₈ (up _ _ D.TOz hTOb2) (hiG1.at λo e=>up _ o D.i1z e) (hiG2.at λo e=>up _ o D.i2z e) hT₈ hz8 λc o c1 c2 d1 d2 e=>up c o c1 (hkG c o c1 c2 d1 d2 e)
def oq{TI TO:Addr}{Q:Fin->Shared->Prop}(hh:A.handled=none)(D:ZAp2 z TI TO i1 i2 l1 l2)(hz:IsZip s.heap z TI TO .none) (hTI:lQ s.heap TI (.ref i1) (.ref i2)) (hTO:lQ s.heap TO a1 a2)(h1:ItAt k1 s.heap i1 l1 k) (h2:ItAt k2 s.heap i2 l2 k) (hl1:SqAt k1 s.heap l1 xs1) (hl2:SqAt k2 s.heap l2 xs2) (hend:xs1[k]?=none\/xs2[k]?=none)(hE:∀h' e,(∀c o,c≠z->c≠TO->c≠i1->c≠i2->s.heap.get? c=some o->h'.get? c=some o)->(∃o,h'.get? e=some o/\o.cls=.type "StopIteration")->E (.ref e) {s with heap:=h'}):wpAny (model prog w) A (Builtin.«zip.__next__» ⟨[.ref z],[]⟩) Q E s:=by
 show wpAny _ _ (field (.ref z) 2 >>= _) _ _ _;refine wpAny_bind (wpAny_field hz rfl (x:=.bool false) rfl ?_);show wpAny _ _ (field (.ref z) 3 >>= _) _ _ _;refine wpAny_bind (wpAny_field hz rfl (x:=.ref TI) rfl ?_);refine wpAny_bind (wpAny_seqItems hTI rfl ?_);show wpAny _ _ (W0 (.ref z) >>= _) _ _ _;refine wpAny_bind ?_;unfold W0;refine wpAny_bind (wpAny_field hz rfl (x:=.none) rfl (wpAny_pure ?_));simp only[if_true];refine wpAny_bind (wpAny_rule ?_);refine wpAny_bind (wpAny_field hz rfl (x:=.ref TO) rfl ?_);refine wpAny_bind (wpAny_setField_rec hz (by simp) λh₁ hz₁ hs₁=>?_)
 replace hz₁:IsZip h₁ z TI TO .ellipsis:=hz₁
 refine wpAny_bind ?_;simp only[i6,h7,U4,i5];refine wpAny_bind (wpAny_bind (wpAny_onRaise ?_));show wpAny _ _ (T0 (.ref i1) >>= _) _ _ _;cases hx1:xs1[k]? with
 |none =>
  refine wpAny_bind (sX hh (h1.at λo e=>hs₁.extBut _ o D.i1z e) (hl1.at λo e=>hs₁.extBut _ o D.l1z e) hx1 λhq e hsq he=>?_);obtain⟨oe,hoe,hce⟩:=he;have hzq:IsZip hq z TI TO .ellipsis:=hsq _ _ D.i1z.symm hz₁;have hez:e≠z:=λx=>by subst x;rw[hzq]at hoe;cases hoe;simp at hce
  refine wpAny_setField_rec hzq (by simp) λh₉ _ hs₉=>hE h₉ e (λc o c1 c2 d1 d2 x=>hs₉.extBut _ _ c1 (hsq _ _ d1 (hs₁.extBut _ _ c1 x))) ⟨oe,hs₉.extBut _ _ hez hoe,hce⟩
 |some x1 =>
  refine wpAny_bind (TQ (h1.at λo e=>hs₁.extBut _ o D.i1z e) (hl1.at λo e=>hs₁.extBut _ o D.l1z e) hx1 λha1 hi1 hsa1=>wpAny_pure ?_);have hTOa1:lQ ha1 TO a1 a2:=hsa1.extBut _ _ D.i1TO.symm (hs₁.extBut _ _ D.TOz hTO);refine wpAny_bind (wpAny_seqItems hTOa1 rfl ?_);refine wpAny_bind (bY hTOa1 λhb1 hTOb1 hsb1=>?_)
  replace hTOb1:lQ hb1 TO x1 a2:=hTOb1
  refine wpAny_bind (wpAny_letGo (wpAny_pure ?_));refine wpAny_bind (wpAny_bind (wpAny_onRaise ?_));show wpAny _ _ (T0 (.ref i2) >>= _) _ _ _;have hx2:xs2[k]?=none:=by
   rcases hend with h|h
   .rw[hx1]at h;cases h
   .exact h
  refine wpAny_bind (sX hh (((h2.at λo e=>hs₁.extBut _ o D.i2z e).at λo e=>hsa1.extBut _ o D.i2i1 e).at λo e=>hsb1.extBut _ o D.i2TO e) (((hl2.at λo e=>hs₁.extBut _ o D.l2z e).at λo e=>hsa1.extBut _ o D.l2i1 e).at λo e=>hsb1.extBut _ o D.l2TO e) hx2 λhq e hsq he=>?_);obtain⟨oe,hoe,hce⟩:=he;have hzq:IsZip hq z TI TO .ellipsis:=hsq _ _ D.i2z.symm (hsb1.extBut _ _ D.TOz.symm (hsa1.extBut _ _ D.i1z.symm hz₁));have hez:e≠z:=λx=>by subst x;rw[hzq]at hoe;cases hoe;simp at hce
  refine wpAny_setField_rec hzq (by simp) λh₉ _ hs₉=>hE h₉ e (λc o c1 c2 d1 d2 x=>hs₉.extBut _ _ c1 (hsq _ _ d2 (hsb1.extBut _ _ c2 (hsa1.extBut _ _ d1 (hs₁.extBut _ _ c1 x))))) ⟨oe,hs₉.extBut _ _ hez hoe,hce⟩
def vJ{TI TO:Addr}{Q:Option Value->Shared->Prop}(D:ZAp2 z TI TO i1 i2 l1 l2)(hz:IsZip s.heap z TI TO .none) (hTI:lQ s.heap TI (.ref i1) (.ref i2)) (hTO:lQ s.heap TO a1 a2)(h1:ItAt k1 s.heap i1 l1 k) (h2:ItAt k2 s.heap i2 l2 k) (hl1:SqAt k1 s.heap l1 xs1) (hl2:SqAt k2 s.heap l2 xs2) (hx1:xs1[k]?=some x1) (hx2:xs2[k]?=some x2)(hQ:∀h',IsZip h' z TI TO (rawInt s.heap.objs.size)->lQ h' TO x1 x2->ItAt k1 h' i1 l1 (k+1)->ItAt k2 h' i2 l2 (k+1)->lQ h' s.heap.objs.size x1 x2->h'.objs.size=s.heap.objs.size+1 ->(∀c o,c≠z->c≠TO->c≠i1->c≠i2->s.heap.get? c=some o->h'.get? c=some o)->Q (some (.ref s.heap.objs.size)) {s with heap:=h'}):wpAny (model prog w) A (pyNext (.ref z)) Q E s:=by
 have hT:s.TypeIs (.ref z) "zip":=⟨_,hz,rfl⟩;unfold pyNext;exact wpAny_bind (wpAny_attempt (wpAny_callSpecial?_slot (name:=Str.ofString "__next__") hT F.slot_zip_next
   (wpAny_call_entry F.slot_zip_next hT F.entry_zip_next
     (cG D hz hTI hTO h1 h2 hl1 hl2 hx1 hx2 λh' a1 a2 b1 b2 a5 a6 a7=>wpAny_pure (hQ h' a1 a2 b1 b2 a5 a6 a7)) (F.args_zip_next_1 _))))
def aK{TI TO:Addr}{Q:Option Value->Shared->Prop}(hh:A.handled=none)(D:ZAp2 z TI TO i1 i2 l1 l2)(hz:IsZip s.heap z TI TO .none) (hTI:lQ s.heap TI (.ref i1) (.ref i2)) (hTO:lQ s.heap TO a1 a2)(h1:ItAt k1 s.heap i1 l1 k) (h2:ItAt k2 s.heap i2 l2 k) (hl1:SqAt k1 s.heap l1 xs1) (hl2:SqAt k2 s.heap l2 xs2) (hend:xs1[k]?=none\/xs2[k]?=none)(hQ:∀h',(∀c o,c≠z->c≠TO->c≠i1->c≠i2->s.heap.get? c=some o->h'.get? c=some o)->Q none {s with heap:=h'}):wpAny (model prog w) A (pyNext (.ref z)) Q E s:=by
 have hT:s.TypeIs (.ref z) "zip":=⟨_,hz,rfl⟩;unfold pyNext;refine wpAny_bind (wpAny_attempt (wpAny_callSpecial?_slot (name:=Str.ofString "__next__") hT F.slot_zip_next
   (wpAny_call_entry F.slot_zip_next hT F.entry_zip_next (oq hh D hz hTI hTO h1 h2 hl1 hl2 hend λh' e hk he=>?_) (F.args_zip_next_1 _))));obtain⟨o,ho,hc⟩:=he;refine wpAny_bind (wpAny_isInstance (T:="StopIteration") (b:=true) ⟨o,ho,hc⟩ isSubtype_stop ?_);exact wpAny_pure (hQ _ hk)
end
noncomputable abbrev SW(h:Heap)(k1:Kd)(k2:Kd)(l1 l2:Addr):Heap:=((h.push (iX k1 l1)).push (iX k2 l2))
noncomputable abbrev TW(h:Heap)(k1:Kd)(k2:Kd)(l1 l2:Addr):Heap:=(SW h k1 k2 l1 l2).push {cls:=.type "tuple",data:=.seq #[.ref h.objs.size,.ref (h.push (iX k1 l1)).objs.size]}
noncomputable abbrev UW(h:Heap)(k1:Kd)(k2:Kd)(l1 l2:Addr):Heap:=(TW h k1 k2 l1 l2).push {cls:=.type "tuple",data:=.seq #[.none,.none]}
noncomputable abbrev jX(h:Heap)(k1:Kd)(k2:Kd)(l1 l2:Addr):Heap:=(UW h k1 k2 l1 l2).push {cls:=.type "zip",data:=.fields #[.none,.bool false,.bool false,.ref (SW h k1 k2 l1 l2).objs.size,.ref (TW h k1 k2 l1 l2).objs.size]}
def wK(k1:Kd)(k2:Kd)(l1 l2:Addr)(xs1 xs2:Array Value):Meets (Builtin.«zip.__new__» ⟨[.type "zip",.ref l1,.ref l2],[]⟩) (λ_ R s=>SqAt k1 s.heap l1 xs1/\SqAt k2 s.heap l2 xs2 /\ R (.ok (.ret (.ref (UW s.heap k1 k2 l1 l2).objs.size))) {s with heap:=jX s.heap k1 k2 l1 l2}):=
 .of_wp λprog w A R s h=>by
  obtain⟨hp,g,d,tk,os⟩:=s;obtain⟨hl1,hl2,h⟩:=h;have hsub:=sub_zip;have hL1:SqAt k1 (Shared.heap ⟨hp,g,d,tk,os⟩) l1 xs1:=hl1;have hL2:SqAt k2 (Shared.heap ⟨(hp.push (iX k1 l1)),g,d,tk,os⟩) l2 xs2:=(SqAt.at hl2 λo e=>i0 _ e)
  wp_walk using uK hL1,uK hL2
  exact ⟨_,rfl,h⟩
structure ZAp3(z TI TO i1 i2 i3 l1 l2 l3:Addr):Prop where
 TIz:TI≠z
 TOz:TO≠z
 i1z:i1≠z
 i2z:i2≠z
 i3z:i3≠z
 TOTI:TO≠TI
 i1TI:i1≠TI
 i2TI:i2≠TI
 i3TI:i3≠TI
 i1TO:i1≠TO
 i2TO:i2≠TO
 i3TO:i3≠TO
 i2i1:i2≠i1
 i3i1:i3≠i1
 i3i2:i3≠i2
 l1z:l1≠z
 l1TO:l1≠TO
 l1i1:l1≠i1
 l1i2:l1≠i2
 l1i3:l1≠i3
 l2z:l2≠z
 l2TO:l2≠TO
 l2i1:l2≠i1
 l2i2:l2≠i2
 l2i3:l2≠i3
 l3z:l3≠z
 l3TO:l3≠TO
 l3i1:l3≠i1
 l3i2:l3≠i2
 l3i3:l3≠i3
section
variable {w:World}
end
inductive Ki where|non|bl|int|str|lst|tup|dct
 deriving DecidableEq
noncomputable def Ki.nm:Ki->String
 | .non=>"NoneType" | .bl=>"bool" | .int=>"int" | .str=>"str" | .lst=>"list" | .tup=>"tuple" | .dct=>"dict"
noncomputable def KiOf(K:B0)(H:Hp):V->Ki->Prop
 | .non,k=>k=.non
 | .bl _,k=>k=.bl
 | .int _,k=>k=.int
 | .str _,k=>k=.str
 | .ref a,k=>(k=.lst/\∃xs,SqL K H a xs)\/(k=.tup/\∃xs,SqT K H a xs)\/(k=.dct/\((∃kvs,H a=some (.dK kvs))\/∃kvs,H a=some (.dT kvs)))
 |_,_=>False
noncomputable def Ki.sub:Ki->Ki->Bool
 | .bl,.int=>true
 |a,b=>decide (a=b)
def KiOf.typeIs(I:Inv X pins σ H s)(h:KiOf X.K H x k)(r:RelV x u):s.TypeIs u k.nm:=by
 cases x with
 |non=>cases h;cases r;rfl
 |bl b=>cases h;cases r;rfl
 |int i=>cases h;obtain⟨t,rfl⟩:=r;rfl
 |str i=>cases h;obtain⟨t,rfl⟩:=r;rfl
 |ref a =>
  cases r;rcases h with⟨rfl,xs,hq⟩|⟨rfl,xs,hq⟩|⟨rfl,⟨kvs,hq⟩|⟨kvs,hq⟩⟩
  .obtain⟨its,_,⟨o,n,e,c,_⟩,_⟩:=I.list hq;exact ⟨o,e,c⟩
  .obtain⟨its,_,⟨o,e,c,_⟩,_⟩:=I.tuple hq;exact ⟨o,e,c⟩
  .obtain⟨_,_,_,_,o,es,ep,e,c,_⟩:=I.hok a _ hq;exact ⟨o,e,c.1⟩
  .obtain⟨_,_,_,_,o,es,ep,e,c,_⟩:=I.hok a _ hq;exact ⟨o,e,c.1⟩
 |byt _=>cases h
 |flt _=>cases h
 |ty _=>cases h
def MQ(T:Ki):typeOf (.type T.nm)=pure (.type "type"):=by
 cases T
 .exact F.isi_meta_NoneType
 .exact F.isi_meta_bool
 .exact F.isi_meta_int
 .exact F.isi_meta_str
 .exact F.isi_meta_list
 .exact F.isi_meta_tuple
 .exact F.isi_meta_dict
def OX(k T:Ki):isSubtype (.type k.nm) (.type T.nm)=pure (k.sub T):=by cases k<;>cases T<;>(show isSubtype (.type _) (.type _)=pure _;rw[isSubtype_type];kernel_rfl)
def bK(k T:Ki)(h:k.sub T=false):(B5 k.nm==B5 T.nm)=false:=by cases k<;>cases T<;>first|(exfalso;revert h;decide)|decide +kernel
def qq(K:B0):List V->Hp->VK->Prop:=λxs H Q=>∃(x:V) (k:Ki) (T:Ki),xs=[x,.ty T.nm]/\KiOf K H x k/\Q (.bl (k.sub T)) H
def OU:fX X (.builtin "isinstance") (qq X.K):=by
 intro pins s σ H xs us Q I r h;obtain⟨x,k,T,rfl,hk,q⟩:=h;obtain⟨u,w',rfl,ru,rw'⟩:=vY r;obtain rfl:w'=.type T.nm:=rw';have ht:=hk.typeIs I ru;cases hs:k.sub T with
 |true=>rw[hs]at q;exact call_isinstance (isinstance_true (Tx:=k.nm) (MQ T) (by rw[OX,hs])) ⟨ht,.bl true,H,I,rfl,q⟩
 |false =>
  rw[hs]at q;have hsub:isSubtype (.type k.nm) (.type T.nm)=pure false:=by rw[OX,hs]
  have hne:=bK k T hs;have fin:EP X pins σ Q (.bool false) {s with toks:=s.toks+1}:=⟨.bl false,H,I.tok _,rfl,q⟩;cases x with
  |non=>cases hk;cases ru;exact call_isinstance (isinstance_false_none hne (MQ T) hsub) fin
  |bl b=>cases hk;cases ru;exact call_isinstance (isinstance_false_bool hne (MQ T) hsub) fin
  |int i=>cases hk;obtain⟨t,rfl⟩:=ru;exact call_isinstance (isinstance_false_int hne (MQ T) hsub) fin
  |str i=>cases hk;obtain⟨t,rfl⟩:=ru;exact call_isinstance (isinstance_false_str hne (MQ T) hsub) fin
  |ref a =>
   cases ru;rcases hk with⟨rfl,_⟩|⟨rfl,_⟩|⟨rfl,_⟩
   .exact call_isinstance (isinstance_false_list hne (MQ T) hsub) ⟨ht,fin⟩
   .exact call_isinstance (isinstance_false_tuple hne (MQ T) hsub) ⟨ht,fin⟩
   .exact call_isinstance (isinstance_false_dict hne (MQ T) hsub) ⟨ht,fin⟩
  |byt _=>cases hk
  |flt _=>cases hk
  |ty _=>cases hk
def BB(K:B0):List V->Hp->VK->Prop:=λxs H Q=>∃(a:Addr) (bs:List Bool),xs=[.ref a]/\SqL K H a (bs.map V.bl)/\Q (.bl (bs.all id)) H
def PU{bs:List Bool}(r:Vals (bs.map V.bl) us)(i:Nat)(v:Value)(h:us[i]?=some v):∃b,bs[i]?=some b/\v=.bool b:=by
 cases e:bs[i]? with
 |none =>
  have h1:(bs.map V.bl)[i]?=none:=by rw[Q0,e];rfl
  rw[r.none_of h1]at h;cases h
 |some b=>obtain⟨u,hu,ru⟩:=r.get (i:=i) (x:=.bl b) (by rw[Q0,e];rfl);rw[hu]at h;cases h;exact ⟨b,rfl,ru⟩
def dU(bs:List Bool):((K2 bs.length).all λi=>(bs[i]?).getD true)=bs.all id:=by
 rw[O5,u4,u4];constructor
 .intro h b hb;obtain⟨i,hi,e⟩:=E8.mp hb;have:=h i (J5.mpr hi);rw[A0 hi,W4,e]at this;exact this
 .intro h i hi;have hi:=J5.mp hi;rw[A0 hi,W4];exact h _ (N2 hi)
def gj(hc:X.calm=true):fX X (.builtin "all") (BB X.K):=by
 intro pins s σ H xs us Q I r h;obtain⟨a,bs,rfl,hq,q⟩:=h;obtain⟨u,rfl,ru⟩:=iZ r;cases ru;obtain⟨its,rv,p,hz⟩:=I.list hq;have hl:=p.isList;have hlt:a<s.heap.objs.size:=by obtain⟨_,e,_⟩:=hl;exact u0 e
 refine call_all_walk (wpAny_pyIter_list hl ?_);refine ⟨s.heap.objs.size,[s.heap.objs.size,a],[s.heap.objs.size],its.toArray.size,_,_,λi=>(bs[i]?).getD true,rfl,Walks.list (A:=X.A.in1) (I.ok.hd hc) _ a (N0 hlt) its.toArray,
   ⟨⟨_,v0 _ rfl,rfl,rfl⟩,hl.push _⟩,λi v s' Q' E' hP hQ=>?_,λh' tk hk=>?_⟩
 .obtain⟨b,e,rfl⟩:=PU rv i v (by simpa using hP);simp only[e,W4]at hQ;exact wpAny_truthy_bool hQ
 .have e:((K2 its.toArray.size).all λi=>(bs[i]?).getD true)=bs.all id:=by
   have hl2:=rv.length;rw[q0]at hl2;rw[V0,<-hl2];exact dU bs
  rw[e];refine ⟨.bl (bs.all id),H,I.kept (h':=h') (t':=tk) λb o eo=>hk b o (λhm=>?_) (i0 _ eo),rfl,q⟩;rw[G1.mp hm]at eo;exact U2 _ (u0 eo)
def Sq(k:Kd)(K:B0)(H:Hp)(a:Addr)(xs:List V):Prop:=match k with | .l=>SqL K H a xs | .t=>SqT K H a xs
def Inv.sq(I:Inv X pins σ H s)(h:Sq k X.K H a xs):∃its:List Value,Vals xs its/\SqAt k s.heap a its.toArray/\xs.length<=sizeLine:=by
 cases k with
 |l=>obtain⟨its,r,p,z⟩:=I.list h;exact ⟨its,r,p.isList,z⟩
 |t=>obtain⟨its,r,p,z⟩:=I.tuple h;exact ⟨its,r,p,z⟩
def Inv.sq_inj(I:Inv X pins σ H s)(h:Sq k X.K H a xs)(h':Sq k X.K H a ys):xs=ys:=by
 cases k with
 |l=>exact I.list_inj h h'
 |t=>exact I.tuple_inj h h'
noncomputable def CB(K:B0)(k1:Kd)(k2:Kd)(l1 l2:Addr):It :=
 ⟨λi H=>∃ys1 x1 ys2 x2,Sq k1 K H l1 ys1/\Sq k2 K H l2 ys2/\ys1[i]?=some x1/\ys2[i]?=some x2,
  λi H x H'=>∃T x1 x2,H T=none/\x=.ref T/\H'=DQ H T (.tup [x1,x2])/\(∀ys,Sq k1 K H l1 ys->ys[i]?=some x1)/\(∀ys,Sq k2 K H l2 ys->ys[i]?=some x2),
  λi H=>∃ys1 ys2,Sq k1 K H l1 ys1/\Sq k2 K H l2 ys2/\(ys1.length<=i\/ys2.length<=i)⟩
def rq{K:B0}(k1:Kd)(k2:Kd)(z TI TO i1 i2 l1 l2:Addr)(D:ZAp2 z TI TO i1 i2 l1 l2):Turn P w K (.Tuple es kk pos) (CB K k1 k2 l1 l2) [z,TI,TO,i1,i2] z (λi h=>IsZip h z TI TO .none/\lQ h TI (.ref i1) (.ref i2)/\(∃a1 a2,lQ h TO a1 a2)/\ItAt k1 h i1 l1 i/\ItAt k2 h i2 l2 i) where
 mem:=by simp
 obj:=λi h st b hb=>by
  obtain⟨hz,hTI,⟨a1,a2,hTO⟩,t1,t2⟩:=st;have hb:b=z\/b=TI\/b=TO\/b=i1\/b=i2:=by simpa using hb
  rcases hb with rfl|rfl|rfl|rfl|rfl
  .exact ⟨_,hz,λv e=>by cases e⟩
  .exact ⟨_,hTI,λv e=>by cases e⟩
  .exact ⟨_,hTO,λv e=>by cases e⟩
  .exact t1.obj
  .exact t2.obj
 keep:=λi h h' st k=>by obtain⟨hz,hTI,⟨a1,a2,hTO⟩,t1,t2⟩:=st;exact ⟨k _ (by simp) _ hz,k _ (by simp) _ hTI,⟨a1,a2,k _ (by simp) _ hTO⟩,t1.at λo e=>k _ (by simp) _ e,t2.at λo e=>k _ (by simp) _ e⟩
 item:=by
  intro X hP hw hK hc i pins s σ H E I hf st hg;subst hP hw hK;obtain⟨hz,hTI,⟨a1,a2,hTO⟩,t1,t2⟩:=st;obtain⟨ys1,x1,ys2,x2,q1,q2,e1,e2⟩:=hg;obtain⟨its1,rv1,p1,z1⟩:=I.sq q1;obtain⟨u1,hu1,ru1⟩:=rv1.get e1;obtain⟨its2,rv2,p2,z2⟩:=I.sq q2;obtain⟨u2,hu2,ru2⟩:=rv2.get e2;refine vJ D hz hTI hTO t1 t2 p1 p2 (show its1.toArray[i]?=some u1 by simpa using hu1) (show its2.toArray[i]?=some u2 by simpa using hu2) λh' b1 b2 c1 c2 b5 b6 b7=>?_;have hTn:s.heap.objs.size≠z:=N1 (u0 hz);refine ⟨_,rfl,wpAny_letOwnedTupleGo_zip (s:={s with heap:=h'}) b1 λh2 hz2 hs2=>?_⟩;have kp:∀b o,b∉[z,TI,TO,i1,i2]->s.heap.get? b=some o->h2.get? b=some o:=λb o hb e=>by
   have hb:b≠z/\b≠TI/\b≠TO/\b≠i1/\b≠i2:=by simpa using hb
   obtain⟨g1,g2,g3,f1,f2⟩:=hb;exact hs2.extBut _ _ g1 (b7 b o g1 g3 f1 f2 e)
  have hTI2:lQ h2 TI (.ref i1) (.ref i2):=hs2.extBut _ _ D.TIz (b7 TI _ D.TIz (Y1 D.TOTI) (Y1 D.i1TI) (Y1 D.i2TI) hTI);have hT2:lQ h2 s.heap.objs.size u1 u2:=hs2.extBut _ _ hTn b5;have hfr:H s.heap.objs.size=none:=I.hok.fresh (M0 _);have I2:Inv X pins σ (DQ H s.heap.objs.size (.tup [x1,x2])) {s with heap:=h2}:=by
   have nfp:∀b u,H b=some u->b∉[z,TI,TO,i1,i2]:=λb u e hb=>by have:=(hf b hb).1;rw[e]at this;cases this
   refine I.step (g':=s.gens) (d':=s.drawn) (ch:=[z,TI,TO,i1,i2]) (λb hb=>?_) (λb o _ _ hc' e _=>kp b o hc' e) (λb o _ _ hc' e _=>⟨o.slots,kp b o hc' e⟩) (λb o _ e n=>?_)
    (λb o hc' e=>⟨o,kp b o hc' e⟩) (λb xs e=>?_) (λb o xs e=>?_) (λb ps e=>⟨#[],?_⟩) (λm hm=>?_) (λb o e=>?_) I.bare
   .obtain⟨f0,f1,f2,f3,f4,f5⟩:=hf b hb;exact ⟨f3,f1,f4,f5⟩
   .rw[eQ (N0 (u0 e))];exact n
   .rw[eQ (gQ e hfr)];exact e
   .rw[eQ (gQ e hfr)];exact e
   .rw[eQ (gQ e hfr),e];simp
   .obtain⟨o,es',ep,ho,r⟩:=hm;exact ⟨o,es',ep,kp _ o (λhb=>(hf _ hb).2.1 rfl) ho,r⟩
   .by_cases hb:b=s.heap.objs.size
    .subst hb;rw[kQ]at e;cases e;exact ⟨by show 2<=sizeLine;decide,[u1,u2],.cons ru1 (.cons ru2 .nil),_,hT2,rfl,_,rfl,rfl⟩
    .rw[eQ hb]at e;refine (I.hok b o e).stay (λc v hc' q=>kp c v ?_ q) (λc q=>by rw[eQ (gQ q hfr)];exact q) λc xs q=>by rw[eQ (gQ q hfr)];exact q
     rcases hc' with rfl|hc'
     .exact nfp _ _ e
     .exact nfp _ _ hc'
  refine ⟨.ref s.heap.objs.size,_,I2,rfl,⟨_,x1,x2,hfr,rfl,rfl,(λys hy=>by rw[I.sq_inj hy q1];exact e1),(λys hy=>by rw[I.sq_inj hy q2];exact e2)⟩,⟨hz2,hTI2,⟨u1,u2,hs2.extBut _ _ D.TOz b2⟩,c1.at λo e=>hs2.extBut _ _ D.i1z e,c2.at λo e=>hs2.extBut _ _ D.i2z e⟩,λb hb=>?_⟩;rw[eQ ?_]
  .exact (hf b hb).1
  .intro e;subst e;have hb:s.heap.objs.size=z\/s.heap.objs.size=TI\/s.heap.objs.size=TO\/s.heap.objs.size=i1\/s.heap.objs.size=i2:=by simpa using hb
   rcases hb with e|e|e|e|e
   .exact hTn e
   .exact N1 (u0 hTI) e
   .exact N1 (u0 hTO) e
   .obtain⟨o,eo,_⟩:=t1.obj;exact N1 (u0 eo) e
   .obtain⟨o,eo,_⟩:=t2.obj;exact N1 (u0 eo) e
 done:=by
  intro X hP hw hK hc i pins s σ H E I hf st hg;subst hP hw hK;obtain⟨hz,hTI,⟨a1,a2,hTO⟩,t1,t2⟩:=st;obtain⟨ys1,ys2,q1,q2,hend⟩:=hg;obtain⟨its1,rv1,p1,z1⟩:=I.sq q1;have len1:=rv1.length;obtain⟨its2,rv2,p2,z2⟩:=I.sq q2;have len2:=rv2.length;refine aK (I.ok.hd hc) D hz hTI hTO t1 t2 p1 p2 ?_ λh' kp=>⟨rfl,?_⟩
  .rcases hend with h|h
   .exact .inl (by simp;lia)
   .exact .inr (by simp;lia)
  .have nfp:∀b u,H b=some u->b∉[z,TI,TO,i1,i2]:=λb u e hb=>by have:=(hf b hb).1;rw[e]at this;cases this
   have kp':∀b o,b∉[z,TI,TO,i1,i2]->s.heap.get? b=some o->h'.get? b=some o:=λb o hb e=>by
    have hb:b≠z/\b≠TI/\b≠TO/\b≠i1/\b≠i2:=by simpa using hb
    obtain⟨g1,g2,g3,f1,f2⟩:=hb;exact kp b o g1 g3 f1 f2 e
   refine I.step (g':=s.gens) (d':=s.drawn) (ch:=[z,TI,TO,i1,i2]) (λb hb=>?_) (λb o _ _ hc' e _=>kp' b o hc' e) (λb o _ _ hc' e _=>⟨o.slots,kp' b o hc' e⟩) (λb o _ e n=>n)
    (λb o hc' e=>⟨o,kp' b o hc' e⟩) (λb xs e=>e) (λb o xs e=>e) (λb ps e=>⟨#[],by rw[e];simp⟩) (λm hm=>?_) (λb o e=>?_) I.bare
   .obtain⟨f0,f1,f2,f3,f4,f5⟩:=hf b hb;exact ⟨f3,f1,f4,f5⟩
   .obtain⟨o,es',ep,ho,r⟩:=hm;exact ⟨o,es',ep,kp' _ o (λhb=>(hf _ hb).2.1 rfl) ho,r⟩
   .refine (I.hok b o e).stay (λc v hc' q=>kp' c v ?_ q) (λ_ q=>q) λ_ _ q=>q;rcases hc' with rfl|hc'
    .exact nfp _ _ e
    .exact nfp _ _ hc'
 self:=λ_ _ _ _ _ st h=>wpAny_pyIter_zip st.1 h
def GF(K:B0)(ta:TA):TI:=λσ H R=>ta σ H λvs H1=>∃(k1:Kd) (l1:Addr) (ys1:List V) (k2:Kd) (l2:Addr) (ys2:List V),vs=[.ref l1,.ref l2]/\Sq k1 K H1 l1 ys1/\Sq k2 K H1 l2 ys2/\R (CB K k1 k2 l1 l2) H1
def cv{es:List Expr}{kk:Nat}{tpos:Pos}{a b:Expr}{ta:TA}{p pos:Pos}(hg:Gl X "zip")(hm:X.mg "zip"=none)(ha:PA X [a,b] ta)(hs:starEach [a,b] X.env=(false,eval a X.env)::starEach [b] X.env:=by rfl)(hpl:(backTo pos (starEach [b] X.env)).any (·.1)=false:=by rfl) :
  PI X (.Tuple es kk tpos) (.Call (.Name "zip" p) [a,b] [] pos) (GF X.K ta):=by
 intro pins s σ H R I h;refine Call_ (UX I hg hm boot_zip (S1 (eX (ha pos pins s σ H _ I h) λus s1 ⟨vs,H1,I1,r1,q1⟩=>?_) hs hpl));obtain⟨k1,l1,ys1,k2,l2,ys2,e,q1,q2,q⟩:=q1;subst e;obtain rfl:us=[.ref l1,.ref l2]:=by cases r1 with|cons r rr=>cases r;cases rr with|cons r rr=>cases r;cases rr;rfl
 obtain⟨its1,rv1,p1,z1⟩:=I1.sq q1;obtain⟨its2,rv2,p2,z2⟩:=I1.sq q2;have lt:∀{k:Kd}{l:Addr}{xs:Array Value},SqAt k s1.heap l xs->l<s1.heap.objs.size:=λ{k l xs} p=>by
  cases k with
  |l=>obtain⟨o,e,_⟩:=p;exact u0 e
  |t=>obtain⟨o,e,_⟩:=p;exact u0 e
 refine callType_new F.called_zip (by decide) (F.typeCall_zip_2 _ _) (F.newCall_zip_2 _ _) (λobj=>F.args_object_init_3 obj _ _) F.entry_zip_new (wK k1 k2 l1 l2 its1.toArray its2.toArray) ⟨p1,p2,?_⟩;have zI:(SW s1.heap k1 k2 l1 l2).objs.size=s1.heap.objs.size+2:=by simp[Z0]
 have zT:(TW s1.heap k1 k2 l1 l2).objs.size=s1.heap.objs.size+3:=by simp[Z0]
 have zO:(UW s1.heap k1 k2 l1 l2).objs.size=s1.heap.objs.size+4:=by simp[Z0]
 have gZ:(jX s1.heap k1 k2 l1 l2).get? (UW s1.heap k1 k2 l1 l2).objs.size=some _:=v0 _ rfl;have gO:(jX s1.heap k1 k2 l1 l2).get? (TW s1.heap k1 k2 l1 l2).objs.size=some _:=i0 _ (v0 _ rfl);have gT:(jX s1.heap k1 k2 l1 l2).get? (SW s1.heap k1 k2 l1 l2).objs.size=some _:=i0 _ (i0 _ (v0 _ rfl));have g1:(jX s1.heap k1 k2 l1 l2).get? s1.heap.objs.size=some (iX k1 l1):=i0 _ (i0 _ (i0 _ (i0 _ (v0 _ (by cases k1<;>rfl)))));have g2:(jX s1.heap k1 k2 l1 l2).get? (s1.heap.push (iX k1 l1)).objs.size=some (iX k2 l2):=i0 _ (i0 _ (i0 _ (v0 _ (by cases k2<;>rfl))));have zz2:(s1.heap.push (iX k1 l1)).objs.size=s1.heap.objs.size+1:=by simp[Z0]
 rw[zO,zT,zI]at gZ;rw[zI,zz2]at gT;rw[zT]at gO;rw[zz2]at g2;show _/\_;rw[zO];have kp:∀b o,s1.heap.get? b=some o->(jX s1.heap k1 k2 l1 l2).get? b=some o:=λb o e=>i0 _ (i0 _ (i0 _ (i0 _ (i0 _ (e)))));refine ⟨⟨_,gZ,rfl⟩,wpAny_pyIter_zip (s:={s1 with heap:=jX s1.heap k1 k2 l1 l2}) gZ ?_⟩;refine ⟨_,[s1.heap.objs.size+4,s1.heap.objs.size+2,s1.heap.objs.size+3,s1.heap.objs.size,s1.heap.objs.size+1],_,_,H1,rfl,I1.kept (t':=s1.toks) kp,rq k1 k2 _ _ _ _ _ l1 l2 (bv _ l1 l2 (lt p1) (lt p2)),⟨gZ,gT,⟨_,_,gO⟩,ItAt.new k1 g1,ItAt.new k2 g2⟩,λb hb=>?_,q⟩;have hb:s1.heap.objs.size<=b:=by
  have hb:b=s1.heap.objs.size+4\/b=s1.heap.objs.size+2\/b=s1.heap.objs.size+3\/b=s1.heap.objs.size\/b=s1.heap.objs.size+1:=by simpa using hb
  rcases hb with rfl|rfl|rfl|rfl|rfl;all_goals first|exact E2 _ _|exact M0 _
 exact I1.fpOk hb (I1.hok.fresh hb)
def HF:V->List V->Hp->VK->Prop:=λx vs H Q=>∃(l:Addr) (xs:List V) (i:Int) (y:V),x=.ref l/\vs=[.int i,y]/\H l=some (.lst xs)/\xs.length<sizeLine/\0<=i/\i<=xs.length/\Q .non (DQ H l (.lst (xs.take i.toNat++y::xs.drop i.toNat)))
def tq:wM X "list.insert" HF:=by
 intro pins s σ H x vs v us Q I rx rv h;obtain⟨l,xs,i,y,rfl,rfl,hH,hz,h0,h1,q⟩:=h;cases rx;obtain⟨u,w',rfl,ru,rw'⟩:=vY rv;obtain⟨t,rfl⟩:=ru;obtain⟨z,its,n,r,hl,e⟩:=I.lstM hH;have hs:xs.length<=16777216:=z;have hf:¬(!Builtin.List.listFitsIndex i)=true:=by
  have:E7 i=true:=by unfold E7;simp only[decide_eq_true_eq,N3];constructor<;>lia
  rw[this];decide
 refine call_meets F.slot_list_insert ⟨_,e,rfl⟩ F.entry_list_insert (F.args_list_insert_3 _ _ _) (AutoSeq1.list_insert_list_int_val_1 l its.toArray n i t w' hf (by rw[V0];lia)) ⟨e,?_⟩;refine ⟨.non,_,I.lset (its':=its.take i.toNat++w'::its.drop i.toNat) hH e ?_ ((r.take _).append (.cons rw' (r.drop _))) ?_,rfl,q⟩
 .have hi:¬i<0:=by lia
  have hm:min i.toNat its.length=i.toNat:=by lia
  simp only[hi,if_false,V0,hm];apply Array.ext';simp[u3];rw[Q6 (by simp)]
 .rw[U0,Y2,P4,j6];lia
mutual
inductive Is (K:B0) (H:Hp):V->PyData->Prop
 |non:Is K H .non .none
 |bl (b):Is K H (.bl b) (.bool b)
 |int (i):Is K H (.int i) (.int i)
 |str (x):Is K H (.str x) (.str x)
 |lst {a xs ds}:SqL K H a xs->IsAll K H xs ds->Is K H (.ref a) (.list ds)
 |tup {a xs ds}:SqT K H a xs->IsAll K H xs ds->Is K H (.ref a) (.tuple ds)
inductive IsAll (K:B0) (H:Hp):List V->List PyData->Prop
 |nil:IsAll K H [] []
 |cons {x xs d ds}:Is K H x d->IsAll K H xs ds->IsAll K H (x::xs) (d::ds)
end
def Is.reads(I:Inv X pins σ H s){x:V}{d:PyData}{u:Value}(h:Is X.K H x d)(r:RelV x u):∃as,Reads s.heap u d as:=by
 refine Is.rec (motive_1:=λx d _=>∀u,RelV x u->∃as,Reads s.heap u d as) (motive_2:=λxs ds _=>∀us,Vals xs us->∃as,ReadsAll s.heap us ds as) (λu r=>?_) (λb u r=>?_) (λi u r=>?_) (λx u r=>?_) (λhq _ ha u r=>?_) (λhq _ ha u r=>?_) (λus r=>?_) (λ_ _ ha ht us r=>?_) h u r
 .cases r;exact ⟨_,.none⟩
 .cases r;exact ⟨_,.bool b⟩
 .obtain⟨t,rfl⟩:=r;exact ⟨_,.int i t⟩
 .obtain⟨t,rfl⟩:=r;exact ⟨_,.str x t⟩
 .cases r;obtain⟨its,rv,⟨o,n,e,c,d,q⟩,z⟩:=I.list hq;obtain⟨as,hr⟩:=ha _ rv;exact ⟨_,.list e c q (by simpa using hr)⟩
 .cases r;obtain⟨its,rv,⟨o,e,c,n,q⟩,z⟩:=I.tuple hq;obtain⟨as,hr⟩:=ha _ rv;exact ⟨_,.tuple e c q (by simpa using hr)⟩
 .cases r;exact ⟨_,.nil⟩
 .cases r with
  |cons r rr=>obtain⟨as,a⟩:=ha _ r;obtain⟨bs,b⟩:=ht _ rr;exact ⟨_,.cons a b⟩
open PySem.SeqAt in
def VW(K:B0)(neg:Bool):R2:=λx y H Q=>∃d e:PyData,Is K H x d/\Is K H y e/\shaped d=true/\shaped e=true/\noMix d e=true/\Q (.bl (if neg then !same d e else same d e)) H
def DB(hu:X.A.units+64<cLine):OpR X (compareOp .Eq) (VW X.K false):=by intro pins s σ H x y v u Q I r1 r2 h;obtain⟨d,e,i1,i2,s1,s2,nm,q⟩:=h;obtain⟨as,a⟩:=i1.reads I r1;obtain⟨bs,b⟩:=i2.reads I r2;exact eq_dataH_same a b s1 s2 hu nm ⟨.bl _,H,I,rfl,q⟩
def EB(hu:X.A.units+64<cLine):OpR X (compareOp .NotEq) (VW X.K true):=by intro pins s σ H x y v u Q I r1 r2 h;obtain⟨d,e,i1,i2,s1,s2,nm,q⟩:=h;obtain⟨as,a⟩:=i1.reads I r1;obtain⟨bs,b⟩:=i2.reads I r2;exact ne_dataH_same a b s1 s2 hu nm ⟨.bl _,H,I,rfl,q⟩
structure Cal(P:Program)(w:World)(K:B0)(mg:Str->Option Value)(base:Heap)(k:Nat)(x:Str)(ps:List Str)(sp:Sp):Prop where
 ex:∃(f:Addr) (fd:FuncData),FnOk P w K mg base DX k f fd ps sp/\mg x=some (.ref f)/\Z4 K (.ref f)=true/\Binds K fd ps []
def ij{k:Nat}{x:Str}{ps:List Str}{sp:Sp}{p pos:Pos}{e:Expr}{es:List Expr}{t:TA}(C:Cal X.prog X.w X.K X.mg X.base k x ps sp)(hr:Room k X.A)(ha:PA X (e::es) t)(hg:Gl X x:=by rfl)
  (hdb:(x==("__debug__":Str))=false:=by decide) (he:starEach (e::es) X.env=(false,eval e X.env)::starEach es X.env:=by rfl) (hpl:(backTo pos (starEach es X.env)).any (·.1)=false:=by rfl) :
  PE X (.Call (.Name x p) (e::es) [] pos) (wY sp [] E0 t):=by
 obtain⟨f,fd,F,hm,hk,hb⟩:=C.ex;exact Nw F hr hg hm hk hb .nil yI ha hdb he hpl
noncomputable def jW(ds:Scope)(N:List Str)(fr:List Nat)(sc:Scope):Bool :=
 decide (sc.kind=.function)&&(sc.names.all λy=>!decide (y.2=.cell)||decide (sc.names.lookup y.1=some .cell))&&(sc.names.all λy=>!decide (y.2=.local)||decide (sc.names.lookup y.1=some .local)) &&
 (sc.names.all λy=>!decide (y.2=.free)||(decide (ds.names.lookup y.1=some .cell)||decide (ds.names.lookup y.1=some .free))) &&
 (fr.all λi=>match N[i]? with|some x=>decide (sc.names.lookup x=some .free)|none=>false)
def cY(h:jW X.env.scope X.N fr sc=true):CompSc X own fr sc:=by
 unfold jW at h;simp only[N3,decide_eq_true_eq,u4,Bool.or_eq_true,Bool.not_eq_true',decide_eq_false_iff_not]at h;obtain⟨⟨⟨⟨h1,h2⟩,h3⟩,h4⟩,h5⟩:=h;refine ⟨h1,λy hy e=>?_,λy hy e=>?_,λy hy e=>?_,λi hi=>?_⟩
 .rcases h2 y hy with z|z
  .exact absurd e z
  .exact z
 .rcases h3 y hy with z|z
  .exact absurd e z
  .exact z
 .rcases h4 y hy with z|z
  .exact absurd e z
  .exact z
 .have:=h5 i hi;cases q:X.N[i]? with
  |none=>rw[q]at this;cases this
  |some x=>rw[q]at this;exact ⟨x,rfl,of_decide_eq_true this⟩
def CI(J:It)(own:List Str)(fr:List Nat)(g:TG)(tc:TT)(te:TE)(σ:St)(H:Hp)(Q:VK):Prop :=
 ∃W:Nat->Nat->List V->St->Hp->Prop,(∃m,W 0 m [] (Zw own σ fr) H)/\∀i m ys τ H,W i m ys τ H ->
   (J.stop i H/\∀D,H D=none->Q (.ref D) (DQ H D (.lst ys))) \/
   (J.go i H/\ys.length<sizeLine/\∃N:List V->St->Hp->Prop,(∀ys' τ' H',N ys' τ' H'->∃m',m'<m/\W (i+1) m' ys' τ' H')/\∀x H',J.yld i H x H'->g x τ H' λτ2 H2=>tc τ2 H2 λb H3=>if b=true then te τ2 H3 λy H4=>N (ys++[y]) τ2 H4 else N ys τ2 H3)
def dY(wi:TI)(own:List Str)(fr:List Nat)(g:TG)(tc:TT)(te:TE):TE:=λσ H Q=>wi σ H λJ H1=>CI J own fr g tc te σ H1 Q
theorem QU{pos:Pos}{own:List Str}{wi:TI}{g:TG}{tc:TT}{te:TE}(hc:X.calm=true)(S:CompSc X own fr sc)(hi:PI X tg iter wi)
  (hg:∀C s H ex,PG (xQ X own fr sc C s H ex) tg g) (hif:∀C s H ex,fj (xQ X own fr sc C s H ex) ifs tc) (he:∀C s H ex,PE (xQ X own fr sc C s H ex) elt te)
  (hs:∀x,foldedSetIterable iter X.env x=pure x:=by intro _;rfl):PE X (.ListComp elt [⟨tg,iter,ifs,0⟩] sc pos) (dY wi own fr g tc te):=av hc S hi hg hif he hs
theorem RU{pos spos py:Pos}{i:Nat}{own:List Str}{wi:TI}{g:TG}{tc:TT}{te:TE}(hN:X.N.Nodup)(hy:X.N[i]?=some y)(hl:X.env.scope.names.lookup y=some .local)(hc:X.calm=true)(S:CompSc X own fr sc)(hi:PI X tg iter wi)
  (hg:∀C s H ex,PG (xQ X own fr sc C s H ex) tg g) (hif:∀C s H ex,fj (xQ X own fr sc C s H ex) ifs tc) (he:∀C s H ex,PE (xQ X own fr sc C s H ex) elt te)
  (hsw:swapsWith (.ListComp elt [⟨tg,iter,ifs,0⟩] sc pos) (some (.Name y py)) spos.line X.env=pure true:=by rfl)
  (hs:∀x,foldedSetIterable iter X.env x=pure x:=by intro _;rfl):PS X (.Assign [.Name y py] (.ListComp elt [⟨tg,iter,ifs,0⟩] sc pos) spos) (UK (dY wi own fr g tc te) (oJ i)):=bG hN hy hl hc S hi hg hif he hsw hs
section
variable {K:B0}
def kj(h:X.K=K):IxR X (Pw K):=by subst h;exact Rw
def fv(h:X.K=K):IxR X (Qw K):=by subst h;exact mB
def DI(K:B0):List V->Hp->VK->Prop:=λxs H Q=>∃(p:Addr) (ys:List V),xs=[.ref p]/\(SqL K H p ys\/SqT K H p ys)/\Q (.int ys.length) H
def HQ(h:X.K=K):fX X (.builtin "len") (DI K):=by subst h;exact bU
def SU(K:B0):List V->Hp->VK->Prop:=λxs H Q=>∃(p:Addr) (ys:List V),xs=[.ref p]/\((SqL K H p ys/\∀l,H l=none->Q (.ref l) (DQ H l (.tup ys)))\/(SqT K H p ys/\Q (.ref p) H))
def qQ(h:X.K=K):fX X (.type "tuple") (SU K):=by subst h;exact RW
def uq(h:X.K=K):fX X (.builtin "isinstance") (qq K):=by subst h;exact OU
def LJ(h:X.K=K)(hc:X.calm=true):fX X (.builtin "all") (BB K):=by subst h;exact gj hc
def gv(h:X.K=K)(hu:X.A.units+64<cLine):OpR X (compareOp .Eq) (VW K false):=by subst h;exact DB hu
def jv(h:X.K=K)(hu:X.A.units+64<cLine):OpR X (compareOp .NotEq) (VW K true):=by subst h;exact EB hu
def lj{es:List Expr}{kk:Nat}{tpos:Pos}{a b:Expr}{ta:TA}{p pos:Pos}(h:X.K=K)(hg:Gl X "zip")(hm:X.mg "zip"=none)(ha:PA X [a,b] ta)(hs:starEach [a,b] X.env=(false,eval a X.env)::starEach [b] X.env:=by rfl)(hpl:(backTo pos (starEach [b] X.env)).any (·.1)=false:=by rfl) :
  PI X (.Tuple es kk tpos) (.Call (.Name "zip" p) [a,b] [] pos) (GF K ta):=by subst h;exact cv hg hm ha hs hpl
def lv{es:List Expr}{k:Nat}{t:tw}{pos:Pos}(h:X.K=K)(hc:X.calm=true)(hh:ju X es t)(hn:(assignEach es X.env).length=n:=by rfl)(hst:(assignEach es X.env).findIdx? (·.1)=none:=by rfl):PG X (.Tuple es k pos) (Lw K n t):=by subst h;exact W9 hc hh hn hst
end
def mj{ws:List Value}(ht:IsTup s.heap t ([]:List Value).toArray)(hb:IsTup s.heap b ws.toArray)(h:Q (.ref b) s):wpAny (model prog w) A (binaryOp .Add (.ref t) (.ref b)) Q E s:=by obtain⟨⟨cls,dd,data,sl⟩,ho,hc,n,hd⟩:=id ht;obtain⟨⟨cls2,dd2,data2,sl2⟩,ho2,hc2,n2,hd2⟩:=id hb;simp only at hc hd hc2 hd2;subst hc hd hc2 hd2;exact concat_meets ⟨_,ho,rfl⟩ ⟨_,ho2,rfl⟩ noFill_tuple_add seq_tuple_add PySem.F.slot_tuple_add PySem.F.entry_tuple_add (PySem.F.args_tuple_add_2 _ _) (tuple_addW0 t b _ ws.toArray n n2 dd dd2 sl sl2 rfl) ⟨ho,ho2,h⟩
noncomputable abbrev EI(a:Addr):HO:=.ext λh=>∃o es ep,h.get? a=some o/\o.ExactDict/\o.data=.dict es ep
noncomputable def hL(k:Qa):Int:=reduceHash (G7 (k.map hashInt))
noncomputable def hB(k:Qa×Qa):Int:=reduceHash (G7 [hL k.1,hL k.2])
noncomputable abbrev yX{κ:Type}(hs:κ->Int)(a:Addr)(ep:Nat)(xs:List (κ×Addr×V)):HO:=.ext λh=>(∃vs:List (κ×Addr×Value),Paired (λx v=>x.1=v.1/\x.2.1=v.2.1/\RelV x.2.2 v.2.2) xs vs /\
  ∃o es,h.get? a=some o/\o.ExactDict/\o.data=.dict es ep/\es.toList=vs.map λx=>⟨hs x.1,.ref x.2.1,x.2.2⟩)/\(xs.map (·.1)).Nodup/\xs.length<=sizeLine/\(a==sysModules)=false
noncomputable abbrev dN(a C:Addr):HO:=.ext λh=>∃o vs,h.get? a=some o/\o.cls=.ref C/\o.data=.fields vs
noncomputable abbrev kJ(f c:Addr)(qual:Str)(ar:Arguments)(body:Expr)(sc:Scope)(cl:List (Str×Addr)):HO:=.ext λh=>∃pm ctv,h.get? f=some (Q5 "<lambda>" qual ar body sc cl pm c ctv)
noncomputable abbrev FX(c:Addr)(o:Obj):HO:=.frz o (.ext λh=>∃o,h.get? c=some o)
def nj(x:Str)(o:Obj):Prop:=∃vs t,o.data=.fields vs/\vs[1]?=some (.str (x ++ ".<locals>.<lambda>") t)
end L2
namespace L3
open L2
noncomputable abbrev D:=PyData
noncomputable abbrev Fg:=B0
def Sub(F H:Hp):Prop:=∀a o,F a=some o->H a=some o
def Sub.refl(H:Hp):Sub H H:=λ_ _ h=>h
def Sub.trans{A:Hp}(h:Sub A B)(k:Sub B C):Sub A C:=λa o e=>k a o (h a o e)
def Sub.new{o:HO}(h:F a=none):Sub F (DQ F a o):=λb u e=>by rw[eQ (gQ e h)];exact e
theorem Sub.rd{F:Hp}{a:Addr}{u:HO}(s:Sub F H):Rd F a u->Rd H a u
 | .inl h=>.inl (s _ _ h)
 | .inr ⟨o,h⟩=>.inr ⟨o,s _ _ h⟩
theorem Sub.sql{K:Fg}{F:Hp}{a:Addr}{xs:List V}(s:Sub F H):SqL K F a xs->SqL K H a xs
 | .inl h=>.inl (s.rd h)
 | .inr h=>.inr h
noncomputable def xK:OQ->D
 | .inl i=>.int i
 | .inr x=>.str x
noncomputable abbrev VJ(ns:Qa):D:=.dict [(.none,.list (ns.map j0))]
noncomputable abbrev eN(C:Addr):D:=.dict [(.bool true,.int (C:Nat))]
noncomputable abbrev fN:D:=.dict [(.bool false,.none)]
noncomputable abbrev XZ(ps:List (Qa×D)):D:=.dict [(.bool false,.list (ps.map λp=>.tuple [.tuple (p.1.map j0),p.2]))]
noncomputable abbrev fO(ps:List ((Qa×Qa)×D)):D:=.dict [(.bool false,.tuple (ps.map λp=>.tuple [.tuple [.tuple (p.1.1.map j0),.tuple (p.1.2.map j0)],p.2]))]
noncomputable def vq:List Stmt->Option (Arguments×Expr×Scope)
 |[]=>none
 |[.Return (some (.Call _ es _ _)) _]=>match es.getLast? with
  |some (.Lambda ar b sc _)=>some (ar,b,sc)
  |_=>none
 |_::r=>vq r
noncomputable def yK(K:Fg)(x:Str):Option (Arguments×Expr×Scope):=match B2 K mainGlobals x with
 | some (some (.ref f))=>(match K.lookup f with
   | some ⟨_,_,.func fd,_⟩=>(match fd.body with
     | .stmts b=>vq b
     |_=>none)
   |_=>none)
 |_=>none
noncomputable abbrev dG(x:Str)(ds:List D):D:=.dict [(.bool true,.list (.str x::ds))]
noncomputable def oj(sc:Scope):List Str:=((sc.names.filter λy=>y.2==.free).map (·.1)).reverse
def CelAt(F:Hp)(p:Str×Addr)(v:V):Prop:=∃o u,F p.2=some (FX p.2 o)/\o.data=.cell (some u)/\RelV v u
def LamAt(K:Fg)(F:Hp)(f:Addr)(x:Str)(vs:List V):Prop:=∃(c:Addr) (o:Obj) (ar:Arguments) (body:Expr) (sc:Scope) (cl:List (Str×Addr)),yK K x=some (ar,body,sc) /\
 F f=some (kJ f c (x ++ ".<locals>.<lambda>") ar body sc cl)/\F c=some (FX c o)/\nj x o/\cl.map (·.1)=oj sc/\(cl.map (·.2)).Nodup/\Paired (CelAt F) cl vs
def CelAt.mono(s:Sub F F'){p:Str×Addr}{v:V}:CelAt F p v->CelAt F' p v:=λ⟨o,u,e,h⟩=>⟨o,u,s _ _ e,h⟩
def LamAt.mono{K:Fg}(s:Sub F F'){f:Addr}{x:Str}{vs:List V}:LamAt K F f x vs->LamAt K F' f x vs:=λ⟨c,o,ar,body,sc,cl,h1,h2,h3,h4,h0,h5,h6⟩=>⟨c,o,ar,body,sc,cl,h1,s _ _ h2,s _ _ h3,h4,h0,h5,Paired.mapP h6 λ_ _ h=>h.mono s⟩
mutual
inductive Da (K:Fg) (F:Hp):V->D->Prop
 |non:Da K F .non .none
 |bl (b):Da K F (.bl b) (.bool b)
 |int (i):Da K F (.int i) (.int i)
 |str (x):Da K F (.str x) (.str x)
 |lst {a xs ds}:F a=some (.lst xs)->DaAll K F xs ds->Da K F (.ref a) (.list ds)
 |tup {a xs ds}:F a=some (.tup xs)->DaAll K F xs ds->Da K F (.ref a) (.tuple ds)
 |dk {a kvs es}:Rd F a (.dK kvs)->DaKV K F kvs es->Da K F (.ref a) (.dict es)
 |dt {a kvs es}:Rd F a (.dT kvs)->DaKT K F kvs es->Da K F (.ref a) (.dict es)
 |scr {a ns}:SqL K F a (ns.map V.int)->Da K F (.ref a) (VJ ns)
 |exc {a C}:F a=some (dN a C)->Da K F (.ref a) (eN C)
 |opq {a}:F a=some (EI a)->Da K F (.ref a) fN
 |pd {a a' ep xs ps}:F a=some (yX hL a' ep xs)->DaPd K F xs ps->Da K F (.ref a) (XZ ps)
 |bd {a a' ep xs ps}:F a=some (yX hB a' ep xs)->DaBd K F xs ps->Da K F (.ref a) (fO ps)
 |lam {f x vs ds}:LamAt K F f x vs->DaAll K F vs ds->Da K F (.ref f) (dG x ds)
inductive DaAll (K:Fg) (F:Hp):List V->List D->Prop
 |nil:DaAll K F [] []
 |cons {x xs d ds}:Da K F x d->DaAll K F xs ds->DaAll K F (x::xs) (d::ds)
inductive DaKV (K:Fg) (F:Hp):List (OQ×V)->List (D×D)->Prop
 |nil:DaKV K F [] []
 |cons {k v d kvs es}:Da K F v d->DaKV K F kvs es->DaKV K F ((k,v)::kvs) ((xK k,d)::es)
inductive DaKT (K:Fg) (F:Hp):List (List OQ×V)->List (D×D)->Prop
 |nil:DaKT K F [] []
 |cons {ks v d kvs es}:Da K F v d->DaKT K F kvs es->DaKT K F ((ks,v)::kvs) ((.tuple (ks.map xK),d)::es)
inductive DaPd (K:Fg) (F:Hp):List (Qa×Addr×V)->List (Qa×D)->Prop
 |nil:DaPd K F [] []
 |cons {k b v d xs ps}:F b=some (.tup (k.map V.int))->Da K F v d->DaPd K F xs ps->DaPd K F ((k,b,v)::xs) ((k,d)::ps)
inductive DaBd (K:Fg) (F:Hp):List ((Qa×Qa)×Addr×V)->List ((Qa×Qa)×D)->Prop
 |nil:DaBd K F [] []
 |cons {k b c e v d xs ps}:F b=some (.tup [.ref c,.ref e])->F c=some (.tup (k.1.map V.int))->F e=some (.tup (k.2.map V.int))->Da K F v d->DaBd K F xs ps->DaBd K F ((k,b,v)::xs) ((k,d)::ps)
end
section
variable {K:Fg}{F F':Hp}
def Da.mono(s:Sub F F'){v:V}{d:D}(h:Da K F v d):Da K F' v d:=by refine Da.rec (motive_1:=λv d _=>Da K F' v d) (motive_2:=λv d _=>DaAll K F' v d) (motive_3:=λv d _=>DaKV K F' v d) (motive_4:=λv d _=>DaKT K F' v d) (motive_5:=λv d _=>DaPd K F' v d) (motive_6:=λv d _=>DaBd K F' v d) .non .bl .int .str (λh _=>.lst (s _ _ h)) (λh _=>.tup (s _ _ h)) (λh _=>.dk (s.rd h)) (λh _=>.dt (s.rd h)) (λh=>.scr (s.sql h)) (λh=>.exc (s _ _ h)) (λh=>.opq (s _ _ h)) (λh _=>.pd (s _ _ h)) (λh _=>.bd (s _ _ h)) (λh _=>.lam (h.mono s)) .nil (λ_ _=>.cons) .nil (λ_ _=>.cons) .nil (λ_ _=>.cons) .nil (λh _ _=>.cons (s _ _ h)) .nil (λh h1 h2 _ _=>.cons (s _ _ h) (s _ _ h1) (s _ _ h2)) h
def DaAll.mono(s:Sub F F'){xs:List V}{ps:List D}(h:DaAll K F xs ps):DaAll K F' xs ps:=by refine DaAll.rec (motive_1:=λ_ _ _=>True) (motive_2:=λv d _=>DaAll K F' v d) (motive_3:=λ_ _ _=>True) (motive_4:=λ_ _ _=>True) (motive_5:=λ_ _ _=>True) (motive_6:=λ_ _ _=>True) ?_ ?_ ?_ ?_ ?_ ?_ ?_ ?_ ?_ ?_ ?_ ?_ ?_ ?_ .nil (λh _ _=>.cons (h.mono s)) ?_ ?_ ?_ ?_ ?_ ?_ ?_ ?_ h<;>intros<;>trivial
def DaKV.mono(s:Sub F F'){xs:List (OQ×V)}{ps:List (D×D)}(h:DaKV K F xs ps):DaKV K F' xs ps:=by refine DaKV.rec (motive_1:=λ_ _ _=>True) (motive_2:=λ_ _ _=>True) (motive_3:=λv d _=>DaKV K F' v d) (motive_4:=λ_ _ _=>True) (motive_5:=λ_ _ _=>True) (motive_6:=λ_ _ _=>True) ?_ ?_ ?_ ?_ ?_ ?_ ?_ ?_ ?_ ?_ ?_ ?_ ?_ ?_ ?_ ?_ .nil (λh _ _=>.cons (h.mono s)) ?_ ?_ ?_ ?_ ?_ ?_ h<;>intros<;>trivial
def DaKT.mono(s:Sub F F'){xs:List (List OQ×V)}{ps:List (D×D)}(h:DaKT K F xs ps):DaKT K F' xs ps:=by refine DaKT.rec (motive_1:=λ_ _ _=>True) (motive_2:=λ_ _ _=>True) (motive_3:=λ_ _ _=>True) (motive_4:=λv d _=>DaKT K F' v d) (motive_5:=λ_ _ _=>True) (motive_6:=λ_ _ _=>True) ?_ ?_ ?_ ?_ ?_ ?_ ?_ ?_ ?_ ?_ ?_ ?_ ?_ ?_ ?_ ?_ ?_ ?_ .nil (λh _ _=>.cons (h.mono s)) ?_ ?_ ?_ ?_ h<;>intros<;>trivial
def DaPd.mono(s:Sub F F'){xs:List (Qa×Addr×V)}{ps:List (Qa×D)}(h:DaPd K F xs ps):DaPd K F' xs ps:=by refine DaPd.rec (motive_1:=λ_ _ _=>True) (motive_2:=λ_ _ _=>True) (motive_3:=λ_ _ _=>True) (motive_4:=λ_ _ _=>True) (motive_5:=λv d _=>DaPd K F' v d) (motive_6:=λ_ _ _=>True) ?_ ?_ ?_ ?_ ?_ ?_ ?_ ?_ ?_ ?_ ?_ ?_ ?_ ?_ ?_ ?_ ?_ ?_ ?_ ?_ .nil (λh v _ _=>.cons (s _ _ h) (v.mono s)) ?_ ?_ h<;>intros<;>trivial
def DaBd.mono(s:Sub F F'){xs:List ((Qa×Qa)×Addr×V)}{ps:List ((Qa×Qa)×D)}(h:DaBd K F xs ps):DaBd K F' xs ps:=by refine DaBd.rec (motive_1:=λ_ _ _=>True) (motive_2:=λ_ _ _=>True) (motive_3:=λ_ _ _=>True) (motive_4:=λ_ _ _=>True) (motive_5:=λ_ _ _=>True) (motive_6:=λv d _=>DaBd K F' v d) ?_ ?_ ?_ ?_ ?_ ?_ ?_ ?_ ?_ ?_ ?_ ?_ ?_ ?_ ?_ ?_ ?_ ?_ ?_ ?_ ?_ ?_ .nil (λh h1 h2 v _ _=>.cons (s _ _ h) (s _ _ h1) (s _ _ h2) (v.mono s)) h<;>intros<;>trivial
theorem DaAll.length:∀{xs:List V}{ds:List D},DaAll K F xs ds->xs.length=ds.length
 |_,_,.nil=>rfl
 |_,_,.cons _ t=>by simp[DaAll.length t]
theorem DaAll.get:∀{xs:List V}{ds:List D}{i:Nat}{d:D},DaAll K F xs ds->ds[i]?=some d->∃v,xs[i]?=some v/\Da K F v d
 |_,_,_,_,.nil,e=>by simp at e
 |_,_,0,_,.cons h _,e=>by simp at e;subst e;exact ⟨_,rfl,h⟩
 |_,_,i+1,_,.cons _ t,e=>by obtain⟨v,a,b⟩:=DaAll.get (i:=i) t (by simpa using e);exact ⟨v,by simpa using a,b⟩
theorem DaAll.append:∀{xs ys:List V}{ds es:List D},DaAll K F xs ds->DaAll K F ys es->DaAll K F (xs++ys) (ds++es)
 |_,_,_,_,.nil,s=>s
 |_,_,_,_,.cons h t,s=>.cons h (DaAll.append t s)
theorem DaAll.set{v:V}{d:D}(h:Da K F v d):∀{xs:List V}{ds:List D} (i:Nat),DaAll K F xs ds->DaAll K F (xs.set i v) (ds.set i d)
 |_,_,_,.nil=>.nil
 |_,_,0,.cons _ t=>.cons h t
 |_,_,i+1,.cons q t=>.cons q (DaAll.set h i t)
theorem DaAll.take:∀{xs:List V}{ds:List D} (n:Nat),DaAll K F xs ds->DaAll K F (xs.take n) (ds.take n)
 |_,_,0,_=>.nil
 |_,_,_+1,.nil=>.nil
 |_,_,n+1,.cons h t=>.cons h (DaAll.take n t)
theorem DaAll.drop:∀{xs:List V}{ds:List D} (n:Nat),DaAll K F xs ds->DaAll K F (xs.drop n) (ds.drop n)
 |_,_,0,r=>r
 |_,_,_+1,.nil=>.nil
 |_,_,n+1,.cons _ t=>DaAll.drop n t
def DaAll.reverse(h:DaAll K F xs ds):DaAll K F xs.reverse ds.reverse:=by
 induction xs generalizing ds with
 |nil=>cases h;exact .nil
 |cons x xs ih =>
  cases h with
  |cons h t=>rw[U5,U5];exact (ih t).append (.cons h .nil)
theorem DaAll.rep{xs:List V}{ds:List D}(h:DaAll K F xs ds):∀k:Nat,DaAll K F (L1 k xs).flatten (L1 k ds).flatten
 |0=>.nil
 |k+1=>by rw[J4,J4,u5,u5];exact h.append (DaAll.rep h k)
theorem DaAll.ints:∀ns:Qa,DaAll K F (ns.map V.int) (ns.map j0)
 |[]=>.nil
 |n::ns=>.cons (.int n) (DaAll.ints ns)
end
inductive Sl where
 |fz (d:D)|ow (d:D)|io (d:D)
noncomputable def Sl.d:Sl->D
 | .fz d=>d
 | .ow d=>d
 | .io d=>d
noncomputable def PQ:Sl->Bool
 | .fz _=>false
 | .ow _=>true
 | .io _=>true
noncomputable abbrev Ev:=List (Option Sl)
noncomputable def Own1(K:Fg)(F:Hp):HO->D->Prop
 | .lst xs,.list ds=>DaAll K F xs ds
 | .dK kvs,.dict es=>DaKV K F kvs es
 | .dT kvs,.dict es=>DaKT K F kvs es
 | .ext φ,.dict [(.bool false,.list L)]=>∃(a':Addr) (ep:Nat) (xs:List (Qa×Addr×V)) (ps:List (Qa×D)),HO.ext φ=yX hL a' ep xs/\L=ps.map (λp=>.tuple [.tuple (p.1.map j0),p.2])/\DaPd K F xs ps
 | .ext φ,.dict [(.bool false,.tuple L)]=>∃(a':Addr) (ep:Nat) (xs:List ((Qa×Qa)×Addr×V)) (ps:List ((Qa×Qa)×D)),HO.ext φ=yX hB a' ep xs/\L=ps.map (λp=>.tuple [.tuple [.tuple (p.1.1.map j0),.tuple (p.1.2.map j0)],p.2])/\DaBd K F xs ps
 |_,_=>False
section
variable {K:Fg}{F F':Hp}{o:HO}{d:D}{a:Addr}
def Own1.ext(h:Own1 K F (.ext φ) d):(∃(a':Addr) (ep:Nat) (xs:List (Qa×Addr×V)) (ps:List (Qa×D)),HO.ext φ=yX hL a' ep xs/\d=XZ ps/\DaPd K F xs ps) \/ ∃(a':Addr) (ep:Nat) (xs:List ((Qa×Qa)×Addr×V)) (ps:List ((Qa×Qa)×D)),HO.ext φ=yX hB a' ep xs/\d=fO ps/\DaBd K F xs ps:=by
 unfold Own1 at h;split at h
 .rename_i z;cases z
 .rename_i z;cases z
 .rename_i z;cases z
 .rename_i z;obtain⟨a',ep,xs,ps,e,rfl,t⟩:=h;exact .inl ⟨a',ep,xs,ps,z.trans e,rfl,t⟩
 .rename_i z;obtain⟨a',ep,xs,ps,e,rfl,t⟩:=h;exact .inr ⟨a',ep,xs,ps,z.trans e,rfl,t⟩
 .exact h.elim
def Own1.pd(h:DaPd K F xs ps):Own1 K F (yX hL a' ep xs) (XZ ps):=⟨a',ep,xs,ps,rfl,rfl,h⟩
def Own1.mono(s:Sub F F')(h:Own1 K F o d):Own1 K F' o d:=by
 cases o with
 |ext φ =>
  rcases h.ext with⟨a',ep,xs,ps,e,rfl,t⟩|⟨a',ep,xs,ps,e,rfl,t⟩
  .exact ⟨a',ep,xs,ps,e,rfl,t.mono s⟩
  .exact ⟨a',ep,xs,ps,e,rfl,t.mono s⟩
 |_=>cases d<;>first|exact DaAll.mono s h|exact DaKV.mono s h|exact DaKT.mono s h|exact h.elim
def Own1.da(h:Own1 K F o d)(e:F a=some o):Da K F (.ref a) d:=by
 cases o with
 |ext φ =>
  rcases h.ext with⟨a',ep,xs,ps,z,rfl,t⟩|⟨a',ep,xs,ps,z,rfl,t⟩
  .rw[z]at e;exact .pd e t
  .rw[z]at e;exact .bd e t
 |_=>cases d<;>first|exact .lst e h|exact .dk (.inl e) h|exact .dt (.inl e) h|exact h.elim
end
noncomputable def lamN:List Str:=["all_around","_law_made","_law_settle","exchanged","mirrored","stretched","cut"]
noncomputable def TB(K:Fg):List (Addr×Str):=lamN.filterMap λx=>(N8 K x).map λz=>(z.2,x)
noncomputable def stk:HO->Bool
 | .tbl _=>true
 | .frz _ _=>true
 |_=>false
def TabOk(K:Fg)(F H:Hp):Prop:=∀z∈TB K,F z.1=none/\∃ps,H z.1=some (.tbl ps)/\PySem.TriplesOk ps.toList/\∀pos v,codeAmong pos ps.toList=some v->∃c o,v=.ref c/\H c=some (FX c o)/\nj z.2 o
def TabOk.up{K:Fg}(T:TabOk K F H)(kp:∀a o,stk o=true->H a=some o->H' a=some o)(hF:∀z∈TB K,F' z.1=none):TabOk K F' H':=λz hz=>by obtain⟨_,ps,e,t,q⟩:=T z hz;refine ⟨hF z hz,ps,kp _ _ rfl e,t,λpos v ev=>?_⟩;obtain⟨c,o,e1,e2,e3⟩:=q pos v ev;exact ⟨c,o,e1,kp _ _ rfl e2,e3⟩
def TabOk.put{K:Fg}{o:HO}(T:TabOk K F H)(n:∀u,H a=some u->stk u=false):TabOk K F (DQ H a o):=T.up (λb u s e=>by rw[eQ λz=>by subst z;rw[n u e]at s;cases s];exact e) λz hz=>(T z hz).1
def TabOk.ne{K:Fg}(T:TabOk K F H)(n:∀u,H a=some u->stk u=false):∀z∈TB K,z.1≠a:=λz hz e=>by obtain⟨_,ps,e1,_⟩:=T z hz;rw[e]at e1;cases n _ e1
def TabOk.F{K:Fg}{F:Hp}{o:HO}(T:TabOk K F H)(n:∀u,H a=some u->stk u=false):TabOk K (DQ F a o) H:=T.up (λ_ _ _ e=>e) λz hz=>by rw[eQ (T.ne n z hz)];exact (T z hz).1
def Own1.stk{K:Fg}{F:Hp}{o:HO}{d:D}(h:Own1 K F o d):stk o=false:=by cases o<;>first|rfl|(cases d<;>exact h.elim)
structure Gh where
 H0:Hp
 F0:Hp
 io:Nat->Option Addr
structure Rel(K:Fg)(G:Gh)(F:Hp)(σ:L2.St)(H:Hp)(ρ:Ev):Prop where
 len:σ.length=ρ.length
 sub:Sub F H
 sub0:Sub G.F0 F
 fn:∀a o,F a=some o->G.F0 a=some o\/G.H0 a=none
 keep:∀a o,G.H0 a=some o->(∀i,G.io i≠some a)->(∀z∈TB K,z.1≠a)->H a=some o
 tb:TabOk K F H
 fz:∀(i:Nat) (d:D),ρ[i]?=some (some (Sl.fz d))->∃v,σ[i]?=some (some v)/\Da K F v d
 ow:∀(i:Nat) (s:Sl),ρ[i]?=some (some s)->PQ s=true->∃a o,σ[i]?=some (some (V.ref a))/\F a=none/\H a=some o/\Own1 K F o s.d
 new:∀(i:Nat) (d:D) (a:Addr),ρ[i]?=some (some (Sl.ow d))->σ[i]?=some (some (V.ref a))->G.H0 a=none
 io:∀(i:Nat) (a:Addr),G.io i=some a->∃d,ρ[i]?=some (some (Sl.io d))/\σ[i]?=some (some (V.ref a))
 ioi:∀(i:Nat) (d:D),ρ[i]?=some (some (Sl.io d))->∃a,G.io i=some a
 ap:∀(i j:Nat) (s t:Sl) (a:Addr),ρ[i]?=some (some s)->PQ s=true->ρ[j]?=some (some t)->PQ t=true->σ[i]?=some (some (V.ref a))->σ[j]?=some (some (V.ref a))->i=j
noncomputable def Res(K:Fg)(G:Gh)(F H:Hp)(σ:L2.St)(ρ:Ev)(v:V):Sl->Prop
 | .fz d=>Da K F v d
 | .ow d=>∃a o,v=.ref a/\F a=none/\H a=some o/\Own1 K F o d/\G.H0 a=none/\∀(i:Nat) (s:Sl),ρ[i]?=some (some s)->PQ s=true->σ[i]?≠some (some (V.ref a))
 | .io _=>False
section
variable {K:Fg}{G:Gh}{F F':Hp}{σ:L2.St}{ρ:Ev}{a:Addr}{o:HO}{d:D}{v:V}{s:Sl}
def Rel.bound(R:Rel K G F σ H ρ){i:Nat}(h:ρ[i]?=some (some s)):∃v,σ[i]?=some (some v):=by
 cases s with
 |fz d=>obtain⟨v,e,_⟩:=R.fz i d h;exact ⟨v,e⟩
 |ow d=>obtain⟨a,o,e,_⟩:=R.ow i _ h rfl;exact ⟨_,e⟩
 |io d=>obtain⟨a,o,e,_⟩:=R.ow i _ h rfl;exact ⟨_,e⟩
def Rel.h0(R:Rel K G F σ H ρ)(h:H a=none):G.H0 a=none:=by
 cases e:G.H0 a with
 |none=>rfl
 |some o =>
  by_cases q:∃i,G.io i=some a
  .obtain⟨i,q⟩:=q;obtain⟨d,h1,h2⟩:=R.io i a q;obtain⟨a',o',h3,_,h4,_⟩:=R.ow i _ h1 rfl;rw[h2]at h3;cases h3;rw[h]at h4;cases h4
  .have:=R.keep a o e (λi z=>q ⟨i,z⟩) (R.tb.ne λu z=>by rw[h]at z;cases z);rw[h]at this;cases this
def Rel.f0(R:Rel K G F σ H ρ)(h:H a=none):F a=none:=by
 cases e:F a with
 |none=>rfl
 |some o=>rw[R.sub a o e]at h;cases h
def Rel.laid(R:Rel K G F σ H ρ)(h:H a=none):Rel K G F σ (DQ H a o) ρ where
 len:=R.len
 sub:=λb u e=>by rw[eQ (gQ (R.sub b u e) h)];exact R.sub b u e
 sub0:=R.sub0
 fn:=R.fn
 keep:=λb u e n t=>by rw[eQ (gQ (R.keep b u e n t) h)];exact R.keep b u e n t
 tb:=R.tb.put λu z=>by rw[h]at z;cases z
 fz:=R.fz
 ow:=λi s e w=>by obtain⟨a',o',h1,h2,h3,h4⟩:=R.ow i s e w;exact ⟨a',o',h1,h2,by rw[eQ (gQ h3 h)];exact h3,h4⟩
 new:=R.new
 io:=R.io
 ioi:=R.ioi
 ap:=R.ap
def Rel.grow(R:Rel K G F σ H ρ)(h0:G.H0 a=none)(h:H a=some o)(hn:∀(i:Nat) (s:Sl),ρ[i]?=some (some s)->PQ s=true->σ[i]?≠some (some (V.ref a)))(hk:stk o=false:=by rfl):Sub F (DQ F a o)/\Rel K G (DQ F a o) σ H ρ:=by
 have sb:Sub F (DQ F a o):=λb u e=>by
  by_cases z:b=a
  .subst z;rw[kQ,<-h];exact R.sub _ _ e
  .rw[eQ z];exact e
 refine ⟨sb,R.len,λb u e=>?_,R.sub0.trans sb,λb u e=>?_,R.keep,R.tb.F λu z=>by rw[h]at z;cases z;exact hk,λi d e=>?_,λi s e w=>?_,R.new,R.io,R.ioi,R.ap⟩
 .by_cases z:b=a
  .subst z;rw[kQ]at e;rw[h];exact e
  .rw[eQ z]at e;exact R.sub _ _ e
 .by_cases z:b=a
  .subst z;exact .inr h0
  .rw[eQ z]at e;exact R.fn _ _ e
 .obtain⟨v,h1,h2⟩:=R.fz i d e;exact ⟨v,h1,h2.mono sb⟩
 .obtain⟨a',o',h1,h2,h3,h4⟩:=R.ow i s e w;have z:a'≠a:=λz=>hn i s e w (by rw[h1,z]);exact ⟨a',o',h1,by rw[eQ z];exact h2,h3,h4.mono sb⟩
def Res.frz(R:Rel K G F σ H ρ)(r:Res K G F H σ ρ v s):∃F',Sub F F'/\Rel K G F' σ H ρ/\Da K F' v s.d:=by
 cases s with
 |fz d=>exact ⟨F,Sub.refl _,R,r⟩
 |ow d=>obtain⟨a,o,rfl,h1,h2,h3,h4,h5⟩:=r;obtain⟨sb,R'⟩:=R.grow h4 h2 h5 h3.stk;exact ⟨_,sb,R',(h3.mono sb).da kQ⟩
 |io d=>exact r.elim
def Rel.newOw(R:Rel K G F σ H ρ)(h:H a=none)(w:Own1 K F o d):Rel K G F σ (DQ H a o) ρ/\Res K G F (DQ H a o) σ ρ (.ref a) (.ow d):=by refine ⟨R.laid h,a,o,rfl,R.f0 h,kQ,w,R.h0 h,λi s e w z=>?_⟩;obtain⟨a',o',h1,h2,h3,h4⟩:=R.ow i s e w;rw[z]at h1;cases h1;rw[h]at h3;cases h3
def Rel.newTup(R:Rel K G F σ H ρ){xs:List V}{ds:List D}(h:H a=none)(w:DaAll K F xs ds):Sub F (DQ F a (.tup xs))/\Rel K G (DQ F a (.tup xs)) σ (DQ H a (.tup xs)) ρ/\Da K (DQ F a (.tup xs)) (.ref a) (.tuple ds):=by
 have R1:Rel K G F σ (DQ H a (.tup xs)) ρ:=R.laid h;obtain⟨sb,R2⟩:=R1.grow (a:=a) (o:=.tup xs) (R.h0 h) kQ λi s e w z=>by obtain⟨a',o',h1,h2,h3,h4⟩:=R.ow i s e w;rw[z]at h1;cases h1;rw[h]at h3;cases h3
 exact ⟨sb,R2,.tup kQ (w.mono sb)⟩
noncomputable def Sl.put:Sl->D->Sl
 | .fz _,d=>.fz d
 | .ow _,d=>.ow d
 | .io _,d=>.io d
def pQ{l:List α}{x y:α}(h:(l.set i x)[j]?=some y):(j=i/\y=x)\/(j≠i/\l[j]?=some y):=by
 by_cases z:i=j
 .subst z;rw[List.getElem?_set]at h;simp at h;exact .inl ⟨rfl,h.2.symm⟩
 .rw[J1 z]at h;exact .inr ⟨λq=>z q.symm,h⟩
def YZ{l:List α}{x:α}(h:i<l.length):(l.set i x)[i]?=some x:=by simp[h]
def pX{l:List α}{x:α}(h:l[i]?=some x):i<l.length:=(S0.mp h).1
def Rel.change(R:Rel K G F σ H ρ){i:Nat}{o':HO}{d':D}(h:ρ[i]?=some (some s))(w:PQ s=true)(ha:σ[i]?=some (some (V.ref a)))(q:Own1 K F o' d'):Rel K G F σ (DQ H a o') (ρ.set i (some (s.put d'))):=by
 obtain⟨a0,o0,h1,h2,h3,h4⟩:=R.ow i s h w;rw[ha]at h1;cases h1;have sw:PQ (s.put d')=true:=by cases s<;>first|rfl|cases w
 have hl:=pX h;refine ⟨by rw[L4];exact R.len,λb u e=>?_,R.sub0,R.fn,λb u e n t=>?_,R.tb.put λu z=>by rw[h3]at z;cases z;exact h4.stk,λj d e=>?_,λj t e wt=>?_,λj d b e eb=>?_,λj b e=>?_,λj d e=>?_,λj k t u b e1 w1 e2 w2 e3 e4=>?_⟩
 .have z:b≠a:=λz=>by subst z;rw[h2]at e;cases e
  rw[eQ z];exact R.sub _ _ e
 .by_cases z:b=a
  .subst z;cases s with
   |fz d=>cases w
   |ow d=>rw[R.new i d b h ha]at e;cases e
   |io d=>obtain⟨a',e'⟩:=R.ioi i d h;obtain⟨d',_,e2⟩:=R.io i a' e';rw[ha]at e2;cases e2;exact absurd e' (n i)
  .rw[eQ z];exact R.keep _ _ e n t
 .rcases pQ e with⟨rfl,z⟩|⟨n,z⟩
  .cases s<;>simp[Sl.put,PQ]at z w
  .exact R.fz j d z
 .rcases pQ e with⟨rfl,z⟩|⟨n,z⟩
  .cases z;exact ⟨a,o',ha,h2,kQ,by cases s<;>first|exact q|cases w⟩
  .obtain⟨b,u,g1,g2,g3,g4⟩:=R.ow j t z wt;have nb:b≠a:=λx=>n (R.ap j i t s a z wt h w (by rw[g1,x]) ha);exact ⟨b,u,g1,g2,by rw[eQ nb];exact g3,g4⟩
 .rcases pQ e with⟨rfl,z⟩|⟨n,z⟩
  .cases s with
   |fz d=>cases w
   |ow d0=>exact R.new j d0 b h eb
   |io d=>cases z
  .exact R.new j d b z eb
 .obtain⟨d,e1,e2⟩:=R.io j b e;by_cases z:j=i
  .subst z;rw[h]at e1;cases e1;exact ⟨d',by rw[YZ hl];rfl,e2⟩
  .exact ⟨d,by rw[J1 (Y1 z)];exact e1,e2⟩
 .rcases pQ e with⟨rfl,z⟩|⟨n,z⟩
  .cases s with
   |fz d=>cases w
   |ow d0=>cases z
   |io d0=>exact R.ioi j d0 h
  .exact R.ioi j d z
 .have f:∀(j:Nat) (t:Sl),(ρ.set i (some (s.put d')))[j]?=some (some t)->PQ t=true->∃t',ρ[j]?=some (some t')/\PQ t'=true:=λj t e wt=>by
   rcases pQ e with⟨rfl,z⟩|⟨n,z⟩
   .exact ⟨s,h,w⟩
   .exact ⟨t,z,wt⟩
  obtain⟨t',e1',w1'⟩:=f j t e1 w1;obtain⟨u',e2',w2'⟩:=f k u e2 w2;exact R.ap j k t' u' b e1' w1' e2' w2' e3 e4
def Rel.forget(R:Rel K G F σ H ρ){i:Nat}(h:ρ[i]?=some (some (Sl.ow d))):Rel K G F σ H (ρ.set i none):=by
 refine ⟨by rw[L4];exact R.len,R.sub,R.sub0,R.fn,R.keep,R.tb,λj d e=>?_,λj t e wt=>?_,λj d b e eb=>?_,λj b e=>?_,λj d e=>?_,λj k t u b e1 w1 e2 w2 e3 e4=>?_⟩
 .rcases pQ e with⟨rfl,z⟩|⟨n,z⟩
  .cases z
  .exact R.fz j d z
 .rcases pQ e with⟨rfl,z⟩|⟨n,z⟩
  .cases z
  .exact R.ow j t z wt
 .rcases pQ e with⟨rfl,z⟩|⟨n,z⟩
  .cases z
  .exact R.new j d b z eb
 .obtain⟨d',e1,e2⟩:=R.io j b e;have n:i≠j:=λz=>by subst z;rw[h]at e1;cases e1
  exact ⟨d',by rw[J1 n];exact e1,e2⟩
 .rcases pQ e with⟨rfl,z⟩|⟨n,z⟩
  .cases z
  .exact R.ioi j d z
 .rcases pQ e1 with⟨rfl,z⟩|⟨n,z⟩
  .cases z
  .rcases pQ e2 with⟨rfl,z'⟩|⟨n',z'⟩
   .cases z'
   .exact R.ap j k t u b z w1 z' w2 e3 e4
def Rel.freeze(R:Rel K G F σ H ρ){i:Nat}(h:ρ[i]?=some (some (Sl.ow d))):∃F' v,Sub F F'/\Rel K G F' σ H (ρ.set i (some (Sl.fz d)))/\σ[i]?=some (some v)/\Da K F' v d:=by
 obtain⟨a,o,h1,h2,h3,h4⟩:=R.ow i _ h rfl;have hl:=pX h;have R1:=R.forget h;have hn:∀(j:Nat) (s:Sl),(ρ.set i none)[j]?=some (some s)->PQ s=true->σ[j]?≠some (some (V.ref a)):=λj s e w z=>by
  rcases pQ e with⟨rfl,q⟩|⟨n,q⟩
  .cases q
  .exact n (R.ap j i s _ a q w h rfl z h1)
 obtain⟨sb,R2⟩:=R1.grow (R.new i d a h h1) h3 hn h4.stk;have dd:Da K (DQ F a o) (.ref a) d:=(h4.mono sb).da kQ;refine ⟨_,_,sb,?_,h1,dd⟩;refine ⟨by rw[L4];exact R.len,R2.sub,R2.sub0,R2.fn,R2.keep,R2.tb,λj d' e=>?_,λj t e wt=>?_,λj d b e eb=>?_,λj b e=>?_,λj d e=>?_,λj k t u b e1 w1 e2 w2 e3 e4=>?_⟩
 .rcases pQ e with⟨rfl,z⟩|⟨n,z⟩
  .cases z;exact ⟨_,h1,dd⟩
  .exact R2.fz j d' (by rw[J1 (Y1 n)];exact z)
 .rcases pQ e with⟨rfl,z⟩|⟨n,z⟩
  .cases z;cases wt
  .exact R2.ow j t (by rw[J1 (Y1 n)];exact z) wt
 .rcases pQ e with⟨rfl,z⟩|⟨n,z⟩
  .cases z
  .exact R.new j d b z eb
 .obtain⟨d',e1,e2⟩:=R.io j b e;have n:i≠j:=λz=>by subst z;rw[h]at e1;cases e1
  exact ⟨d',by rw[J1 n];exact e1,e2⟩
 .rcases pQ e with⟨rfl,z⟩|⟨n,z⟩
  .cases z
  .exact R.ioi j d z
 .rcases pQ e1 with⟨rfl,z⟩|⟨n,z⟩
  .cases z;cases w1
  .rcases pQ e2 with⟨rfl,z'⟩|⟨n',z'⟩
   .cases z';cases w2
   .exact R.ap j k t u b z w1 z' w2 e3 e4
def Rel.forgetRes(R:Rel K G F σ H ρ){i:Nat}(h:ρ[i]?=some (some (Sl.ow d))):∃v,σ[i]?=some (some v)/\Res K G F H σ (ρ.set i none) v (.ow d):=by
 obtain⟨a,o,h1,h2,h3,h4⟩:=R.ow i _ h rfl;refine ⟨_,h1,a,o,rfl,h2,h3,h4,R.new i d a h h1,λj s e w z=>?_⟩;rcases pQ e with⟨rfl,q⟩|⟨n,q⟩
 .cases q
 .exact n (R.ap j i s _ a q w h rfl z h1)
def qj(ρ:Ev)(i:Nat):Prop:=match ρ[i]? with
 |some (some (Sl.io _))=>False
 |some _=>True
 |none=>False
def Rel.asg(R:Rel K G F σ H ρ){i:Nat}(hi:qj ρ i)(r:Res K G F H σ ρ v s):Rel K G F (σ.set i (some v)) H (ρ.set i (some s)):=by
 have hl:i<ρ.length:=by
  cases e:ρ[i]? with
  |none=>unfold qj at hi;rw[e]at hi;exact hi.elim
  |some x=>exact pX e
 have hl':i<σ.length:=by rw[R.len];exact hl
 have ni:∀d,ρ[i]?≠some (some (Sl.io d)):=λd e=>by unfold qj at hi;rw[e]at hi;exact hi
 refine ⟨by rw[L4,L4];exact R.len,R.sub,R.sub0,R.fn,R.keep,R.tb,λj d e=>?_,λj t e wt=>?_,λj d b e eb=>?_,λj b e=>?_,λj d e=>?_,λj k t u b e1 w1 e2 w2 e3 e4=>?_⟩
 .rcases pQ e with⟨rfl,z⟩|⟨n,z⟩
  .cases z;exact ⟨v,YZ hl',r⟩
  .rw[J1 (Y1 n)];exact R.fz j d z
 .rcases pQ e with⟨rfl,z⟩|⟨n,z⟩
  .cases z;cases s with
   |fz d=>cases wt
   |ow d=>obtain⟨a,o,rfl,h1,h2,h3,_⟩:=r;exact ⟨a,o,YZ hl',h1,h2,h3⟩
   |io d=>exact r.elim
  .rw[J1 (Y1 n)];exact R.ow j t z wt
 .rcases pQ e with⟨rfl,z⟩|⟨n,z⟩
  .cases z;obtain⟨a,o,rfl,h1,h2,h3,h4,_⟩:=r;rw[YZ hl']at eb;cases eb;exact h4
  .rw[J1 (Y1 n)]at eb;exact R.new j d b z eb
 .obtain⟨d,e1,e2⟩:=R.io j b e;have n:i≠j:=λz=>by subst z;exact ni d e1
  exact ⟨d,by rw[J1 n];exact e1,by rw[J1 n];exact e2⟩
 .rcases pQ e with⟨rfl,z⟩|⟨n,z⟩
  .cases z;exact r.elim
  .exact R.ioi j d z
 .have own:∀(j:Nat) (t:Sl),j≠i->ρ[j]?=some (some t)->PQ t=true->(σ.set i (some v))[j]?=some (some (V.ref b))->s.d=s.d->PQ s=true->v=.ref b->False:=λj t n e w eb _ ws ev=>by
   subst ev;cases s with
   |fz d=>cases ws
   |io d=>exact r
   |ow d=>obtain⟨a,o,z,h1,h2,h3,h4,h5⟩:=r;cases z;rw[J1 (Y1 n)]at eb;exact h5 j t e w eb
  rcases pQ e1 with⟨rfl,z⟩|⟨n,z⟩
  .rcases pQ e2 with⟨rfl,z'⟩|⟨n',z'⟩
   .rfl
   .rw[YZ hl']at e3;cases e3;cases z;exact (own k u n' z' w2 e4 rfl w1 rfl).elim
  .rcases pQ e2 with⟨rfl,z'⟩|⟨n',z'⟩
   .rw[YZ hl']at e4;cases e4;cases z';exact (own j t n z w1 e3 rfl w2 rfl).elim
   .rw[J1 (Y1 n)]at e3;rw[J1 (Y1 n')]at e4;exact R.ap j k t u b z w1 z' w2 e3 e4
end
noncomputable abbrev TD:=Ev->(Sl->Ev->Prop)->Prop
noncomputable abbrev RK:=Ev->(Bool->Ev->Prop)->Prop
noncomputable abbrev wV:=Sum Nat D
noncomputable abbrev AD:=Sum Nat TD
def lift(K:Fg)(td:TD):TE:=λσ H Q=>∃(G:Gh) (F:Hp) (ρ:Ev) (Qd:Sl->Ev->Prop),Rel K G F σ H ρ/\td ρ Qd /\
 ∀v H' F' r ρ',Sub F F'->Rel K G F' σ H' ρ'->Res K G F' H' σ ρ' v r->Qd r ρ'->Q v H'
def wQ(K:Fg)(tc:RK):TT:=λσ H Q=>∃(G:Gh) (F:Hp) (ρ:Ev) (Qd:Bool->Ev->Prop),Rel K G F σ H ρ/\tc ρ Qd /\
 ∀b H' F' ρ',Sub F F'->Rel K G F' σ H' ρ'->Qd b ρ'->Q b H'
noncomputable def jQ(K:Fg):AD->TE
 | .inl i=>CZ i
 | .inr td=>lift K td
noncomputable def rQ:List TE->TA
 |[]=>bq
 |t::ts=>qK t (rQ ts)
def MJ{K:Fg}{Q:VK}(m:∀v H,Q v H->Q' v H)(h:jQ K a σ H Q):jQ K a σ H Q':=by
 cases a with
 |inl i=>obtain⟨v,e,q⟩:=h;exact ⟨v,e,m _ _ q⟩
 |inr td=>obtain⟨G,F,ρ,Qd,R,w,k⟩:=h;exact ⟨G,F,ρ,Qd,R,w,λv H' F' r ρ' s R' r' q=>m _ _ (k v H' F' r ρ' s R' r' q)⟩
def TU{K:Fg}(h:rQ ([a].map (jQ K)) σ H λvs H2=>∃x,vs=[x]/\P x H2):jQ K a σ H P:=MJ (λv H q=>by obtain⟨x,e,q⟩:=q;cases e;exact q) h
def FB{K:Fg}{P:V->V->Hp->Prop}(h:rQ ([a,b].map (jQ K)) σ H λvs H2=>∃x y,vs=[x,y]/\P x y H2):jQ K a σ H λx H1=>jQ K b σ H1 λy H2=>P x y H2:=MJ (λv H q=>MJ (λu H q=>by obtain⟨x,y,e,q⟩:=q;cases e;exact q) q) h
def rj(i:Nat):TD:=λρ Q=>match ρ[i]? with
 |some (some (.fz d))=>Q (.fz d) ρ
 |some (some (.ow d))=>Q (.fz d) (ρ.set i (some (.fz d)))
 |_=>False
def dC(d:D):TD:=λρ Q=>Q (.fz d) ρ
section
variable {K:Fg}{σ:L2.St}{Q:VK}
def FI(h:lift K (rj i) σ H Q):CZ i σ H Q:=by
 obtain⟨G,F,ρ,Qd,R,w,k⟩:=h;unfold rj at w;split at w
 .rename_i d e;obtain⟨v,e1,h1⟩:=R.fz i d e;exact ⟨v,e1,k v H F (.fz d) ρ (Sub.refl _) R h1 w⟩
 .rename_i d e;obtain⟨F',v,sb,R',e1,h1⟩:=R.freeze e;exact ⟨v,e1,k v H F' (.fz d) _ sb R' h1 w⟩
 .exact w.elim
def CO(hv:∀F,Da K F v d)(h:lift K (dC d) σ H Q):tC v σ H Q:=by obtain⟨G,F,ρ,Qd,R,w,k⟩:=h;exact k v H F (.fz d) ρ (Sub.refl _) R (hv F) w
end
noncomputable def GI(K:Fg)(F:Hp)(σ:L2.St)(v:V):wV->Prop
 | .inl i=>σ[i]?=some (some v)
 | .inr d=>Da K F v d
inductive OpdsAt (K:Fg) (F:Hp) (σ:L2.St):List V->List wV->Prop
 |nil:OpdsAt K F σ [] []
 |cons {v x vs xs}:GI K F σ v x->OpdsAt K F σ vs xs->OpdsAt K F σ (v::vs) (x::xs)
noncomputable def nX:List AD->Ev->(List wV->Ev->Prop)->Prop
 |[],ρ,Q=>Q [] ρ
 | .inl i::as,ρ,Q=>match ρ[i]? with
  |some (some _)=>nX as ρ λxs ρ'=>Q (.inl i::xs) ρ'
  |_=>False
 | .inr td::as,ρ,Q=>td ρ λr ρ1=>nX as ρ1 λxs ρ2=>Q (.inr r.d::xs) ρ2
theorem wJ{K:Fg}{G:Gh}{σ:L2.St}:∀{as:List AD}{F H:Hp}{ρ:Ev}{Qd:List wV->Ev->Prop}{Qv:List V->Hp->Prop},Rel K G F σ H ρ->nX as ρ Qd -> (∀vs H' F' xs ρ',Sub F F'->Rel K G F' σ H' ρ'->OpdsAt K F' σ vs xs->vs.length=as.length->Qd xs ρ'->Qv vs H')->rQ (as.map (jQ K)) σ H Qv
 |[],F,H,ρ,Qd,Qv,R,w,k=>k [] H F [] ρ (Sub.refl _) R .nil rfl w
 | .inl i::as,F,H,ρ,Qd,Qv,R,w,k=>by
  unfold nX at w;split at w
  .rename_i s e;obtain⟨v,ev⟩:=R.bound e;refine ⟨v,ev,wJ (as:=as) R w λvs H' F' xs ρ' sb R' o hl q=>?_⟩;exact k (v::vs) H' F' (.inl i::xs) ρ' sb R' (.cons ev o) (by simp[hl]) q
  .exact w.elim
 | .inr td::as,F,H,ρ,Qd,Qv,R,w,k=>by refine ⟨G,F,ρ,_,R,w,λv H1 F1 r ρ1 s1 R1 r1 w1=>?_⟩;obtain⟨F2,s2,R2,d2⟩:=r1.frz R1;refine wJ (as:=as) R2 w1 λvs H' F' xs ρ' sb R' o hl q=>?_;exact k (v::vs) H' F' (.inr r.d::xs) ρ' (s1.trans (s2.trans sb)) R' (.cons (d2.mono sb) o) (by simp[hl]) q
def bX{K:Fg}(R:Rel K G F σ H ρ)(w:nX as ρ Qd)(k:∀vs H' F' xs ρ',Sub F F'->Rel K G F' σ H' ρ'->OpdsAt K F' σ vs xs->Qd xs ρ'->Qv vs H'):rQ (as.map (jQ K)) σ H Qv:=wJ R w λvs H' F' xs ρ' s R' o _ q=>k vs H' F' xs ρ' s R' o q
def At(K:Fg)(F H:Hp)(v:V)(d:D):Prop:=Da K F v d\/∃a o,v=.ref a/\F a=none/\H a=some o/\Own1 K F o d
inductive AtAll (K:Fg) (F H:Hp):List V->List D->Prop
 |nil:AtAll K F H [] []
 |cons {v d vs ds}:At K F H v d->AtAll K F H vs ds->AtAll K F H (v::vs) (d::ds)
noncomputable def look(ρ:Ev):wV->Option D
 | .inl i=>match ρ[i]? with
  |some (some s)=>some s.d
  |_=>none
 | .inr d=>some d
noncomputable def JQ(ρ:Ev):List wV->(List D->Prop)->Prop
 |[],k=>k []
 | .inr d::xs,k=>JQ ρ xs λds=>k (d::ds)
 | .inl i::xs,k=>match ρ[i]? with
  |some (some s)=>JQ ρ xs λds=>k (s.d::ds)
  |_=>False
section
variable {K:Fg}{G:Gh}{F:Hp}{σ:L2.St}{ρ:Ev}
def Rel.at(R:Rel K G F σ H ρ){i:Nat}{s:Sl}{v:V}(e:ρ[i]?=some (some s))(ev:σ[i]?=some (some v)):At K F H v s.d:=by
 cases s with
 |fz d=>obtain⟨v',e1,h1⟩:=R.fz i d e;rw[ev]at e1;cases e1;exact .inl h1
 |ow d=>obtain⟨a,o,h1,h2,h3,h4⟩:=R.ow i _ e rfl;rw[ev]at h1;cases h1;exact .inr ⟨a,o,rfl,h2,h3,h4⟩
 |io d=>obtain⟨a,o,h1,h2,h3,h4⟩:=R.ow i _ e rfl;rw[ev]at h1;cases h1;exact .inr ⟨a,o,rfl,h2,h3,h4⟩
def pZ(R:Rel K G F σ H ρ){xs:List wV}{vs:List V}{k:List D->Prop}(o:OpdsAt K F σ vs xs)(h:JQ ρ xs k):∃ds,AtAll K F H vs ds/\k ds:=by
 induction o generalizing k with
 |nil=>exact ⟨[],.nil,h⟩
 |@cons v x vs xs o t ih =>
  cases x with
  |inr d=>obtain⟨ds,a,q⟩:=ih (k:=λds=>k (d::ds)) h;exact ⟨d::ds,.cons (.inl o) a,q⟩
  |inl i =>
   unfold JQ at h;split at h
   .rename_i s e;obtain⟨ds,a,q⟩:=ih (k:=λds=>k (s.d::ds)) h;exact ⟨s.d::ds,.cons (R.at e o) a,q⟩
   .exact h.elim
end
def eY(as:List AD)(f:List D->(Sl->Prop)->Prop):TD:=λρ Q=>nX as ρ λxs ρ1=>JQ ρ1 xs λds=>f ds λr=>Q r ρ1
def UQ(K:Fg)(r:List V->Hp->VK->Prop)(f:List D->(Sl->Prop)->Prop):Prop :=
 ∀(G:Gh) (F:Hp) (σ:L2.St) (H:Hp) (ρ:Ev) (vs:List V) (ds:List D) (Q:VK) (Qd:Sl->Prop),Rel K G F σ H ρ->AtAll K F H vs ds->f ds Qd ->
  (∀v H' F' s,Sub F F'->Rel K G F' σ H' ρ->Res K G F' H' σ ρ v s->Qd s->Q v H')->r vs H Q
def XW{K:Fg}{r:List V->Hp->VK->Prop}(ok:UQ K r f){σ:L2.St}{H:Hp}{Q:VK}(h:lift K (eY as f) σ H Q):rQ (as.map (jQ K)) σ H λvs H1=>r vs H1 Q:=by obtain⟨G,F,ρ,Qd,R,w,k⟩:=h;refine bX R w λvs H' F' xs ρ' sb R' o q=>?_;obtain⟨ds,ha,q⟩:=pZ R' o q;exact ok G F' σ H' ρ' vs ds Q _ R' ha q λv H2 F2 s s2 R2 r2 q2=>k v H2 F2 s ρ' (sb.trans s2) R2 r2 q2
noncomputable def o1(f:D->(Sl->Prop)->Prop):List D->(Sl->Prop)->Prop
 |[x],Q=>f x Q
 |_,_=>False
noncomputable def o2(f:D->D->(Sl->Prop)->Prop):List D->(Sl->Prop)->Prop
 |[x,y],Q=>f x y Q
 |_,_=>False
noncomputable def o3(f:D->D->D->(Sl->Prop)->Prop):List D->(Sl->Prop)->Prop
 |[x,y,z],Q=>f x y z Q
 |_,_=>False
noncomputable def wq(td:TD):RK:=λρ Q=>td ρ λr ρ'=>match r with
 | .fz (.bool b)=>Q b ρ'
 |_=>False
noncomputable def GB(c:RK):RK:=λρ Q=>c ρ λb ρ'=>Q (!b) ρ'
noncomputable def HB(c e:RK):RK:=λρ Q=>c ρ λb ρ'=>if b=true then e ρ' Q else Q false ρ'
noncomputable def gN(c e:RK):RK:=λρ Q=>c ρ λb ρ'=>if b=true then Q true ρ' else e ρ' Q
noncomputable def eG:RK:=λρ Q=>Q true ρ
section
variable {K:Fg}{σ:L2.St}
def wu(ht:∀{σ H Q},lift K td σ H Q->t σ H Q){Q:Bool->Hp->Prop}(h:wQ K (wq td) σ H Q):Oz t σ H Q:=by
 obtain⟨G,F,ρ,Qd,R,w,k⟩:=h;refine ht ⟨G,F,ρ,_,R,w,λv H' F' r ρ' sb R' r' q=>?_⟩;split at q
 .rename_i b;cases r';exact ⟨b,rfl,k b H' F' ρ' sb R' q⟩
 .exact q.elim
def HI{Q:Bool->Hp->Prop}(h:wQ K (GB c) σ H Q):M9 (wQ K c) σ H Q:=by obtain⟨G,F,ρ,Qd,R,w,k⟩:=h;exact ⟨G,F,ρ,_,R,w,λb H' F' ρ' sb R' q=>k (!b) H' F' ρ' sb R' q⟩
def II{Q:Bool->Hp->Prop}(h:wQ K (HB c e) σ H Q):L9 (wQ K c) (wQ K e) σ H Q:=by
 obtain⟨G,F,ρ,Qd,R,w,k⟩:=h;refine ⟨G,F,ρ,_,R,w,λb H' F' ρ' sb R' q=>?_⟩;cases b with
 |true=>exact ⟨G,F',ρ',Qd,R',q,λb H2 F2 ρ2 s2 R2 q2=>k b H2 F2 ρ2 (sb.trans s2) R2 q2⟩
 |false=>exact k false H' F' ρ' sb R' q
def iN{Q:Bool->Hp->Prop}(h:wQ K (gN c e) σ H Q):VM (wQ K c) (wQ K e) σ H Q:=by
 obtain⟨G,F,ρ,Qd,R,w,k⟩:=h;refine ⟨G,F,ρ,_,R,w,λb H' F' ρ' sb R' q=>?_⟩;cases b with
 |true=>exact k true H' F' ρ' sb R' q
 |false=>exact ⟨G,F',ρ',Qd,R',q,λb H2 F2 ρ2 s2 R2 q2=>k b H2 F2 ρ2 (sb.trans s2) R2 q2⟩
def JI{Q:Bool->Hp->Prop}(h:wQ K eG σ H Q):BI σ H Q:=by obtain⟨G,F,ρ,Qd,R,w,k⟩:=h;exact k true H F ρ (Sub.refl _) R w
end
def sj(a b:TD):TD:=λρ Q=>a ρ λr ρ'=>match r with
 | .fz (.bool c)=>if c=true then b ρ' Q else Q (.fz (.bool false)) ρ'
 |_=>False
def tj(a:TD):TD:=λρ Q=>a ρ λr ρ'=>match r with
 | .fz (.bool c)=>Q (.fz (.bool (!c))) ρ'
 |_=>False
def jN(c:RK)(a b:TD):TD:=λρ Q=>c ρ λk ρ'=>if k=true then a ρ' Q else b ρ' Q
section
variable {K:Fg}{σ:L2.St}{Q:VK}{a b:TD}{c:RK}
def IB(h:lift K (sj a b) σ H Q):Az (lift K a) (lift K b) σ H Q:=by
 obtain⟨G,F,ρ,Qd,R,w,k⟩:=h;refine ⟨G,F,ρ,_,R,w,λv H' F' r ρ' sb R' r' q=>?_⟩;split at q
 .rename_i c;cases r';refine ⟨c,rfl,?_⟩;cases c with
  |true=>exact ⟨G,F',ρ',Qd,R',q,λv H2 F2 r ρ2 s2 R2 r2 q2=>k v H2 F2 r ρ2 (sb.trans s2) R2 r2 q2⟩
  |false=>exact k _ H' F' (.fz (.bool false)) ρ' sb R' (Da.bl false) q
 .exact q.elim
def JB(h:lift K (tj a) σ H Q):Bz (lift K a) σ H Q:=by
 obtain⟨G,F,ρ,Qd,R,w,k⟩:=h;refine ⟨G,F,ρ,_,R,w,λv H' F' r ρ' sb R' r' q=>?_⟩;split at q
 .rename_i c;cases r';exact ⟨c,rfl,k _ H' F' (.fz (.bool (!c))) ρ' sb R' (Da.bl (!c)) q⟩
 .exact q.elim
def kN(h:lift K (jN c a b) σ H Q):WM (wQ K c) (lift K a) (lift K b) σ H Q:=by
 obtain⟨G,F,ρ,Qd,R,w,k⟩:=h;refine ⟨G,F,ρ,_,R,w,λx H' F' ρ' sb R' q=>?_⟩;cases x with
 |true=>exact ⟨G,F',ρ',Qd,R',q,λv H2 F2 r ρ2 s2 R2 r2 q2=>k v H2 F2 r ρ2 (sb.trans s2) R2 r2 q2⟩
 |false=>exact ⟨G,F',ρ',Qd,R',q,λv H2 F2 r ρ2 s2 R2 r2 q2=>k v H2 F2 r ρ2 (sb.trans s2) R2 r2 q2⟩
end
def NJ{ρ:Ev}{i:Nat}(h:match ρ[i]? with|some (some (.io _))=>False|some _=>P|none=>False):qj ρ i/\P:=by
 unfold qj;cases e:ρ[i]? with
 |none=>rw[e]at h;exact h.elim
 |some x =>
  rw[e]at h;cases x with
  |none=>exact ⟨trivial,h⟩
  |some s=>cases s with
   |fz d=>exact ⟨trivial,h⟩
   |ow d=>exact ⟨trivial,h⟩
   |io d=>exact h.elim
structure DE where
 nx:Ev->Prop
 rt:Sl->Ev->Prop
 bk:Ev->Prop
 ct:Ev->Prop
noncomputable abbrev mJ:=DE->Ev->Prop
def oQ(K:Fg)(ts:mJ):TS:=λD σ H=>∃(G:Gh) (F:Hp) (ρ:Ev) (E:DE),Rel K G F σ H ρ/\ts E ρ /\
 (∀σ' H' F' ρ',Sub F F'->Rel K G F' σ' H' ρ'->E.nx ρ'->D.nx σ' H') /\
 (∀v σ' H' F' r ρ',Sub F F'->Rel K G F' σ' H' ρ'->Res K G F' H' σ' ρ' v r->E.rt r ρ'->D.rt v H') /\
 (∀σ' H' F' ρ',Sub F F'->Rel K G F' σ' H' ρ'->E.bk ρ'->D.bk σ' H') /\
 (∀σ' H' F' ρ',Sub F F'->Rel K G F' σ' H' ρ'->E.ct ρ'->D.ct σ' H')
noncomputable def uj:mJ:=λE ρ=>E.nx ρ
noncomputable def wj(t u:mJ):mJ:=λE ρ=>t {nx:=λρ'=>u E ρ',rt:=E.rt,bk:=E.bk,ct:=E.ct} ρ
noncomputable def KB(a:TD):mJ:=λE ρ=>a ρ E.rt
noncomputable def xj(a:TD):mJ:=λE ρ=>a ρ λ_ ρ'=>E.nx ρ'
noncomputable def LB(c:RK)(t u:mJ):mJ:=λE ρ=>c ρ λb ρ'=>if b=true then t E ρ' else u E ρ'
noncomputable def fG(i:Nat)(a:TD):mJ:=λE ρ=>a ρ λr ρ'=>match ρ'[i]? with
 |some (some (.io _))=>False
 |some _=>E.nx (ρ'.set i (some r))
 |none=>False
section
variable {K:Fg}{σ:L2.St}{E:Ends}{t u:mJ}{a:TD}{c:RK}
def MB(h:oQ K uj E σ H):Dz E σ H:=by obtain⟨G,F,ρ,D,R,w,n,r,b,c⟩:=h;exact n σ H F ρ (Sub.refl _) R w
def later{D:DE}{ts:mJ}(s:Sub F F1)(R:Rel K G F1 σ1 H1 ρ1)(w:ts D ρ1)(n:∀σ' H' F' ρ',Sub F F'->Rel K G F' σ' H' ρ'->D.nx ρ'->E.nx σ' H')(r:∀v σ' H' F' r ρ',Sub F F'->Rel K G F' σ' H' ρ'->Res K G F' H' σ' ρ' v r->D.rt r ρ'->E.rt v H')(b:∀σ' H' F' ρ',Sub F F'->Rel K G F' σ' H' ρ'->D.bk ρ'->E.bk σ' H')(c:∀σ' H' F' ρ',Sub F F'->Rel K G F' σ' H' ρ'->D.ct ρ'->E.ct σ' H'):oQ K ts E σ1 H1:=
 ⟨G,F1,ρ1,D,R,w,λ_ _ _ _ s' R' q=>n _ _ _ _ (s.trans s') R' q,λ_ _ _ _ _ _ s' R' r' q=>r _ _ _ _ _ _ (s.trans s') R' r' q,
   λ_ _ _ _ s' R' q=>b _ _ _ _ (s.trans s') R' q,λ_ _ _ _ s' R' q=>c _ _ _ _ (s.trans s') R' q⟩
def KI(h:oQ K (wj t u) E σ H):T9 (oQ K t) (oQ K u) E σ H:=by obtain⟨G,F,ρ,D,R,w,n,r,b,c⟩:=h;exact ⟨G,F,ρ,_,R,w,λσ' H' F' ρ' s R' q=>later s R' q n r b c,r,b,c⟩
def LI(h:oQ K (KB a) E σ H):Gz (lift K a) E σ H:=by obtain⟨G,F,ρ,D,R,w,n,r,b,c⟩:=h;exact ⟨G,F,ρ,_,R,w,λv H' F' x ρ' s R' r' q=>r v σ H' F' x ρ' s R' r' q⟩
def NB(h:oQ K (xj a) E σ H):Fz (lift K a) E σ H:=by obtain⟨G,F,ρ,D,R,w,n,r,b,c⟩:=h;exact ⟨G,F,ρ,_,R,w,λv H' F' x ρ' s R' r' q=>n σ H' F' ρ' s R' q⟩
def MI(h:oQ K (LB c t u) E σ H):U9 (wQ K c) (oQ K t) (oQ K u) E σ H:=by
 obtain⟨G,F,ρ,D,R,w,n,r,b,c⟩:=h;refine ⟨G,F,ρ,_,R,w,λx H' F' ρ' s R' q=>?_⟩;cases x with
 |true=>exact later s R' q n r b c
 |false=>exact later s R' q n r b c
def xu(h:oQ K (fG i a) E σ H):UK (lift K a) (oJ i) E σ H:=by obtain⟨G,F,ρ,D,R,w,n,r,b,c⟩:=h;refine ⟨G,F,ρ,_,R,w,λv H' F' x ρ' s R' r' q=>?_⟩;have hn:=NJ q;exact n _ H' F' _ s (R'.asg hn.1 r') hn.2
end
noncomputable def IF(i:Nat):mJ:=λE ρ=>match ρ[i]? with
 |some (some (.fz d))=>E.rt (.fz d) ρ
 |some (some (.ow d))=>E.rt (.ow d) (ρ.set i none)
 |_=>False
noncomputable def JF(i j:Nat):mJ:=λE ρ=>match ρ[j]? with
 | some (some (.fz d))=>(match ρ[i]? with
   |some (some (.io _))=>False
   |some _=>E.nx (ρ.set i (some (.fz d)))
   |none=>False)
 | some (some (.ow d))=>(match (ρ.set j none)[i]? with
   |some (some (.io _))=>False
   |some _=>E.nx ((ρ.set j none).set i (some (.ow d)))
   |none=>False)
 |_=>False
section
variable {K:Fg}{σ:L2.St}{E:Ends}
def OB(h:oQ K (IF i) E σ H):Gz (CZ i) E σ H:=by
 obtain⟨G,F,ρ,D,R,w,n,r,b,c⟩:=h;unfold IF at w;split at w
 .rename_i d e;obtain⟨v,e1,h1⟩:=R.fz i d e;exact ⟨v,e1,r v σ H F (.fz d) ρ (Sub.refl _) R h1 w⟩
 .rename_i d e;obtain⟨v,e1,h1⟩:=R.forgetRes e;exact ⟨v,e1,r v σ H F (.ow d) _ (Sub.refl _) (R.forget e) h1 w⟩
 .exact w.elim
def PB(h:oQ K (JF i j) E σ H):UK (CZ j) (oJ i) E σ H:=by
 obtain⟨G,F,ρ,D,R,w,n,r,b,c⟩:=h;unfold JF at w;split at w
 .rename_i d e;obtain⟨v,e1,h1⟩:=R.fz j d e;obtain⟨hn,w⟩:=NJ w;exact ⟨v,e1,n _ H F _ (Sub.refl _) (R.asg (s:=.fz d) hn h1) w⟩
 .rename_i d e;obtain⟨v,e1,h1⟩:=R.forgetRes e;obtain⟨hn,w⟩:=NJ w;exact ⟨v,e1,n _ H F _ (Sub.refl _) ((R.forget e).asg (s:=.ow d) hn h1) w⟩
 .exact w.elim
end
noncomputable abbrev jJ:=D->Ev->(Ev->Prop)->Prop
def YQ(K:Fg)(g:jJ):TG:=λv σ H Q=>∃(G:Gh) (F:Hp) (ρ:Ev) (d:D) (Qd:Ev->Prop),Rel K G F σ H ρ/\Da K F v d/\g d ρ Qd/\∀σ' ρ',Rel K G F σ' H ρ'->Qd ρ'->Q σ' H
noncomputable def UE(i:Nat):jJ:=λd ρ Q=>match ρ[i]? with
 |some (some (.io _))=>False
 |some _=>Q (ρ.set i (some (.fz d)))
 |none=>False
noncomputable def lN:List jJ->List D->Ev->(Ev->Prop)->Prop
 |[],[],ρ,Q=>Q ρ
 |g::gs,d::ds,ρ,Q=>g d ρ λρ'=>lN gs ds ρ' Q
 |_,_,_,_=>False
noncomputable def yM(gs:List jJ):jJ:=λd ρ Q=>match d with
 | .tuple ds=>ds.length=gs.length/\lN gs ds ρ Q
 |_=>False
noncomputable def YW:List TG->tw
 |[]=>iI
 |g::gs=>ku g (YW gs)
section
variable {K:Fg}{σ:L2.St}{v:V}{Q:L2.St->Hp->Prop}
def mN(h:YQ K (UE i) v σ H Q):oJ i v σ H Q:=by obtain⟨G,F,ρ,d,Qd,R,hd,w,k⟩:=h;obtain⟨hn,w⟩:=NJ w;exact k _ _ (R.asg (s:=.fz d) hn hd) w
theorem NI{G:Gh}{F:Hp}:∀{gs:List jJ}{ds:List D}{vs:List V}{σ:L2.St}{ρ:Ev}{Qd:Ev->Prop},Rel K G F σ H ρ->DaAll K F vs ds->lN gs ds ρ Qd->(∀σ' ρ',Rel K G F σ' H ρ'->Qd ρ'->Q σ' H)->YW (gs.map (YQ K)) vs σ H Q
 |[],[],_,σ,ρ,Qd,R,.nil,w,k=>⟨rfl,k σ ρ R w⟩
 |g::gs,d::ds,_,σ,ρ,Qd,R,.cons h t,w,k=>⟨_,_,rfl,G,F,ρ,d,_,R,h,w,λσ' ρ' R' w'=>NI (gs:=gs) R' t w' k⟩
 |[],_::_,_,σ,ρ,Qd,R,_,w,k=>by exact w.elim
 |_::_,[],_,σ,ρ,Qd,R,_,w,k=>by exact w.elim
def nN(hn:gs.length=n)(h:YQ K (yM gs) v σ H Q):Lw K n (YW (gs.map (YQ K))) v σ H Q:=by
 obtain⟨G,F,ρ,d,Qd,R,hd,w,k⟩:=h;unfold yM at w;split at w
 .cases hd with
  |tup e t=>exact ⟨_,_,rfl,SqT.of (R.sub _ _ e),by rw[t.length,w.1,hn],NI R t w.2 k⟩
 .exact w.elim
end
def Walks(K:Fg)(J:It)(F:Hp)(ds:List D):Prop:=∀(i:Nat) (H F1:Hp),Sub F F1->Sub F1 H ->
 (∀d,ds[i]?=some d->J.go i H/\∀x H',J.yld i H x H'->∃F2,Sub F1 F2/\(∀b o,F2 b=some o->F1 b=some o\/H b=none)/\Sub F2 H'/\Sub H H'/\Da K F2 x d)/\(ds.length=i->J.stop i H)
noncomputable abbrev UU:=Ev->(List D->Ev->Prop)->Prop
def kX(K:Fg)(ti:UU):TI:=λσ H R=>∃(G:Gh) (F:Hp) (ρ:Ev) (Qd:List D->Ev->Prop),Rel K G F σ H ρ/\ti ρ Qd /\
 ∀J H' F' ds ρ',Sub F F'->Rel K G F' σ H' ρ'->Walks K J F' ds->Qd ds ρ'->R J H'
def Rel.turn{K:Fg}(R:Rel K G F σ H ρ)(s:Sub F F2)(n:∀b o,F2 b=some o->F b=some o\/H b=none)(s2:Sub F2 H')(s3:Sub H H'):Rel K G F2 σ H' ρ where
 len:=R.len
 sub:=s2
 sub0:=R.sub0.trans s
 fn:=λb o e=>by
  rcases n b o e with q|q
  .exact R.fn b o q
  .exact .inr (R.h0 q)
 keep:=λa o e m t=>s3 _ _ (R.keep a o e m t)
 tb:=R.tb.up (λ_ _ _ e=>s3 _ _ e) λz hz=>by
  obtain⟨e1,ps,e2,_⟩:=R.tb z hz;cases q:F2 z.1 with
  |none=>rfl
  |some u =>
   rcases n _ u q with y|y
   .rw[e1]at y;cases y
   .rw[e2]at y;cases y
 fz:=λi d e=>by obtain⟨v,h1,h2⟩:=R.fz i d e;exact ⟨v,h1,h2.mono s⟩
 ow:=λi t e w=>by
  obtain⟨a,o,h1,h2,h3,h4⟩:=R.ow i t e w;refine ⟨a,o,h1,?_,s3 _ _ h3,h4.mono s⟩;cases q:F2 a with
  |none=>rfl
  |some u =>
   rcases n a u q with z|z
   .rw[h2]at z;cases z
   .rw[h3]at z;cases z
 new:=R.new
 io:=R.io
 ioi:=R.ioi
 ap:=R.ap
def kW{l:List α}{x:α}(h:l[i]?=some x):l.drop i=x::l.drop (i+1):=by obtain⟨hl,rfl⟩:=S0.mp h;exact W1 hl
noncomputable def mv:Option Sl->Option Sl
 |some (.ow d)=>some (.io d)
 |x=>x
noncomputable def ZZ(own:List Str)(fr:List Nat)(ρ:Ev):Ev:=own.map (λ_=>none)++fr.map λi=>mv ((ρ[i]?).getD none)
noncomputable def nv:Option Sl->Option (Option Sl)->Option Sl
 |some (.ow d),some (some (.io d'))=>some (.ow d')
 |some (.io d),some (some (.io d'))=>some (.io d')
 |x,_=>x
noncomputable def fY(fr:List Nat)(τ:Ev):Nat->Ev->Ev
 |_,[]=>[]
 |j,x::ρ=>nv x ((fr.zip τ).lookup j)::fY fr τ (j+1) ρ
theorem lW(fr:List Nat)(τ:Ev):∀(ρ:Ev) (j i:Nat),(fY fr τ j ρ)[i]?=(ρ[i]?).map λx=>nv x ((fr.zip τ).lookup (j+i))
 |[],j,i=>by simp[fY]
 |x::ρ,j,0=>by simp[fY]
 |x::ρ,j,i+1=>by have:=lW fr τ ρ (j+1) i;simp only[fY,X3];rw[this,show j+1+i=j+(i+1) by lia]
theorem VU(fr:List Nat)(τ:Ev):∀(ρ:Ev) (j:Nat),(fY fr τ j ρ).length=ρ.length
 |[],_=>rfl
 |x::ρ,j=>by simp[fY,VU fr τ ρ (j+1)]
theorem mW:∀{fr:List Nat}{τ:Ev}{k i:Nat}{x:Option Sl},fr.Nodup->fr[k]?=some i->τ[k]?=some x->(fr.zip τ).lookup i=some x
 |[],_,_,_,_,_,e,_=>by simp at e
 |j::fr,[],_,_,_,_,_,e=>by simp at e
 |j::fr,y::τ,0,i,x,_,e,e'=>by simp at e e';subst e e';simp[J7]
 |j::fr,y::τ,k+1,i,x,nd,e,e'=>by
  have nd':=T3.mp nd;simp at e e';have hm:i∈fr:=B1 e;have ne:(i==j)=false:=by simp;intro z;subst z;exact nd'.1 hm
  simp[J7,ne];exact mW nd'.2 e e'
theorem xJ:∀{fr:List Nat}{τ:Ev}{i:Nat}{x:Option Sl},(fr.zip τ).lookup i=some x->∃k:Nat,fr[k]?=some i/\τ[k]?=some x
 |[],_,_,_,e=>by simp at e
 |j::fr,[],_,_,e=>by simp at e
 |j::fr,y::τ,i,x,e=>by
  by_cases z:i=j
  .subst z;simp[J7]at e;subst e;exact ⟨0,by simp,by simp⟩
  .have ne:(i==j)=false:=by simp[z]
   simp[J7,ne]at e;obtain⟨k,h1,h2⟩:=xJ e;exact ⟨k+1,by simpa using h1,by simpa using h2⟩
noncomputable def yj(σ:L2.St)(ρ:Ev)(i:Nat):Option Addr:=match ρ[i]?,σ[i]? with
 |some (some s),some (some (.ref a))=>if PQ s=true then some a else none
 |_,_=>none
def xq(h:yj σ ρ i=some a):∃s,ρ[i]?=some (some s)/\PQ s=true/\σ[i]?=some (some (V.ref a)):=by
 unfold yj at h;split at h
 .rename_i s b e1 e2;split at h
  .rename_i w;cases h;exact ⟨s,e1,w,e2⟩
  .cases h
 .cases h
def qv{s:Sl}(h1:ρ[i]?=some (some s))(h2:PQ s=true)(h3:σ[i]?=some (some (V.ref a))):yj σ ρ i=some a:=by unfold yj;rw[h1,h3];simp[h2]
noncomputable def uw(own:List Str)(fr:List Nat)(F H:Hp)(σ:L2.St)(ρ:Ev):Gh:=⟨H,F,λj=>if own.length<=j then (match fr[j-own.length]? with|some i=>yj σ ρ i|none=>none) else none⟩
def gG(h:(uw own fr F H σ ρ).io j=some a):∃k i s,j=own.length+k/\fr[k]?=some i/\ρ[i]?=some (some s)/\PQ s=true/\σ[i]?=some (some (V.ref a)):=by
 unfold uw at h;simp only at h;split at h
 .rename_i hl;split at h
  .rename_i i e;obtain⟨s,h1,h2,h3⟩:=xq h;exact ⟨j-own.length,i,s,by lia,e,h1,h2,h3⟩
  .cases h
 .cases h
def iG{s:Sl}(h0:fr[k]?=some i)(h1:ρ[i]?=some (some s))(h2:PQ s=true)(h3:σ[i]?=some (some (V.ref a))):(uw own fr F H σ ρ).io (own.length+k)=some a:=by unfold uw;simp only;rw[if_pos (E2 _ _),L5,h0];exact qv h1 h2 h3
def yq{own:List Str}(h:(own.map (λ_=>(none:Option α))++fr.map f)[j]?=some (some x)):∃k i,j=own.length+k/\fr[k]?=some i/\f i=some x:=by
 by_cases hl:j<own.length
 .rw[J2 (by simpa using hl)]at h;simp at h
 .rw[P1 (by simpa using R7 hl)]at h;simp at h;obtain⟨i,h1,h2⟩:=h;exact ⟨j-own.length,i,by lia,h1,h2⟩
def WU{own:List Str}(h:fr[k]?=some i):(own.map (λ_=>(none:Option α))++fr.map f)[own.length+k]?=some (f i):=by rw[P1 (by simp)];simp[h]
def zj{s:Sl}(h:mv x=some s):∃s0,x=some s0/\((∃d,s0=.fz d/\s=.fz d)\/(PQ s0=true/\s=.io s0.d)):=by
 cases x with
 |none=>cases h
 |some s0 =>
  cases s0 with
  |fz d=>cases h;exact ⟨_,rfl,.inl ⟨d,rfl,rfl⟩⟩
  |ow d=>cases h;exact ⟨_,rfl,.inr ⟨rfl,rfl⟩⟩
  |io d=>cases h;exact ⟨_,rfl,.inr ⟨rfl,rfl⟩⟩
def getD_some{o:Option (Option α)}{x:α}(h:o.getD none=some x):o=some (some x):=by
 cases o with
 |none=>cases h
 |some y=>simp at h;rw[h]
section
variable {K:Fg}{G:Gh}{F F':Hp}{σ τ:L2.St}{ρ μ:Ev}{own:List Str}
def GX{s:Sl}(h:(ZZ own fr ρ)[j]?=some (some s)):∃k i s0,j=own.length+k/\fr[k]?=some i/\ρ[i]?=some (some s0)/\((∃d,s0=.fz d/\s=.fz d)\/(PQ s0=true/\s=.io s0.d)):=by obtain⟨k,i,h1,h2,h3⟩:=yq h;obtain⟨s0,h4,h5⟩:=zj h3;exact ⟨k,i,s0,h1,h2,getD_some h4,h5⟩
def gY(h:fr[k]?=some i):(Zw own σ fr)[own.length+k]?=some ((σ[i]?).getD none):=WU (f:=λi=>(σ[i]?).getD none) h
def zq(h:fr[k]?=some i):(ZZ own fr ρ)[own.length+k]?=some (mv ((ρ[i]?).getD none)):=WU (f:=λi=>mv ((ρ[i]?).getD none)) h
def Aj(nd:fr.Nodup){k l i:Nat}(a:fr[k]?=some i)(b:fr[l]?=some i):k=l:=by obtain⟨h1,e1⟩:=S0.mp a;obtain⟨h2,e2⟩:=S0.mp b;exact (U6 nd).mp (e1.trans e2.symm)
def Rel.inner(R:Rel K G F σ H ρ)(nd:fr.Nodup):Rel K (uw own fr F H σ ρ) F (Zw own σ fr) H (ZZ own fr ρ) where
 len:=by simp[Zw,yB,ZZ]
 sub:=R.sub
 sub0:=Sub.refl _
 fn:=λ_ _ e=>.inl e
 keep:=λ_ _ e _ _=>e
 tb:=R.tb
 fz:=λj d e=>by
  obtain⟨k,i,s0,rfl,h2,h3,h4⟩:=GX e;rcases h4 with⟨d0,rfl,z⟩|⟨_,z⟩
  .cases z;obtain⟨v,e1,e2⟩:=R.fz i d h3;exact ⟨v,by rw[gY h2,e1];rfl,e2⟩
  .cases z
 ow:=λj s e w=>by
  obtain⟨k,i,s0,rfl,h2,h3,h4⟩:=GX e;rcases h4 with⟨d0,rfl,z⟩|⟨w0,z⟩
  .cases z;cases w
  .cases z;obtain⟨a,o,e1,e2,e3,e4⟩:=R.ow i s0 h3 w0;exact ⟨a,o,by rw[gY h2,e1];rfl,e2,e3,e4⟩
 new:=λj d a e _=>by obtain⟨k,i,s0,rfl,h2,h3,h4⟩:=GX e;rcases h4 with⟨d0,rfl,z⟩|⟨w0,z⟩<;>cases z
 io:=λj a e=>by obtain⟨k,i,s,rfl,h1,h2,h3,h4⟩:=gG e;refine ⟨s.d,?_,by rw[gY h1,h4];rfl⟩;rw[zq h1,h2];cases s<;>first|rfl|cases h3
 ioi:=λj d e=>by
  obtain⟨k,i,s0,rfl,h2,h3,h4⟩:=GX e;rcases h4 with⟨d0,rfl,z⟩|⟨w0,z⟩
  .cases z
  .obtain⟨a,o,e1,_⟩:=R.ow i s0 h3 w0;exact ⟨a,iG h2 h3 w0 e1⟩
 ap:=λj l s t a e1 w1 e2 w2 e3 e4=>by
  obtain⟨k,i,s0,rfl,h2,h3,h4⟩:=GX e1;obtain⟨k',i',s0',rfl,h2',h3',h4'⟩:=GX e2;have p1:PQ s0=true:=by
   rcases h4 with⟨d0,rfl,z⟩|⟨w0,z⟩
   .subst z;cases w1
   .exact w0
  have p2:PQ s0'=true:=by
   rcases h4' with⟨d0,rfl,z⟩|⟨w0,z⟩
   .subst z;cases w2
   .exact w0
  rw[gY h2]at e3;rw[gY h2']at e4;have q:=R.ap i i' s0 s0' a h3 p1 h3' p2 (getD_some (O1 e3)) (getD_some (O1 e4));subst q;rw[Aj nd h2 h2']
def yJ(R:Rel K G F σ H ρ)(R':Rel K (uw own fr F H σ ρ) F' τ H' μ)(nd:fr.Nodup){i:Nat}{s:Sl}(h:(fY fr (μ.drop own.length) 0 ρ)[i]?=some (some s)):∃s0,ρ[i]?=some (some s0)/\((s=s0/\(PQ s0=true->i∉fr))\/(PQ s0=true/\∃k d',fr[k]?=some i/\μ[own.length+k]?=some (some (Sl.io d'))/\s=s0.put d')):=by
 rw[lW]at h;cases e:ρ[i]? with
 |none=>rw[e]at h;cases h
 |some x =>
  rw[e]at h;simp only[M4,J6]at h;have h:=O1 h;cases x with
  |none=>simp[nv]at h
  |some s0 =>
   refine ⟨s0,rfl,?_⟩;by_cases w0:PQ s0=true
   .by_cases hm:i∈fr
    .obtain⟨k,hk⟩:=Z3.mp hm;obtain⟨a,o,e1,_⟩:=R.ow i s0 e w0;obtain⟨d',g1,g2⟩:=R'.io _ _ (iG (own:=own) (F:=F) (H:=H) hk e w0 e1);have z:=mW (τ:=μ.drop own.length) nd hk (by rw[V8];exact g1);rw[z]at h;refine .inr ⟨w0,k,d',hk,g1,?_⟩;cases s0 with
     |fz d=>cases w0
     |ow d=>simp[nv]at h;exact h.symm
     |io d=>simp[nv]at h;exact h.symm
    .refine .inl ⟨?_,λ_=>hm⟩;have z:(fr.zip (μ.drop own.length)).lookup i=none:=by
      cases q:(fr.zip (μ.drop own.length)).lookup i with
      |none=>rfl
      |some y=>obtain⟨k,h1,_⟩:=xJ q;exact (hm (B1 h1)).elim
     rw[z]at h;cases s0 with
     |fz d=>cases w0
     |ow d=>simp[nv]at h;exact h.symm
     |io d=>simp[nv]at h;exact h.symm
   .refine .inl ⟨?_,λz=>(w0 z).elim⟩;cases s0 with
    |fz d=>simp[nv]at h;exact h.symm
    |ow d=>exact (w0 rfl).elim
    |io d=>exact (w0 rfl).elim
def QB(x:Option (Option Sl)):∃d',nv (some (.io d)) x=some (.io d'):=by
 rcases x with _|_|(d'|d'|d')
 .exact ⟨d,rfl⟩
 .exact ⟨d,rfl⟩
 .exact ⟨d,rfl⟩
 .exact ⟨d,rfl⟩
 .exact ⟨d',rfl⟩
def Rel.outer(R:Rel K G F σ H ρ)(R':Rel K (uw own fr F H σ ρ) F' τ H' μ)(nd:fr.Nodup):Rel K G F' σ H' (fY fr (μ.drop own.length) 0 ρ):=by
 have sb:Sub F F':=R'.sub0;have owns:∀{i:Nat}{s:Sl},(fY fr (μ.drop own.length) 0 ρ)[i]?=some (some s)->PQ s=true->∃s0,ρ[i]?=some (some s0)/\PQ s0=true:=λ{i s} e w=>by
  obtain⟨s0,h1,h2⟩:=yJ R R' nd e;rcases h2 with⟨rfl,_⟩|⟨w0,_⟩
  .exact ⟨s,h1,w⟩
  .exact ⟨s0,h1,w0⟩
 refine ⟨by rw[VU];exact R.len,R'.sub,R.sub0.trans sb,λa o e=>?_,λa o e n t=>?_,R'.tb,λi d e=>?_,λi s e w=>?_,λi d a e ea=>?_,λi a e=>?_,λi d e=>?_,λi j s t a e1 w1 e2 w2 e3 e4=>?_⟩
 .rcases R'.fn a o e with q|q
  .exact R.fn a o q
  .exact .inr (R.h0 q)
 .refine R'.keep a o (R.keep a o e n t) (λj z=>?_) t;obtain⟨k,i,s,rfl,h1,h2,h3,h4⟩:=gG z;cases s with
  |fz d=>cases h3
  |ow d=>rw[R.new i d a h2 h4]at e;cases e
  |io d=>obtain⟨a',g⟩:=R.ioi i d h2;obtain⟨_,_,g2⟩:=R.io i a' g;rw[h4]at g2;cases g2;exact n i g
 .obtain⟨s0,h1,h2⟩:=yJ R R' nd e;rcases h2 with⟨rfl,_⟩|⟨w0,k,d',_,_,z⟩
  .obtain⟨v,g1,g2⟩:=R.fz i d h1;exact ⟨v,g1,g2.mono sb⟩
  .cases s0<;>simp[Sl.put,PQ]at z w0
 .obtain⟨s0,h1,h2⟩:=yJ R R' nd e;rcases h2 with⟨rfl,hm⟩|⟨w0,k,d',hk,hd,rfl⟩
  .obtain⟨a,o,g1,g2,g3,g4⟩:=R.ow i s h1 w;have nio:∀j,(uw own fr F H σ ρ).io j≠some a:=λj z=>by
    obtain⟨k,i',s',rfl,q1,q2,q3,q4⟩:=gG z;have:=R.ap i i' s s' a h1 w q2 q3 g1 q4;subst this;exact hm w (B1 q1)
   refine ⟨a,o,g1,?_,R'.keep a o g3 nio (R.tb.ne λu z=>by rw[g3]at z;cases z;exact g4.stk),g4.mono sb⟩;cases q:F' a with
   |none=>rfl
   |some u =>
    rcases R'.fn a u q with z|z
    .have z:F a=some u:=z;rw[g2]at z;cases z
    .have z:H a=none:=z;rw[g3]at z;cases z
  .obtain⟨a,o,g1,g2,g3,g4⟩:=R.ow i s0 h1 w0;obtain⟨d2,q1,q2⟩:=R'.io _ _ (iG (own:=own) (F:=F) (H:=H) hk h1 w0 g1);obtain⟨a',o',p1,p2,p3,p4⟩:=R'.ow _ _ hd rfl;rw[q2]at p1;cases p1;exact ⟨a,o',g1,p2,p3,by cases s0<;>first|exact p4|cases w0⟩
 .obtain⟨s0,h1,h2⟩:=yJ R R' nd e;rcases h2 with⟨rfl,_⟩|⟨w0,k,d',_,_,z⟩
  .exact R.new i d a h1 ea
  .cases s0 with
   |fz d=>cases w0
   |ow d0=>exact R.new i d0 a h1 ea
   |io d0=>cases z
 .obtain⟨d,h1,h2⟩:=R.io i a e;obtain⟨d',hd⟩:=QB (d:=d) ((fr.zip (μ.drop own.length)).lookup i);exact ⟨d',by rw[lW,h1];simp only[M4,J6];rw[hd],h2⟩
 .obtain⟨s0,h1,h2⟩:=yJ R R' nd e;rcases h2 with⟨rfl,_⟩|⟨w0,k,d',_,_,z⟩
  .exact R.ioi i d h1
  .cases s0 with
   |fz d=>cases w0
   |ow d0=>cases z
   |io d0=>exact R.ioi i d0 h1
 .obtain⟨s0,g1,g2⟩:=owns e1 w1;obtain⟨t0,g3,g4⟩:=owns e2 w2;exact R.ap i j s0 t0 a g1 g2 g3 g4 e3 e4
end
noncomputable abbrev Con:=List Sl->(Sl->Ev->Prop)->Prop
noncomputable def dQ(K:Fg)(con:Con):Sp:=λvs H Q _=>∃(G:Gh) (F:Hp) (args:List Sl) (Qd:Sl->Ev->Prop),Rel K G F (vs.map some) H (args.map some)/\con args Qd /\
 ∀v H' F' r ρ',Sub F F'->Rel K G F' (vs.map some) H' ρ'->Res K G F' H' (vs.map some) ρ' v r->Qd r ρ'->Q v H'
mutual
noncomputable def noMut:D->Bool
 | .none=>true
 | .bool _=>true
 | .int _=>true
 | .str _=>true
 | .tuple xs=>noMutAll xs
 | .list _=>false
 | .dict _=>false
noncomputable def noMutAll:List D->Bool
 |[]=>true
 |x::xs=>noMut x&&noMutAll xs
end
theorem LQ:∀ns:Qa,noMutAll (ns.map j0)=true
 |[]=>rfl
 |n::ns=>by simp[noMutAll,noMut,LQ ns]
section
variable {K:Fg}{F F':Hp}
def Da.noMut(h:∀b xs,F b=some (.tup xs)->F' b=some (.tup xs)){v:V}{d:D}(q:Da K F v d):L3.noMut d=true->Da K F' v d:=by refine Da.rec (motive_1:=λv d _=>L3.noMut d=true->Da K F' v d) (motive_2:=λv d _=>noMutAll d=true->DaAll K F' v d) (motive_3:=λ_ _ _=>True) (motive_4:=λ_ _ _=>True) (motive_5:=λ_ _ _=>True) (motive_6:=λ_ _ _=>True) (λ_=>.non) (λb _=>.bl b) (λi _=>.int i) (λx _=>.str x) (λ_ _ _ z=>nomatch z) (λe _ t z=>.tup (h _ _ e) (t z)) (λ_ _ _ z=>nomatch z) (λ_ _ _ z=>nomatch z) (λ_ z=>nomatch z) (λ_ z=>nomatch z) (λ_ z=>nomatch z) (λ_ _ _ z=>nomatch z) (λ_ _ _ z=>nomatch z) (λ_ _ _ z=>nomatch z) (λ_=>.nil) (λ_ _ a t z=>.cons (a (Y3.mp z).1) (t (Y3.mp z).2)) ?_ ?_ ?_ ?_ ?_ ?_ ?_ ?_ q<;>intros<;>trivial
def DaAll.noMut(h:∀b xs,F b=some (.tup xs)->F' b=some (.tup xs)){xs:List V}{ds:List D}(q:DaAll K F xs ds):noMutAll ds=true->DaAll K F' xs ds:=by refine DaAll.rec (motive_1:=λ_ _ _=>True) (motive_2:=λv d _=>noMutAll d=true->DaAll K F' v d) (motive_3:=λ_ _ _=>True) (motive_4:=λ_ _ _=>True) (motive_5:=λ_ _ _=>True) (motive_6:=λ_ _ _=>True) ?_ ?_ ?_ ?_ ?_ ?_ ?_ ?_ ?_ ?_ ?_ ?_ ?_ ?_ (λ_=>.nil) (λa _ _ t z=>.cons (a.noMut h (Y3.mp z).1) (t (Y3.mp z).2)) ?_ ?_ ?_ ?_ ?_ ?_ ?_ ?_ q<;>intros<;>trivial
end
noncomputable def NQ(ρ:Ev):List wV->Bool
 |[]=>false
 | .inr _::xs=>NQ ρ xs
 | .inl i::xs=>(match ρ[i]? with|some (some s)=>PQ s|_=>false)||NQ ρ xs
def xV(con:Con)(as:List AD):TD:=λρ Q=>nX as ρ λxs ρ1=>JQ ρ1 xs λds=>con (ds.map Sl.fz) λr _=>match NQ ρ1 xs with
 |false=>Q r ρ1
 |true=>noMut r.d=true/\Q r ρ1
def Bj(con:Con)(i:Nat)(xs:List wV)(ρ1:Ev)(Q:Sl->Ev->Prop):Prop:=match ρ1[i]? with
 |some (some s)=>match PQ s,NQ ρ1 xs with
  |true,false=>JQ ρ1 xs λds=>con (.io s.d::ds.map Sl.fz) λr outs=>match outs with
   |some (.io d')::_=>Q r (ρ1.set i (some (s.put d')))
   |_=>False
  |_,_=>False
 |_=>False
def eU(con:Con)(i:Nat)(as:List AD):TD:=λρ Q=>nX (.inl i::as) ρ λxs ρ1=>Bj con i xs.tail ρ1 Q
def LentA(σ:L2.St)(ρ:Ev)(xs:List wV)(a:Addr):Prop:=∃(i:Nat) (s:Sl),Sum.inl i∈xs/\ρ[i]?=some (some s)/\PQ s=true/\σ[i]?=some (some (V.ref a))
theorem aJ{σ:L2.St}{ρ:Ev}:∀{xs:List wV}{a:Addr},LentA σ ρ xs a->NQ ρ xs=true
 |[],a,⟨i,s,h,_⟩=>by cases h
 | .inr d::xs,a,⟨i,s,h,h1,h2,h3⟩=>by
  rcases Y0.mp h with h|h
  .cases h
  .exact aJ (xs:=xs) ⟨i,s,h,h1,h2,h3⟩
 | .inl j::xs,a,⟨i,s,h,h1,h2,h3⟩=>by
  unfold NQ;rcases Y0.mp h with h|h
  .cases h;rw[h1];simp[h2]
  .rw[aJ (xs:=xs) ⟨i,s,h,h1,h2,h3⟩];simp
open Classical in
noncomputable def PX(σ:L2.St)(ρ:Ev)(xs:List wV)(F H:Hp):Hp:=λb=>if LentA σ ρ xs b then H b else F b
open Classical in
noncomputable def zX(σ:L2.St)(ρ:Ev)(xs:List wV)(F:Hp):Hp:=λb=>if LentA σ ρ xs b then none else F b
section
variable {K:Fg}{G:Gh}{F F':Hp}{σ:L2.St}{ρ:Ev}{xs:List wV}
def KZ(h:¬LentA σ ρ xs b):PX σ ρ xs F H b=F b:=by unfold PX;rw[if_neg h]
def OJ(h:LentA σ ρ xs b):PX σ ρ xs F H b=H b:=by unfold PX;rw[if_pos h]
def HX(h:¬LentA σ ρ xs b):zX σ ρ xs F b=F b:=by unfold zX;rw[if_neg h]
def Aq(h:LentA σ ρ xs b):zX σ ρ xs F b=none:=by unfold zX;rw[if_pos h]
def LentA.own(R:Rel K G F σ H ρ){b:Addr}(h:LentA σ ρ xs b):∃(i:Nat) (s:Sl) (o:HO),ρ[i]?=some (some s)/\PQ s=true/\σ[i]?=some (some (V.ref b))/\F b=none/\H b=some o/\Own1 K F o s.d:=by obtain⟨i,s,_,h1,h2,h3⟩:=h;obtain⟨a,o,g1,g2,g3,g4⟩:=R.ow i s h1 h2;rw[h3]at g1;cases g1;exact ⟨i,s,o,h1,h2,h3,g2,g3,g4⟩
def aZ(R:Rel K G F σ H ρ):Sub F (PX σ ρ xs F H):=λb o e=>by
 have n:¬LentA σ ρ xs b:=λz=>by obtain⟨_,_,_,_,_,_,h,_⟩:=z.own R;rw[h]at e;cases e
 rw[KZ n];exact e
def PY(R:Rel K G F σ H ρ):Sub (PX σ ρ xs F H) H:=λb o e=>by
 by_cases z:LentA σ ρ xs b
 .rw[OJ z]at e;exact e
 .rw[KZ z]at e;exact R.sub _ _ e
def fU(R:Rel K G F σ H ρ):TabOk K (PX σ ρ xs F H) H:=R.tb.up (λ_ _ _ e=>e) λz hz=>by
 obtain⟨e1,ps,e2,_⟩:=R.tb z hz;have n:¬LentA σ ρ xs z.1:=λy=>by obtain⟨_,_,o,_,_,_,_,h,w⟩:=y.own R;rw[e2]at h;cases h;exact w
 rw[KZ n];exact e1
def jK(R:Rel K G F σ H ρ){ys:List wV}{vs:List V}{k:List D->Prop}(m:∀y∈ys,y∈xs)(o:OpdsAt K F σ vs ys)(h:JQ ρ ys k):∃ds,DaAll K (PX σ ρ xs F H) vs ds/\k ds:=by
 induction o generalizing k with
 |nil=>exact ⟨[],.nil,h⟩
 |@cons v x vs ys o t ih =>
  cases x with
  |inr d=>obtain⟨ds,a,q⟩:=ih (k:=λds=>k (d::ds)) (λy hy=>m y (K0 _ hy)) h;exact ⟨d::ds,.cons (Da.mono (aZ R) o) a,q⟩
  |inl i =>
   unfold JQ at h;split at h
   .rename_i s e;obtain⟨ds,a,q⟩:=ih (k:=λds=>k (s.d::ds)) (λy hy=>m y (K0 _ hy)) h;refine ⟨s.d::ds,.cons ?_ a,q⟩;have o:σ[i]?=some (some v):=o;have own:PQ s=true->Da K (PX σ ρ xs F H) v s.d:=λw=>by
     obtain⟨b,u,h1,h2,h3,h4⟩:=R.ow i s e w;rw[o]at h1;cases h1;have l:LentA σ ρ xs b:=⟨i,s,m _ R0,e,w,o⟩;exact (h4.mono (aZ R)).da (by rw[OJ l];exact h3)
    cases s with
    |fz d=>obtain⟨v,e1,e2⟩:=R.fz i d e;rw[o]at e1;cases e1;exact e2.mono (aZ R)
    |ow d=>exact own rfl
    |io d=>exact own rfl
   .exact h.elim
def iY{o:HO}(h:Own1 K F o d):noMut d=false:=by
 cases o with
 |ext φ=>rcases h.ext with⟨a',ep,xs,ps,z,rfl,t⟩|⟨a',ep,xs,ps,z,rfl,t⟩<;>rfl
 |_=>cases d<;>first|rfl|exact h.elim
def FZ{ds:List D}{i:Nat}{s:Sl}(h:((ds.map Sl.fz).map some)[i]?=some (some s)):∃d,ds[i]?=some d/\s=.fz d:=by
 rw[O0,Q0]at h;cases e:ds[i]? with
 |none=>rw[e]at h;cases h
 |some d=>rw[e]at h;cases h;exact ⟨d,rfl,rfl⟩
def RB{vs:List V}{i:Nat}(h:vs[i]?=some v):(vs.map some)[i]?=some (some v):=by rw[Q0,h];rfl
def zJ(s:Sub F H)(tb:TabOk K F H)(da:DaAll K F vs ds):Rel K ⟨H,F,λ_=>none⟩ F (vs.map some) H ((ds.map Sl.fz).map some) where
 len:=by simp[da.length]
 sub:=s
 sub0:=Sub.refl _
 fn:=λ_ _ e=>.inl e
 keep:=λ_ _ e _ _=>e
 tb:=tb
 fz:=λi d e=>by obtain⟨d',e1,e2⟩:=FZ e;cases e2;obtain⟨v,h1,h2⟩:=da.get e1;exact ⟨v,RB h1,h2⟩
 ow:=λi s e w=>by obtain⟨d',e1,rfl⟩:=FZ e;cases w
 new:=λi d a e _=>by obtain⟨d',e1,e2⟩:=FZ e;cases e2
 io:=λi a e=>by cases e
 ioi:=λi d e=>by obtain⟨d',e1,e2⟩:=FZ e;cases e2
 ap:=λi j s t a e w _ _ _ _=>by obtain⟨d',e1,rfl⟩:=FZ e;cases w
def Rel.called(R:Rel K G F σ H ρ){σ1:L2.St}{ρ1:Ev}(R':Rel K ⟨H,PX σ ρ xs F H,λ_=>none⟩ F' σ1 H' ρ1):Sub F (zX σ ρ xs F')/\Rel K G (zX σ ρ xs F') σ H' ρ:=by
 have nl:∀{b:Addr}{o:HO},F b=some o->¬LentA σ ρ xs b:=λ{b o} e z=>by obtain⟨_,_,_,_,_,_,h,_⟩:=z.own R;rw[h]at e;cases e
 have sb:Sub F (zX σ ρ xs F'):=λb o e=>by rw[HX (nl e)];exact R'.sub0 _ _ (aZ R _ _ e)
 have ul:∀{b:Addr}{o:HO},zX σ ρ xs F' b=some o->¬LentA σ ρ xs b/\F' b=some o:=λ{b o} e=>by
  by_cases z:LentA σ ρ xs b
  .rw[Aq z]at e;cases e
  .rw[HX z]at e;exact ⟨z,e⟩
 have kp:∀{b:Addr}{o:HO},(∀z∈TB K,z.1≠b)->H b=some o->H' b=some o:=λ{b o} t e=>R'.keep b o e (λi z=>by cases z) t;refine ⟨sb,R.len,λb o e=>R'.sub _ _ (ul e).2,R.sub0.trans sb,λb o e=>?_,λa o e n t=>kp t (R.keep a o e n t),R'.tb.up (λ_ _ _ e=>e) λz hz=>?_,λi d e=>?_,λi s e w=>?_,R.new,R.io,R.ioi,R.ap⟩
 .obtain⟨n,e⟩:=ul e;rcases R'.fn b o e with q|q
  .have q:PX σ ρ xs F H b=some o:=q;rw[KZ n]at q;exact R.fn b o q
  .exact .inr (R.h0 q)
 .cases q:zX σ ρ xs F' z.1 with
  |none=>rfl
  |some u=>have:=(ul q).2;rw[(R'.tb z hz).1]at this;cases this
 .obtain⟨v,h1,h2⟩:=R.fz i d e;exact ⟨v,h1,h2.mono sb⟩
 .obtain⟨a,o,h1,h2,h3,h4⟩:=R.ow i s e w;refine ⟨a,o,h1,?_,kp (R.tb.ne λu z=>by rw[h3]at z;cases z;exact h4.stk) h3,h4.mono sb⟩;cases q:zX σ ρ xs F' a with
  |none=>rfl
  |some u =>
   obtain⟨n,q⟩:=ul q;rcases R'.fn a u q with z|z
   .have z:PX σ ρ xs F H a=some u:=z;rw[KZ n,h2]at z;cases z
   .have z:H a=none:=z;rw[h3]at z;cases z
def Res.called(R:Rel K G F σ H ρ){σ1:L2.St}{ρ1:Ev}{v:V}{r:Sl}(R':Rel K ⟨H,PX σ ρ xs F H,λ_=>none⟩ F' σ1 H' ρ1)(q:Res K ⟨H,PX σ ρ xs F H,λ_=>none⟩ F' H' σ1 ρ1 v r)(hl:NQ ρ xs=true->noMut r.d=true):Res K G (zX σ ρ xs F') H' σ ρ v r:=by
 have tp:∀b ys,F' b=some (.tup ys)->zX σ ρ xs F' b=some (.tup ys):=λb ys e=>by
  have n:¬LentA σ ρ xs b:=λz=>by obtain⟨_,_,o,_,_,_,_,h,w⟩:=z.own R;have e2:=R'.sub0 b o (by show PX σ ρ xs F H b=some o;rw[OJ z];exact h);rw[e]at e2;cases e2;exact w
  rw[HX n];exact e
 by_cases l:NQ ρ xs=true
 .cases r with
  |fz d=>exact Da.noMut tp q (hl l)
  |ow d=>obtain⟨a,o,_,_,_,w,_⟩:=q;have:=hl l;rw[show (Sl.ow d).d=d from rfl,iY w]at this;cases this
  |io d=>exact q.elim
 .have e:zX σ ρ xs F'=F':=funext λb=>HX λz=>l (aJ z);rw[e];cases r with
  |fz d=>exact q
  |io d=>exact q.elim
  |ow d=>obtain⟨a,o,h1,h2,h3,h4,h5,_⟩:=q;refine ⟨a,o,h1,h2,h3,h4,R.h0 h5,λi s es w z=>?_⟩;obtain⟨a',o',g1,_,g3,_⟩:=R.ow i s es w;rw[z]at g1;cases g1;have h5:H a=none:=h5;rw[h5]at g3;cases g3
def SB{E:XK}{Q:VK}(h:lift K (xV con as) σ H Q):wY (dQ K con) [] E (rQ (as.map (jQ K))) σ H Q:=by
 obtain⟨G,F,ρ,Qd,R,w,k⟩:=h;refine bX R w λvs H1 F1 xs ρ1 s1 R1 o w1=>?_;obtain⟨ds,da,w1⟩:=jK (xs:=xs) R1 (λy hy=>hy) o w1;rw[O2];refine ⟨_,_,ds.map Sl.fz,_,zJ (PY R1) (fU R1) da,w1,λv H' F' r ρ' s' R' r' q=>?_⟩;obtain⟨sb,R2⟩:=R1.called R';have hq:(NQ ρ1 xs=true->noMut r.d=true)/\Qd r ρ1:=by
  split at q
  .rename_i e;exact ⟨λz=>(by rw[e]at z;cases z),q⟩
  .exact ⟨λ_=>q.1,q.2⟩
 exact k v H' _ r ρ1 (s1.trans sb) R2 (Res.called R1 R' r' hq.1) hq.2
end
section
variable {K:Fg}{G:Gh}{F F':Hp}{σ:L2.St}{ρ:Ev}{xs:List wV}
noncomputable def zM(a:Addr):Nat->Option Addr:=λj=>if j=0 then some a else none
def XU(h:zM a j=some b):j=0/\b=a:=by
 unfold zM at h;split at h
 .rename_i z;cases h;exact ⟨z,rfl⟩
 .cases h
def Bq{o:HO}(s:Sub F H)(h1:F a=none)(h2:H a=some o)(h3:Own1 K F o d)(tb:TabOk K F H)(da:DaAll K F vs ds):Rel K ⟨H,F,zM a⟩ F ((V.ref a::vs).map some) H ((Sl.io d::ds.map Sl.fz).map some) where
 len:=by simp[da.length]
 sub:=s
 sub0:=Sub.refl _
 fn:=λ_ _ e=>.inl e
 keep:=λ_ _ e _ _=>e
 tb:=tb
 fz:=λi d' e=>by
  cases i with
  |zero=>simp at e
  |succ i =>
   have e:((ds.map Sl.fz).map some)[i]?=some (some (Sl.fz d')):=by simpa using e
   obtain⟨d2,e1,e2⟩:=FZ e;cases e2;obtain⟨v,g1,g2⟩:=da.get e1;exact ⟨v,by simpa using g1,g2⟩
 ow:=λi s e w=>by
  cases i with
  |zero=>simp at e;subst e;exact ⟨a,o,by simp,h1,h2,h3⟩
  |succ i =>
   have e:((ds.map Sl.fz).map some)[i]?=some (some s):=by simpa using e
   obtain⟨d2,e1,rfl⟩:=FZ e;cases w
 new:=λi d' b e _=>by
  cases i with
  |zero=>simp at e
  |succ i =>
   have e:((ds.map Sl.fz).map some)[i]?=some (some (Sl.ow d')):=by simpa using e
   obtain⟨d2,e1,e2⟩:=FZ e;cases e2
 io:=λi b e=>by obtain⟨rfl,rfl⟩:=XU e;exact ⟨d,by simp,by simp⟩
 ioi:=λi d' e=>by
  cases i with
  |zero=>exact ⟨a,rfl⟩
  |succ i =>
   have e:((ds.map Sl.fz).map some)[i]?=some (some (Sl.io d')):=by simpa using e
   obtain⟨d2,e1,e2⟩:=FZ e;cases e2
 ap:=λi j s t b e1 w1 e2 w2 _ _=>by
  have f:∀{i:Nat}{s:Sl},((Sl.io d::ds.map Sl.fz).map some)[i]?=some (some s)->PQ s=true->i=0:=λ{i s} e w=>by
   cases i with
   |zero=>rfl
   |succ i =>
    have e:((ds.map Sl.fz).map some)[i]?=some (some s):=by simpa using e
    obtain⟨d2,e1,rfl⟩:=FZ e;cases w
  rw[f e1 w1,f e2 w2]
def Rel.calledI(R:Rel K G F σ H ρ){i:Nat}{s:Sl}{a:Addr}{d':D}{σ1:L2.St}{ρ1:Ev}(e:ρ[i]?=some (some s))(w:PQ s=true)(ea:σ[i]?=some (some (V.ref a)))(R':Rel K ⟨H,F,zM a⟩ F' (some (V.ref a)::σ1) H' (some (Sl.io d')::ρ1)):Rel K G F' σ H' (ρ.set i (some (s.put d'))):=by
 obtain⟨a0,o0,g1,g2,g3,g4⟩:=R.ow i s e w;rw[ea]at g1;cases g1;have sb:Sub F F':=R'.sub0;have hl:=pX e;have kp:∀{b:Addr}{o:HO},b≠a->(∀z∈TB K,z.1≠b)->H b=some o->H' b=some o:=λ{b o} n t q=>R'.keep b o q (λj z=>n (XU z).2) t;have ow':∀{j:Nat}{t:Sl},j≠i->ρ[j]?=some (some t)->PQ t=true->∃b o,σ[j]?=some (some (V.ref b))/\F' b=none/\H' b=some o/\Own1 K F' o t.d:=λ{j t} n q wt=>by
  obtain⟨b,o,q1,q2,q3,q4⟩:=R.ow j t q wt;have nb:b≠a:=λz=>n (R.ap j i t s a q wt e w (by rw[q1,z]) ea);refine ⟨b,o,q1,?_,kp nb (R.tb.ne λu z=>by rw[q3]at z;cases z;exact q4.stk) q3,q4.mono sb⟩;cases z:F' b with
  |none=>rfl
  |some u =>
   rcases R'.fn b u z with y|y
   .have y:F b=some u:=y;rw[q2]at y;cases y
   .have y:H b=none:=y;rw[q3]at y;cases y
 refine ⟨by rw[L4];exact R.len,R'.sub,R.sub0.trans sb,λb o q=>?_,λb o q n t=>?_,R'.tb,λj d q=>?_,λj t q wt=>?_,λj d b q eb=>?_,λj b q=>?_,λj d q=>?_,λj k t u b e1 w1 e2 w2 e3 e4=>?_⟩
 .rcases R'.fn b o q with y|y
  .exact R.fn b o y
  .exact .inr (R.h0 y)
 .refine kp (λz=>?_) t (R.keep b o q n t);subst z;cases s with
  |fz d=>cases w
  |ow d=>rw[R.new i d b e ea]at q;cases q
  |io d=>obtain⟨a',y⟩:=R.ioi i d e;obtain⟨_,_,y2⟩:=R.io i a' y;rw[ea]at y2;cases y2;exact n i y
 .rcases pQ q with⟨rfl,z⟩|⟨n,z⟩
  .cases s<;>simp[Sl.put,PQ]at z w
  .obtain⟨v,y1,y2⟩:=R.fz j d z;exact ⟨v,y1,y2.mono sb⟩
 .rcases pQ q with⟨rfl,z⟩|⟨n,z⟩
  .cases z;obtain⟨b,o,y1,y2,y3,y4⟩:=R'.ow 0 (.io d') (by simp) rfl;simp at y1;subst y1;exact ⟨a,o,ea,y2,y3,by cases s<;>first|exact y4|cases w⟩
  .exact ow' n z wt
 .rcases pQ q with⟨rfl,z⟩|⟨n,z⟩
  .cases s with
   |fz d=>cases w
   |ow d0=>exact R.new j d0 b e eb
   |io d0=>cases z
  .exact R.new j d b z eb
 .obtain⟨d,y1,y2⟩:=R.io j b q;by_cases z:j=i
  .subst z;rw[e]at y1;cases y1;exact ⟨d',by rw[YZ hl];rfl,y2⟩
  .exact ⟨d,by rw[J1 (Y1 z)];exact y1,y2⟩
 .rcases pQ q with⟨rfl,z⟩|⟨n,z⟩
  .cases s with
   |fz d=>cases w
   |ow d0=>cases z
   |io d0=>exact R.ioi j d0 e
  .exact R.ioi j d z
 .have f:∀(j:Nat) (t:Sl),(ρ.set i (some (s.put d')))[j]?=some (some t)->PQ t=true->∃t',ρ[j]?=some (some t')/\PQ t'=true:=λj t q wt=>by
   rcases pQ q with⟨rfl,z⟩|⟨n,z⟩
   .exact ⟨s,e,w⟩
   .exact ⟨t,z,wt⟩
  obtain⟨t',e1',w1'⟩:=f j t e1 w1;obtain⟨u',e2',w2'⟩:=f k u e2 w2;exact R.ap j k t' u' b e1' w1' e2' w2' e3 e4
def RQ(R:Rel K G F σ H ρ){ys:List wV}{vs:List V}{k:List D->Prop}(m:NQ ρ ys=false)(o:OpdsAt K F σ vs ys)(h:JQ ρ ys k):∃ds,DaAll K F vs ds/\k ds:=by
 induction o generalizing k with
 |nil=>exact ⟨[],.nil,h⟩
 |@cons v x vs ys o t ih =>
  cases x with
  |inr d=>obtain⟨ds,a,q⟩:=ih (k:=λds=>k (d::ds)) m h;exact ⟨d::ds,.cons o a,q⟩
  |inl i =>
   unfold JQ at h;unfold NQ at m;simp only[Bool.or_eq_false_iff]at m;split at h
   .rename_i s e;obtain⟨ds,a,q⟩:=ih (k:=λds=>k (s.d::ds)) m.2 h;refine ⟨s.d::ds,.cons ?_ a,q⟩;have m1:=m.1;rw[e]at m1;cases s with
    |fz d=>obtain⟨v',e1,e2⟩:=R.fz i d e;have o:σ[i]?=some (some v):=o;rw[o]at e1;cases e1;exact e2
    |ow d=>cases m1
    |io d=>cases m1
   .exact h.elim
def sv{E:XK}{Q:VK}(h:lift K (eU con i as) σ H Q):wY (dQ K con) [] E (rQ ((.inl i::as).map (jQ K))) σ H Q:=by
 obtain⟨G,F,ρ,Qd,R,w,k⟩:=h;unfold eU nX at w;split at w
 .rename_i s0 e0;obtain⟨v,ev⟩:=R.bound e0;refine ⟨v,ev,bX R w λvs H1 F1 xs ρ1 s1 R1 o w1=>?_⟩;show dQ K con (v::vs++[]) H1 Q E;rw[O2];have w1:Bj con i xs ρ1 Qd:=w1;unfold Bj at w1;split at w1
  .rename_i s e;split at w1
   .rename_i p1 p2;obtain⟨a,o',g1,g2,g3,g4⟩:=R1.ow i s e p1;rw[ev]at g1;cases g1;obtain⟨ds,da,w1⟩:=RQ R1 p2 o w1;refine ⟨_,F1,.io s.d::ds.map Sl.fz,_,Bq R1.sub g2 g3 g4 R1.tb da,w1,λv H' F' r ρ' s' R' r' q=>?_⟩;split at q
    .rename_i d' ρ2;have R2:=R1.calledI e p1 ev R';refine k v H' F' r _ (s1.trans s') R2 ?_ q;cases r with
     |fz d=>exact r'
     |io d=>exact r'.elim
     |ow d =>
      obtain⟨b,u,h1,h2,h3,h4,h5,_⟩:=r';have h5:H1 b=none:=h5;refine ⟨b,u,h1,h2,h3,h4,R1.h0 h5,λj t es w z=>?_⟩;have own:∃t',ρ1[j]?=some (some t')/\PQ t'=true:=by
       rcases pQ es with⟨rfl,y⟩|⟨n,y⟩
       .exact ⟨s,e,p1⟩
       .exact ⟨t,y,w⟩
      obtain⟨t',y1,y2⟩:=own;obtain⟨a',o',q1,_,q3,_⟩:=R1.ow j t' y1 y2;rw[z]at q1;cases q1;rw[h5]at q3;cases q3
    .exact q.elim
   .exact w1.elim
  .exact w1.elim
 .exact w.elim
noncomputable def AJ(n:Nat)(args:List Sl):Ev:=args.map some++L1 (n-args.length) none
noncomputable def outs:List Sl->Ev->Ev
 |[],_=>[]
 | .io _::as,ρ=>(ρ.headD none)::outs as ρ.tail
 | .fz d::as,ρ=>some (.fz d)::outs as ρ.tail
 | .ow d::as,ρ=>some (.ow d)::outs as ρ.tail
def QX{l:List (Option α)}{i:Nat}{x:α}(h:(l++L1 n none)[i]?=some (some x)):l[i]?=some (some x):=by
 by_cases z:i<l.length
 .rw[J2 z]at h;exact h
 .rw[P1 (R7 z),X7]at h;split at h<;>cases h
def zK{l m:List α}{i:Nat}{x:α}(h:l[i]?=some x):(l++m)[i]?=some x:=by rw[J2 (pX h)];exact h
def Rel.start(R:Rel K G F (vs.map some) H (args.map some)):Rel K G F (L2.start N vs) H (AJ N.length args) where
 len:=by have:=R.len;simp[L2.start,AJ]at this ⊢;lia
 sub:=R.sub
 sub0:=R.sub0
 fn:=R.fn
 keep:=R.keep
 tb:=R.tb
 fz:=λi d e=>by obtain⟨v,h1,h2⟩:=R.fz i d (QX e);exact ⟨v,zK h1,h2⟩
 ow:=λi s e w=>by obtain⟨a,o,h1,h2⟩:=R.ow i s (QX e) w;exact ⟨a,o,zK h1,h2⟩
 new:=λi d a e ea=>R.new i d a (QX e) (QX ea)
 io:=λi a e=>by obtain⟨d,h1,h2⟩:=R.io i a e;exact ⟨d,zK h1,zK h2⟩
 ioi:=λi d e=>R.ioi i d (QX e)
 ap:=λi j s t a e1 w1 e2 w2 e3 e4=>R.ap i j s t a (QX e1) w1 (QX e2) w2 (QX e3) (QX e4)
theorem LZ:∀{args:List Sl}{ρ:Ev}{i:Nat}{s:Sl},(outs args ρ)[i]?=some (some s)->(∃d,args[i]?=some (.io d)/\ρ[i]?=some (some s))\/(args[i]?=some s/\∀d,s≠.io d)
 |[],ρ,i,s,h=>by simp[outs]at h
 | .io d::as,ρ,0,s,h=>by
  simp[outs]at h;cases ρ with
  |nil=>simp at h
  |cons x ρ=>simp at h;exact .inl ⟨d,by simp,by simp[h]⟩
 | .fz d::as,ρ,0,s,h=>by simp[outs]at h;subst h;exact .inr ⟨by simp,λd z=>by cases z⟩
 | .ow d::as,ρ,0,s,h=>by simp[outs]at h;subst h;exact .inr ⟨by simp,λd z=>by cases z⟩
 | .io d::as,ρ,i+1,s,h=>by
  simp only[outs,X3]at h;rcases LZ h with⟨d,h1,h2⟩|⟨h1,h2⟩
  .exact .inl ⟨d,by simpa using h1,by cases ρ with|nil=>simp at h2|cons x ρ=>simpa using h2⟩
  .exact .inr ⟨by simpa using h1,h2⟩
 | .fz d::as,ρ,i+1,s,h=>by
  simp only[outs,X3]at h;rcases LZ h with⟨d,h1,h2⟩|⟨h1,h2⟩
  .exact .inl ⟨d,by simpa using h1,by cases ρ with|nil=>simp at h2|cons x ρ=>simpa using h2⟩
  .exact .inr ⟨by simpa using h1,h2⟩
 | .ow d::as,ρ,i+1,s,h=>by
  simp only[outs,X3]at h;rcases LZ h with⟨d,h1,h2⟩|⟨h1,h2⟩
  .exact .inl ⟨d,by simpa using h1,by cases ρ with|nil=>simp at h2|cons x ρ=>simpa using h2⟩
  .exact .inr ⟨by simpa using h1,h2⟩
theorem KF:∀{args:List Sl}{ρ:Ev}{i:Nat}{d:D}{x:Option Sl},args[i]?=some (.io d)->ρ[i]?=some x->(outs args ρ)[i]?=some x
 |[],_,_,_,_,h,_=>by simp at h
 |_::_,[],_,_,_,_,h=>by simp at h
 |s::as,y::ρ,0,d,x,h,h'=>by simp at h h';subst h h';simp[outs]
 |s::as,y::ρ,i+1,d,x,h,h'=>by have:=KF (args:=as) (ρ:=ρ) (i:=i) (by simpa using h) (by simpa using h');cases s<;>simpa [outs]using this
theorem YU:∀(args:List Sl) (ρ:Ev),(outs args ρ).length=args.length
 |[],_=>rfl
 |s::as,ρ=>by cases s<;>simp[outs,YU as]
def Cj{args:List Sl}{i:Nat}{s:Sl}(h:(args.map some)[i]?=some (some s)):args[i]?=some s:=by
 rw[Q0]at h;cases e:args[i]? with
 |none=>rw[e]at h;cases h
 |some x=>rw[e]at h;cases h;rfl
def AK{args:List Sl}{i:Nat}{s:Sl}(h:args[i]?=some s):(args.map some)[i]?=some (some s):=by rw[Q0,h];rfl
def Rel.ret{vs:List V}(hn:∀s∈args,∀d,s≠.ow d)(R:Rel K G F (vs.map some) H (args.map some))(sb:Sub F F')(R':Rel K G F' σ' H' ρ'):Rel K G F' (vs.map some) H' (outs args ρ'):=by
 have own:∀{i:Nat}{s:Sl},(outs args ρ')[i]?=some (some s)->PQ s=true->∃d a,args[i]?=some (.io d)/\ρ'[i]?=some (some s)/\G.io i=some a/\(vs.map some)[i]?=some (some (V.ref a))/\σ'[i]?=some (some (V.ref a)):=λ{i s} e w=>by
  rcases LZ e with⟨d,h1,h2⟩|⟨h1,h2⟩
  .obtain⟨a,h3⟩:=R.ioi i d (AK h1);obtain⟨_,_,h4⟩:=R.io i a h3;obtain⟨_,_,h5⟩:=R'.io i a h3;exact ⟨d,a,h1,h2,h3,h4,h5⟩
  .cases s with
   |fz d=>cases w
   |ow d=>exact (hn _ (B1 h1) d rfl).elim
   |io d=>exact (h2 d rfl).elim
 refine ⟨by rw[YU];simpa using R.len,R'.sub,R'.sub0,R'.fn,R'.keep,R'.tb,λi d e=>?_,λi s e w=>?_,λi d a e ea=>?_,λi a e=>?_,λi d e=>?_,λi j s t a e1 w1 e2 w2 e3 e4=>?_⟩
 .rcases LZ e with⟨d',h1,h2⟩|⟨h1,h2⟩
  .obtain⟨a,h3⟩:=R.ioi i d' (AK h1);obtain⟨d2,h4,_⟩:=R'.io i a h3;rw[h2]at h4;cases h4
  .obtain⟨v,h3,h4⟩:=R.fz i d (AK h1);exact ⟨v,h3,h4.mono sb⟩
 .obtain⟨d,a,h1,h2,h3,h4,h5⟩:=own e w;obtain⟨b,o,g1,g2⟩:=R'.ow i s h2 w;rw[h5]at g1;cases g1;exact ⟨a,o,h4,g2⟩
 .obtain⟨d',b,h1,h2,h3,h4,h5⟩:=own e rfl;rw[h4]at ea;cases ea;exact R'.new i d _ h2 h5
 .obtain⟨d,h1,h2⟩:=R.io i a e;obtain⟨d',h3,h4⟩:=R'.io i a e;exact ⟨d',KF (Cj h1) h3,h2⟩
 .obtain⟨d',a,h1,h2,h3,h4,h5⟩:=own e rfl;exact ⟨a,h3⟩
 .obtain⟨_,a1,_,h2,_,h4,h5⟩:=own e1 w1;obtain⟨_,a2,_,g2,_,g4,g5⟩:=own e2 w2;rw[h4]at e3;cases e3;rw[g4]at e4;cases e4;exact R'.ap i j s t a h2 w1 g2 w2 h5 g5
def Res.ret{vs:List V}{r:Sl}(hn:∀s∈args,∀d,s≠.ow d)(R:Rel K G F (vs.map some) H (args.map some))(R':Rel K G F' σ' H' ρ')(q:Res K G F' H' σ' ρ' v r):Res K G F' H' (vs.map some) (outs args ρ') v r:=by
 cases r with
 |fz d=>exact q
 |io d=>exact q.elim
 |ow d =>
  obtain⟨a,o,h1,h2,h3,h4,h5,h6⟩:=q;refine ⟨a,o,h1,h2,h3,h4,h5,λi s e w z=>?_⟩;rcases LZ e with⟨d',g1,g2⟩|⟨g1,g2⟩
  .obtain⟨b,g3⟩:=R.ioi i d' (AK g1);obtain⟨_,_,g4⟩:=R.io i b g3;obtain⟨_,_,g5⟩:=R'.io i b g3;rw[g4]at z;cases z;exact h6 i s g2 w g5
  .cases s with
   |fz d=>cases w
   |ow d=>exact (hn _ (B1 g1) d rfl).elim
   |io d=>exact (g2 d rfl).elim
noncomputable def jY(args:List Sl)(Qd:Sl->Ev->Prop):DE:={nx:=λρ=>Qd (.fz .none) (outs args ρ),rt:=λr ρ=>Qd r (outs args ρ),bk:=λ_=>False,ct:=λ_=>False}
def yu{ts:mJ}{Q:VK}{E:XK}(hc:∀args Qd,con args Qd->(∀s∈args,∀d,s≠.ow d)/\ts (jY args Qd) (AJ N.length args))(h:dQ K con vs H Q E):oQ K ts {nx:=λ_ H'=>Q .non H',rt:=Q} (L2.start N vs) H:=by
 obtain⟨G,F,args,Qd,R,w,k⟩:=h;obtain⟨hn,w⟩:=hc args Qd w;refine ⟨G,F,_,_,R.start,w,λσ' H' F' ρ' s R' q=>?_,λv σ' H' F' r ρ' s R' r' q=>?_,λ_ _ _ _ _ _ q=>q.elim,λ_ _ _ _ _ _ q=>q.elim⟩
 .exact k .non H' F' (.fz .none) _ s (R.ret hn s R') Da.non q
 .exact k v H' F' r _ s (R.ret hn s R') (r'.ret hn R R') q
end
section
variable {K:Fg}{F:Hp}{v:V}
def At.int(h:At K F H v (.int i)):v=.int i:=by
 rcases h with h|⟨a,o,rfl,_,_,h⟩
 .cases h;rfl
 .cases o<;>exact h.elim
def At.bool(h:At K F H v (.bool b)):v=.bl b:=by
 rcases h with h|⟨a,o,rfl,_,_,h⟩
 .cases h;rfl
 .cases o<;>exact h.elim
def At.str(h:At K F H v (.str x)):v=.str x:=by
 rcases h with h|⟨a,o,rfl,_,_,h⟩
 .cases h;rfl
 .cases o<;>exact h.elim
def At.none(h:At K F H v .none):v=.non:=by
 rcases h with h|⟨a,o,rfl,_,_,h⟩
 .cases h;rfl
 .cases o<;>exact h.elim
def At.list{ds:List D}(s:Sub F H)(h:At K F H v (.list ds)):∃a xs,v=.ref a/\H a=some (.lst xs)/\DaAll K F xs ds:=by
 rcases h with h|⟨a,o,rfl,_,e,h⟩
 .cases h with
  |lst e t=>exact ⟨_,_,rfl,s _ _ e,t⟩
 .cases o<;>first|exact h.elim|exact ⟨_,_,rfl,e,h⟩
def At.tuple{ds:List D}(s:Sub F H)(h:At K F H v (.tuple ds)):∃a xs,v=.ref a/\F a=some (.tup xs)/\H a=some (.tup xs)/\DaAll K F xs ds:=by
 rcases h with h|⟨a,o,rfl,_,e,h⟩
 .cases h with
  |tup e t=>exact ⟨_,_,rfl,e,s _ _ e,t⟩
 .cases o<;>exact h.elim
def MF(k:OQ):xK k≠.none:=by cases k<;>(intro z;cases z)
theorem Da.scr_inv{ns:Qa}:∀{d:D},Da K F v d->d=VJ ns->∃a,v=.ref a/\SqL K F a (ns.map V.int)
 |_,.non,e=>by cases e
 |_,.bl _,e=>by cases e
 |_,.int _,e=>by cases e
 |_,.str _,e=>by cases e
 |_,.lst _ _,e=>by cases e
 |_,.tup _ _,e=>by cases e
 |_,.lam _ _,e=>by injection e with e;injection e with e _;injection e with e _;cases e
 |_,.dk _ t,e=>by
  cases t with
  |nil=>injection e with e;cases e
  |cons _ _=>injection e with e;injection e with e _;injection e with e _;exact (MF _ e).elim
 |_,.dt _ t,e=>by
  cases t with
  |nil=>injection e with e;cases e
  |cons _ _=>injection e with e;injection e with e _;injection e with e _;cases e
 |_,.scr (ns:=ns') q,e=>by
  injection e with e;injection e with e _;injection e with _ e;injection e with e2;have:∀(l m:Qa),l.map j0=m.map j0->l=m:=by
   intro l;induction l with
   |nil=>intro m e;cases m with|nil=>rfl|cons=>simp at e
   |cons a l ih=>intro m e;cases m with|nil=>simp at e|cons b m=>simp at e;rw[e.1,ih m e.2]
  rw[<-this _ _ e2];exact ⟨_,rfl,q⟩
def At.scr(s:Sub F H)(h:At K F H v (VJ ns)):∃a,v=.ref a/\SqL K H a (ns.map V.int):=by
 rcases h with h|⟨a,o,rfl,_,e,h⟩
 .obtain⟨a,h1,h2⟩:=h.scr_inv rfl;exact ⟨a,h1,s.sql h2⟩
 .exfalso;cases o<;>first|exact h.elim|skip
  .rename_i kvs;have h:DaKV K F kvs [(.none,.list (ns.map j0))]:=h;generalize q:[(PyData.none,V3 (ns.map j0))]=es at h;cases h with
   |nil=>cases q
   |cons _ _=>injection q with q _;injection q with q _;exact MF _ q.symm
  .rename_i kvs;have h:DaKT K F kvs [(.none,.list (ns.map j0))]:=h;cases h
def AtAll.one(h:AtAll K F H vs [d]):∃v,vs=[v]/\At K F H v d:=by cases h with|cons a t=>cases t;exact ⟨_,rfl,a⟩
def AtAll.two(h:AtAll K F H vs [d,e]):∃v u,vs=[v,u]/\At K F H v d/\At K F H u e:=by cases h with|cons a t=>cases t with|cons b t=>cases t;exact ⟨_,_,rfl,a,b⟩
end
def GY(r:R2):List V->Hp->VK->Prop:=λvs H Q=>∃x y,vs=[x,y]/\r x y H Q
def Dj{K:Fg}{r:R2}(h:∀(G:Gh) (F:Hp) (σ:L2.St) (H:Hp) (ρ:Ev) (x y:V) (d e:D) (Q:VK) (Qd:Sl->Prop),Rel K G F σ H ρ->At K F H x d->At K F H y e->f d e Qd ->(∀v H' F' s,Sub F F'->Rel K G F' σ H' ρ->Res K G F' H' σ ρ v s->Qd s->Q v H')->r x y H Q):UQ K (GY r) (o2 f):=by
 intro G F σ H ρ vs ds Q Qd R a w k;match ds,a,w with
 |[d,e],a,w=>obtain⟨v,u,rfl,h1,h2⟩:=a.two;exact ⟨v,u,rfl,h G F σ H ρ v u d e Q Qd R h1 h2 w k⟩
def NF{K:Fg}{r:List V->Hp->VK->Prop}(h:∀(G:Gh) (F:Hp) (σ:L2.St) (H:Hp) (ρ:Ev) (x:V) (d:D) (Q:VK) (Qd:Sl->Prop),Rel K G F σ H ρ->At K F H x d->f d Qd ->(∀v H' F' s,Sub F F'->Rel K G F' σ H' ρ->Res K G F' H' σ ρ v s->Qd s->Q v H')->r [x] H Q):UQ K r (o1 f):=by
 intro G F σ H ρ vs ds Q Qd R a w k;match ds,a,w with
 |[d],a,w=>obtain⟨v,rfl,h1⟩:=a.one;exact h G F σ H ρ v d Q Qd R h1 w k
noncomputable def fI(C:Int->Int->Prop)(g:Int->Int->D):D->D->(Sl->Prop)->Prop
 | .int i,.int j,Q=>C i j/\Q (.fz (g i j))
 |_,_,_=>False
noncomputable def uv(g:Int->Int->D):D->D->(Sl->Prop)->Prop
 | .int i,.int j,Q=>Q (.fz (g i j))
 |_,_,_=>False
def UB{K:Fg}{g:Int->Int->V}(hg:∀F i j,Da K F (g i j) (g' i j)):UQ K (GY (rI C g)) (o2 (fI C g')):=Dj λG F σ H ρ x y d e Q Qd R h1 h2 w k=>by
 cases d<;>first|exact w.elim|skip
 cases e<;>first|exact w.elim|skip
 case int.int i j=>cases h1.int;cases h2.int;exact ⟨i,j,rfl,rfl,w.1,k _ H F (.fz _) (Sub.refl _) R (hg F i j) w.2⟩
def ZU{K:Fg}{g:Int->Int->V}(hg:∀F i j,Da K F (g i j) (g' i j)):UQ K (GY (EY g)) (o2 (uv g')):=Dj λG F σ H ρ x y d e Q Qd R h1 h2 w k=>by
 cases d<;>first|exact w.elim|skip
 cases e<;>first|exact w.elim|skip
 case int.int i j=>cases h1.int;cases h2.int;exact ⟨i,j,rfl,rfl,k _ H F (.fz _) (Sub.refl _) R (hg F i j) w⟩
def BK(r r':R2):R2:=λx y H Q=>r x y H Q\/r' x y H Q
def Ej:R2:=λx y H Q=>∃(a b:Addr) (xs ys:List V),x=.ref a/\y=.ref b/\H a=some (.tup xs)/\H b=some (.tup ys)/\xs.length+ys.length<=sizeLine /\
 (xs=[]->Q (.ref b) H)/\(xs≠[]->ys=[]->Q (.ref a) H)/\(xs≠[]->ys≠[]->∀p,H p=none->Q (.ref p) (DQ H p (.tup (xs++ys))))
noncomputable def oN:D->D->(Sl->Prop)->Prop
 | .int i,.int j,Q=>Q (.fz (.int (i+j)))
 | .tuple xs,.tuple ys,Q=>xs.length+ys.length<=sizeLine/\Q (.fz (.tuple (xs++ys)))
 | .list xs,.list ys,Q=>xs.length+ys.length<=sizeLine/\Q (.ow (.list (xs++ys)))
 |_,_,_=>False
def DaAll.nil_of{K:Fg}(h:DaAll K F [] ds):ds=[]:=by cases h;rfl
def IX{K:Fg}:UQ K (GY (BK (EY λi j=>.int (i+j)) (BK Ej pB))) (o2 oN):=Dj λG F σ H ρ x y d e Q Qd R h1 h2 w k=>by
 cases d<;>first|exact w.elim|(cases e<;>first|exact w.elim|skip)
 case int.int i j=>cases h1.int;cases h2.int;exact .inl ⟨i,j,rfl,rfl,k _ H F (.fz _) (Sub.refl _) R (Da.int _) w⟩
 case tuple.tuple xs ys =>
  obtain⟨a,us,rfl,f1,e1,d1⟩:=h1.tuple R.sub;obtain⟨b,ws,rfl,f2,e2,d2⟩:=h2.tuple R.sub;refine .inr (.inl ⟨a,b,us,ws,rfl,rfl,e1,e2,by rw[d1.length,d2.length];exact w.1,λz=>?_,λ_ z=>?_,λ_ _ p hp=>?_⟩)
  .subst z;have:=d1.nil_of;subst this;exact k _ H F (.fz _) (Sub.refl _) R (Da.tup f2 d2) w.2
  .subst z;have:=d2.nil_of;subst this;refine k _ H F (.fz _) (Sub.refl _) R (Da.tup f1 d1) ?_;have:=w.2;rw[O2]at this;exact this
  .obtain⟨sb,R',dd⟩:=R.newTup hp (d1.append d2);exact k _ _ _ (.fz _) sb R' dd w.2
 case list.list xs ys=>obtain⟨a,us,rfl,e1,d1⟩:=h1.list R.sub;obtain⟨b,ws,rfl,e2,d2⟩:=h2.list R.sub;refine .inr (.inr ⟨a,b,us,ws,rfl,rfl,e1,e2,by rw[d1.length,d2.length];exact w.1,λp hp=>?_⟩);obtain⟨R',r'⟩:=R.newOw (o:=.lst (us++ws)) (d:=.list (xs++ys)) hp (d1.append d2);exact k _ _ F _ (Sub.refl _) R' r' w.2
noncomputable def pN:D->D->(Sl->Prop)->Prop
 | .int i,.int j,Q=>CMul i j/\Q (.fz (.int (i*j)))
 | .list xs,.int k,Q=>-(2 ^ 63)<=k/\k<2 ^ 63/\xs.length*k.toNat<=sizeLine/\Q (.ow (.list (L1 k.toNat xs).flatten))
 |_,_,_=>False
def bJ{K:Fg}:UQ K (GY (BK (rI CMul λi j=>.int (i*j)) rB)) (o2 pN):=Dj λG F σ H ρ x y d e Q Qd R h1 h2 w k=>by
 cases d<;>first|exact w.elim|(cases e<;>first|exact w.elim|skip)
 case int.int i j=>cases h1.int;cases h2.int;exact .inl ⟨i,j,rfl,rfl,w.1,k _ H F (.fz _) (Sub.refl _) R (Da.int _) w.2⟩
 case list.int xs j=>cases h2.int;obtain⟨a,us,rfl,e1,d1⟩:=h1.list R.sub;refine .inr ⟨a,j,us,rfl,rfl,e1,w.1,w.2.1,by rw[d1.length];exact w.2.2.1,λp hp=>?_⟩;obtain⟨R',r'⟩:=R.newOw (o:=.lst (L1 j.toNat us).flatten) (d:=.list (L1 j.toNat xs).flatten) hp (d1.rep _);exact k _ _ F _ (Sub.refl _) R' r' w.2.2.2
noncomputable def qN:D->(Sl->Prop)->Prop
 | .list ds,Q=>Q (.fz (.int ds.length))
 | .tuple ds,Q=>Q (.fz (.int ds.length))
 | .dict [(.none,.list ds)],Q=>∃ns:Qa,ds=ns.map j0/\Q (.fz (.int ns.length))
 |_,_=>False
def AX{K:Fg}:UQ K (DI K) (o1 qN):=NF λG F σ H ρ x d Q Qd R h1 w k=>by
 cases d<;>first|exact w.elim|skip
 case list ds=>obtain⟨a,us,rfl,e1,d1⟩:=h1.list R.sub;exact ⟨a,us,rfl,.inl (SqL.of e1),k _ H F (.fz _) (Sub.refl _) R (Da.int _) (by rw[d1.length];exact w)⟩
 case tuple ds=>obtain⟨a,us,rfl,_,e1,d1⟩:=h1.tuple R.sub;exact ⟨a,us,rfl,.inr (SqT.of e1),k _ H F (.fz _) (Sub.refl _) R (Da.int _) (by rw[d1.length];exact w)⟩
 case dict es =>
  rcases es with _|⟨⟨c1,c2⟩,_|⟨c3,c4⟩⟩
  .exact w.elim
  .cases c1<;>first|exact w.elim|skip
   cases c2<;>first|exact w.elim|skip
   obtain⟨ns,rfl,w⟩:=w;obtain⟨a,rfl,q⟩:=h1.scr R.sub;exact ⟨a,_,rfl,.inl q,k _ H F (.fz _) (Sub.refl _) R (Da.int _) (by rw[q0];exact w)⟩
  .cases c1<;>first|exact w.elim|(cases c2<;>exact w.elim)
noncomputable def rN:D->D->(Sl->Prop)->Prop
 | .list ds,.int i,Q=>∃d,NY ds i=some d/\Q (.fz d)
 | .tuple ds,.int i,Q=>∃d,NY ds i=some d/\Q (.fz d)
 | .dict [(.none,.list ds)],.int i,Q=>∃(ns:Qa) (n:Int),ds=ns.map j0/\NY ns i=some n/\Q (.fz (.int n))
 |_,_,_=>False
def DaAll.at{K:Fg}(h:DaAll K F xs ds)(e:NY ds i=some d):∃v,NY xs i=some v/\Da K F v d:=by
 unfold NY at e ⊢;rw[h.length];cases q:dq ds.length i with
 |none=>rw[q]at e;cases e
 |some j=>rw[q]at e;exact h.get e
def vv(f:α->β){l:List α}{i:Int}{x:α}(h:NY l i=some x):NY (l.map f) i=some (f x):=by
 unfold NY at h ⊢;rw[q0];cases q:dq l.length i with
 |none=>rw[q]at h;cases h
 |some j=>rw[q]at h;simp at h ⊢;exact ⟨x,h,rfl⟩
def OI{K:Fg}:UQ K (GY (BK (Pw K) (Qw K))) (o2 rN):=Dj λG F σ H ρ x y d e Q Qd R h1 h2 w k=>by
 cases d<;>first|exact w.elim|skip
 case list ds =>
  cases e<;>first|exact w.elim|skip
  rename_i i;obtain⟨d,w1,w2⟩:=w;cases h2.int;obtain⟨a,us,rfl,e1,d1⟩:=h1.list R.sub;obtain⟨v,g1,g2⟩:=d1.at w1;exact .inl ⟨a,us,i,v,rfl,rfl,SqL.of e1,g1,k _ H F (.fz _) (Sub.refl _) R g2 w2⟩
 case tuple ds =>
  cases e<;>first|exact w.elim|skip
  rename_i i;obtain⟨d,w1,w2⟩:=w;cases h2.int;obtain⟨a,us,rfl,_,e1,d1⟩:=h1.tuple R.sub;obtain⟨v,g1,g2⟩:=d1.at w1;exact .inr ⟨a,us,i,v,rfl,rfl,SqT.of e1,g1,k _ H F (.fz _) (Sub.refl _) R g2 w2⟩
 case dict es =>
  rcases es with _|⟨⟨c1,c2⟩,_|⟨c3,c4⟩⟩
  .exact w.elim
  .cases c1<;>first|exact w.elim|skip
   cases c2<;>first|exact w.elim|skip
   cases e<;>first|exact w.elim|skip
   rename_i i;obtain⟨ns,n,e,w1,w2⟩:=w;subst e;cases h2.int;obtain⟨a,rfl,q⟩:=h1.scr R.sub;exact .inl ⟨a,_,i,_,rfl,rfl,q,vv V.int w1,k _ H F (.fz _) (Sub.refl _) R (Da.int _) w2⟩
  .cases c1<;>first|exact w.elim|(cases c2<;>exact w.elim)
noncomputable def iO:D->(Sl->Prop)->Prop
 | .list ds,Q=>Q (.ow (.list ds))
 | .tuple ds,Q=>Q (.ow (.list ds))
 |_,_=>False
noncomputable def Fj:D->(Sl->Prop)->Prop
 | .list ds,Q=>Q (.fz (.tuple ds))
 | .tuple ds,Q=>Q (.fz (.tuple ds))
 |_,_=>False
def GQ{K:Fg}:UQ K (SU K) (o1 Fj):=NF λG F σ H ρ x d Q Qd R h1 w k=>by
 match d,h1,w with
 | .list ds,h1,w=>obtain⟨a,us,rfl,e1,d1⟩:=h1.list R.sub;refine ⟨a,us,rfl,.inl ⟨SqL.of e1,λp hp=>?_⟩⟩;obtain⟨sb,R',dd⟩:=R.newTup hp d1;exact k _ _ _ (.fz _) sb R' dd w
 | .tuple ds,h1,w=>obtain⟨a,us,rfl,f1,e1,d1⟩:=h1.tuple R.sub;exact ⟨a,us,rfl,.inr ⟨SqT.of e1,k _ H F (.fz _) (Sub.refl _) R (Da.tup f1 d1) w⟩⟩
noncomputable def sN:D->(Sl->Prop)->Prop
 | .list ds,Q=>∃bs:List Bool,ds=bs.map K4/\Q (.fz (.bool (bs.all id)))
 |_,_=>False
theorem DaAll.bools{K:Fg}{F:Hp}:∀{xs:List V}{bs:List Bool},DaAll K F xs (bs.map K4)->xs=bs.map V.bl
 |[],[],_=>rfl
 |x::xs,b::bs,.cons h t=>by cases h;simp[DaAll.bools t]
def gU{K:Fg}:UQ K (BB K) (o1 sN):=NF λG F σ H ρ x d Q Qd R h1 w k=>by
 match d,h1,w with
 | .list ds,h1,⟨bs,e,w⟩=>subst e;obtain⟨a,us,rfl,e1,d1⟩:=h1.list R.sub;have:=d1.bools;subst this;exact ⟨a,bs,rfl,SqL.of e1,k _ H F (.fz _) (Sub.refl _) R (Da.bl _) w⟩
noncomputable def jO:D->Ki
 | .none=>.non
 | .bool _=>.bl
 | .int _=>.int
 | .str _=>.str
 | .list _=>.lst
 | .tuple _=>.tup
 | .dict ((.none,_)::_)=>.lst
 | .dict _=>.dct
noncomputable def VB(T:Ki):D->(Sl->Prop)->Prop
 | .dict _,_=>False
 |d,Q=>Q (.fz (.bool ((jO d).sub T)))
def WB{K:Fg}{T:Ki}:UQ K (λvs H Q=>∃x,vs=[x]/\qq K [x,.ty T.nm] H Q) (o1 (VB T)):=NF λG F σ H ρ x d Q Qd R h1 w k=>by
 have go:∀(ki:Ki),KiOf K H x ki->Qd (.fz (.bool (ki.sub T)))->∃x',[x]=[x']/\qq K [x',.ty T.nm] H Q:=λki h w=>⟨x,rfl,x,ki,T,rfl,h,k _ H F (.fz _) (Sub.refl _) R (Da.bl _) w⟩;match d,h1,w with
 | .none,h1,w=>cases h1.none;exact go .non rfl w
 | .bool b,h1,w=>cases h1.bool;exact go .bl rfl w
 | .int i,h1,w=>cases h1.int;exact go .int rfl w
 | .str z,h1,w=>cases h1.str;exact go .str rfl w
 | .list ds,h1,w=>obtain⟨a,us,rfl,e1,d1⟩:=h1.list R.sub;exact go .lst (.inl ⟨rfl,us,SqL.of e1⟩) w
 | .tuple ds,h1,w=>obtain⟨a,us,rfl,_,e1,d1⟩:=h1.tuple R.sub;exact go .tup (.inr (.inl ⟨rfl,us,SqT.of e1⟩)) w
noncomputable def tN:D->(Sl->Prop)->Prop
 | .int i,Q=>Q (.fz (.int (if i<0 then -i else i)))
 |_,_=>False
def jG{K:Fg}:UQ K (λxs H Q=>∃i,xs=[V.int i]/\Q (V.int (if i<0 then -i else i)) H) (o1 tN):=NF λG F σ H ρ x d Q Qd R h1 w k=>by
 match d,h1,w with
 | .int i,h1,w=>cases h1.int;exact ⟨i,rfl,k _ H F (.fz _) (Sub.refl _) R (Da.int _) w⟩
def Gj{K:Fg}:UQ K (λxs H Q=>∃i j,xs=[V.int i,V.int j]/\Q (V.int (g i j)) H) (o2 (uv λi j=>.int (g i j))):=by
 intro G F σ H ρ vs ds Q Qd R a w k;match ds,a,w with
 |[d,e],a,w =>
  obtain⟨v,u,rfl,h1,h2⟩:=a.two;have w:uv (λi j=>.int (g i j)) d e Qd:=w;unfold uv at w;split at w
  rotate_left
  .exact w.elim
  rename_i i j w;cases h1.int;cases h2.int;exact ⟨i,j,rfl,k _ H F (.fz _) (Sub.refl _) R (Da.int _) w⟩
noncomputable def uN:D->(Sl->Prop)->Prop
 | .int i,Q=>Q (.fz (.int i))
 | .bool b,Q=>Q (.fz (.int (if b then 1 else 0)))
 |_,_=>False
def kG{K:Fg}:UQ K (λxs H Q=>(∃i,xs=[V.int i]/\Q (V.int i) H)\/∃k,xs=[V.bl k]/\Q (V.int (if k then 1 else 0)) H) (o1 uN):=NF λG F σ H ρ x d Q Qd R h1 w k=>by
 match d,h1,w with
 | .int i,h1,w=>cases h1.int;exact .inl ⟨i,rfl,k _ H F (.fz _) (Sub.refl _) R (Da.int _) w⟩
 | .bool b,h1,w=>cases h1.bool;exact .inr ⟨b,rfl,k _ H F (.fz _) (Sub.refl _) R (Da.int _) w⟩
def Cq(as:List AD)(f:List D->(Sl->Prop)->Prop):TD:=λρ Q=>nX as ρ λxs ρ1=>match NQ ρ1 xs with
 |false=>JQ ρ1 xs λds=>f ds λr=>Q r ρ1
 |true=>False
def Hj(ds:List D)(Q:Sl->Prop):Prop:=Q (.fz (.tuple ds))
def Ij(ds:List D)(Q:Sl->Prop):Prop:=Q (.ow (.list ds))
def zQ(h:n<=1000):n<=sizeLine:=Z1 h (by decide)
def QI{K:Fg}(hl:as.length<=1000){σ:L2.St}{H:Hp}{Q:VK}(h:lift K (Cq as Hj) σ H Q):fB (rQ (as.map (jQ K))) σ H Q:=by
 obtain⟨G,F,ρ,Qd,R,w,k⟩:=h;refine wJ R w λvs H' F' xs ρ' sb R' o hn q=>?_;split at q
 .rename_i e;obtain⟨ds,da,q⟩:=RQ R' e o q;refine ⟨zQ (by lia),λp hp=>?_⟩;obtain⟨s2,R2,dd⟩:=R'.newTup hp da;exact k _ _ _ (.fz _) _ (sb.trans s2) R2 dd q
 .exact q.elim
def RI{K:Fg}(hl:as.length<=1000){σ:L2.St}{H:Hp}{Q:VK}(h:lift K (Cq as Ij) σ H Q):gB (rQ (as.map (jQ K))) σ H Q:=by
 obtain⟨G,F,ρ,Qd,R,w,k⟩:=h;refine wJ R w λvs H' F' xs ρ' sb R' o hn q=>?_;split at q
 .rename_i e;obtain⟨ds,da,q⟩:=RQ R' e o q;refine ⟨zQ (by lia),λp hp=>?_⟩;obtain⟨R2,r2⟩:=R'.newOw (o:=.lst vs) (d:=.list ds) hp da;exact k _ _ _ _ _ sb R2 r2 q
 .exact q.elim
def lG(p q:Int->Int->Bool)(a b c:AD):TD:=λρ Q=>nX [a,b] ρ λxs ρ1=>JQ ρ1 xs λds=>match ds with
 | [.int i,.int j]=>if p i j=true then nX [c] ρ1 λys ρ2=>JQ ρ2 ys λes=>match es with
   |[.int k]=>Q (.fz (.bool (q j k))) ρ2
   |_=>False
  else Q (.fz (.bool false)) ρ1
 |_=>False
def xv{K:Fg}{p:Int->Int->Bool}{Q:VK}(h:lift K (lG p q a b c) σ H Q):VH (EY λi j=>.bl (p i j)) (EY λi j=>.bl (q i j)) (jQ K a) (jQ K b) (jQ K c) σ H Q:=by
 obtain⟨G,F,ρ,Qd,R,w,k⟩:=h;have main:rQ ([a,b].map (jQ K)) σ H λvs H2=>∃x y,vs=[x,y]/\(EY λi j=>V.bl (p i j)) x y H2 λz H3=>∃k,z=.bl k /\
   (if k=true then jQ K c σ H3 λw' H4=>(EY λi j=>V.bl (q i j)) y w' H4 Q else Q (.bl false) H3):=by
  refine bX R w λvs H' F' xs ρ' sb R' o w1=>?_;obtain⟨ds,ha,w1⟩:=pZ R' o w1;split at w1
  .rename_i i j;obtain⟨v,u,rfl,h1,h2⟩:=ha.two;cases h1.int;cases h2.int;refine ⟨_,_,rfl,i,j,rfl,rfl,p i j,rfl,?_⟩;by_cases e:p i j=true
   .rw[if_pos e]at w1 ⊢;have:=bX (as:=[c]) (Qv:=λvs H4=>∃w',vs=[w']/\(EY λi j=>V.bl (q i j)) (V.int j) w' H4 Q) R' w1 λvs H2 F2 ys ρ2 s2 R2 o2 w2=>by
     obtain⟨es,hb,w2⟩:=pZ R2 o2 w2;split at w2
     .rename_i k';obtain⟨v,rfl,h3⟩:=hb.one;cases h3.int;exact ⟨_,rfl,j,k',rfl,rfl,k _ H2 F2 (.fz _) ρ2 (sb.trans s2) R2 (Da.bl _) w2⟩
     .exact w2.elim
    exact TU this
   .rw[if_neg e]at w1 ⊢;exact k _ H' F' (.fz _) ρ' sb R' (Da.bl _) w1
  .exact w1.elim
 exact FB main
def yV(i:Nat)(as:List AD)(f:List D->List D->(D->D->Prop)->Prop):TD:=λρ Q=>match ρ[i]? with
 |some (some s0)=>match s0.d,PQ s0 with
  | .list _,true=>nX as ρ λxs ρ1=>match ρ1[i]?,NQ ρ1 xs with
   |some (some s),false=>match s.d,PQ s with
    | .list es,true=>JQ ρ1 xs λds=>f es ds λd' r=>Q (.fz r) (ρ1.set i (some (s.put d')))
    |_,_=>False
   |_,_=>False
  |_,_=>False
 |_=>False
def zv(K:Fg)(r:V->List V->Hp->VK->Prop)(f:List D->List D->(D->D->Prop)->Prop):Prop :=
 ∀(F H:Hp) (a:Addr) (xs:List V) (es:List D) (vs:List V) (ds:List D) (Q:VK) (k:D->D->Prop),Sub F H->H a=some (.lst xs)->DaAll K F xs es->DaAll K F vs ds->f es ds k ->
  (∀v o' d' res,Own1 K F o' d'->Da K F v res->k d' res->Q v (DQ H a o'))->r (.ref a) vs H Q
def Jj{K:Fg}(ok:zv K r f){σ:L2.St}{H:Hp}{Q:VK}(h:lift K (yV i as f) σ H Q):∃a xs,σ[i]?=some (some (V.ref a))/\SqL K H a xs/\rQ (as.map (jQ K)) σ H λvs H2=>r (.ref a) vs H2 Q:=by
 obtain⟨G,F,ρ,Qd,R,w,k⟩:=h;unfold yV at w;split at w
 .rename_i s0 e0;split at w
  .rename_i es0 p1 p2;obtain⟨a,o,g1,g2,g3,g4⟩:=R.ow i s0 e0 p2;have gl:∃xs,H a=some (.lst xs):=by
    rw[p1]at g4;cases o<;>first|exact g4.elim|exact ⟨_,g3⟩
   obtain⟨xs0,gl⟩:=gl;refine ⟨a,xs0,g1,SqL.of gl,bX R w λvs H1 F1 xs ρ1 s1 R1 o1 w1=>?_⟩;split at w1
   .rename_i s e en;split at w1
    .rename_i es q1 q2;obtain⟨ds,da,w1⟩:=RQ R1 en o1 w1;obtain⟨a',o',h1,h2,h3,h4⟩:=R1.ow i s e q2;rw[g1]at h1;cases h1;rw[q1]at h4;have hl:∃us,o'=.lst us/\DaAll K F1 us es:=by cases o'<;>first|exact h4.elim|exact ⟨_,rfl,h4⟩
     obtain⟨us,rfl,h4⟩:=hl;refine ok F1 H1 a us es vs ds Q _ R1.sub h3 h4 da w1 λv o2 d2 res ho hv hk=>?_;have R2:=R1.change (o':=o2) (d':=d2) e q2 g1 ho;exact k v _ F1 (.fz res) _ s1 R2 hv hk
    .exact w1.elim
   .exact w1.elim
  .exact w.elim
 .exact w.elim
noncomputable def Av:List D->List D->(D->D->Prop)->Prop
 |es,[x],k=>es.length<sizeLine/\k (.list (es++[x])) .none
 |_,_,_=>False
def PJ{K:Fg}:zv K AF Av:=by
 intro F H a xs es vs ds Q k s e d1 d2 w q;match ds,d2,w with
 |[x],.cons h .nil,w=>exact ⟨a,xs,_,rfl,rfl,e,by rw[d1.length];exact w.1,q _ (.lst (xs++[_])) (.list (es++[x])) _ (d1.append (.cons h .nil)) .non w.2⟩
noncomputable def Bv:List D->List D->(D->D->Prop)->Prop
 |es,[.list ys],k=>es.length+ys.length<=sizeLine/\k (.list (es++ys)) .none
 |_,_,_=>False
def Dq{K:Fg}:zv K BF Bv:=by
 intro F H a xs es vs ds Q k s e d1 d2 w q;match ds,d2,w with
 |[.list ys],.cons h .nil,w =>
  cases h with
  |lst e2 t=>exact ⟨a,_,xs,_,rfl,rfl,e,s _ _ e2,by rw[d1.length,t.length];exact w.1,q _ (.lst (xs++_)) (.list (es++ys)) _ (d1.append t) .non w.2⟩
noncomputable def DO:List D->List D->(D->D->Prop)->Prop
 |es,[],k=>∃d,es[es.length-1]?=some d/\k (.list es.dropLast) d
 |_,_,_=>False
noncomputable def Kj:List D->List D->(D->D->Prop)->Prop
 |es,[],k=>k (.list es.reverse) .none
 |_,_,_=>False
def mG{K:Fg}:zv K MU Kj:=by
 intro F H a xs es vs ds Q k s e d1 d2 w q;match ds,d2,w with
 |[],.nil,w=>exact ⟨a,xs,rfl,rfl,e,q .non (.lst xs.reverse) (.list es.reverse) .none d1.reverse .non w⟩
noncomputable def Cv:List D->List D->(D->D->Prop)->Prop
 |es,[.int i,x],k=>es.length<sizeLine/\0<=i/\i<=es.length/\k (.list (es.take i.toNat++x::es.drop i.toNat)) .none
 |_,_,_=>False
def Fq{K:Fg}:zv K HF Cv:=by
 intro F H a xs es vs ds Q k s e d1 d2 w q;rcases ds with _|⟨d,_|⟨x,_|⟨e3,ds⟩⟩⟩<;>first|exact w.elim|(cases d<;>first|exact w.elim|skip)
 .rename_i i;cases d2 with|cons h t=>?_
  cases t with|cons h' t=>?_
  cases t;cases h;exact ⟨a,xs,i,_,rfl,rfl,e,by rw[d1.length];exact w.1,w.2.1,by rw[d1.length];exact w.2.2.1,q .non (.lst (xs.take i.toNat++_::xs.drop i.toNat)) (.list _) .none ((d1.take _).append (.cons h' (d1.drop _))) .non w.2.2.2⟩
noncomputable def nG(j:Nat)(ai:AD)(te:TD):mJ:=λE ρ=>te ρ λr ρ1=>match ρ1[j]? with
 |some (some _)=>nX [ai] ρ1 λxs ρ2=>JQ ρ2 xs λds=>match ds,ρ2[j]? with
  |[.int k],some (some s)=>match s.d,PQ s with
   | .list es,true=>∃n,dq es.length k=some n/\E.nx (ρ2.set j (some (s.put (.list (es.set n r.d)))))
   |_,_=>False
  |_,_=>False
 |_=>False
def Dv{K:Fg}{E:Ends}(h:oQ K (nG j ai te) E σ H):UK (lift K te) (X9 (CZ j) (jQ K ai) zF) E σ H:=by
 obtain⟨G,F,ρ,D,R,w,n,r,b,c⟩:=h;refine ⟨G,F,ρ,_,R,w,λv H1 F1 x ρ1 s1 R1 r1 w1=>?_⟩;obtain⟨F2,s2,R2,d2⟩:=r1.frz R1;split at w1
 .rename_i s0 e0;obtain⟨u,eu⟩:=R2.bound e0;refine ⟨u,eu,TU (P:=λi H2=>zF u i v H2 λH3=>E.nx σ H3) (bX R2 w1 λvs H3 F3 xs ρ3 s3 R3 o3 w3=>?_)⟩;obtain⟨ds,ha,w3⟩:=pZ R3 o3 w3;split at w3
  .rename_i k s e;obtain⟨iv,rfl,hi⟩:=ha.one;cases hi.int;split at w3
   .rename_i es p1 p2;obtain⟨m,w4,w5⟩:=w3;obtain⟨a,o,g1,g2,g3,g4⟩:=R3.ow j s e p2;rw[eu]at g1;cases g1;rw[p1]at g4;have hl:∃us,o=.lst us/\DaAll K F3 us es:=by cases o<;>first|exact g4.elim|exact ⟨_,rfl,g4⟩
    obtain⟨us,rfl,g4⟩:=hl;refine ⟨_,rfl,a,us,k,m,rfl,rfl,g3,by rw[g4.length];exact w4,?_⟩;have R4:=R3.change (o':=.lst (us.set m v)) (d':=.list (es.set m x.d)) e p2 eu (g4.set (d2.mono s3) m);exact n σ _ F3 _ (s1.trans (s2.trans s3)) R4 w5
   .exact w3.elim
  .exact w3.elim
 .exact w1.elim
def XB(K:Fg)(tl:TE):TI:=λσ H R=>tl σ H λx H1=>∃a,x=.ref a/\(((∃xs,SqL K H1 a xs)/\R (YM K a) H1)\/((∃xs,SqT K H1 a xs)/\R (ZM K a) H1))
noncomputable def OF(a:TD):UU:=λρ Q=>a ρ λr ρ1=>match r.d with
 | .list ds=>Q ds ρ1
 | .tuple ds=>Q ds ρ1
 |_=>False
def nW{K:Fg}(e:F a=some (.lst xs))(h:DaAll K F xs ds):Walks K (YM K a) F ds:=λi H F1 s1 s2=>by have q:=SqL.of (K:=K) (s2 _ _ (s1 _ _ e));refine ⟨λd ed=>?_,λhl=>⟨xs,q,by rw[h.length];lia⟩⟩;obtain⟨v,h1,h2⟩:=h.get ed;refine ⟨⟨xs,v,q,h1⟩,λx H' ⟨e1,e2⟩=>?_⟩;subst e1;have:=e2 xs q;rw[h1]at this;cases this;exact ⟨F1,Sub.refl _,λ_ _ z=>.inl z,s2,Sub.refl _,h2.mono s1⟩
def Gq{K:Fg}(e:F a=some (.tup xs))(h:DaAll K F xs ds):Walks K (ZM K a) F ds:=λi H F1 s1 s2=>by have q:=SqT.of (K:=K) (s2 _ _ (s1 _ _ e));refine ⟨λd ed=>?_,λhl=>⟨xs,q,by rw[h.length];lia⟩⟩;obtain⟨v,h1,h2⟩:=h.get ed;refine ⟨⟨xs,v,q,h1⟩,λx H' ⟨e1,e2⟩=>?_⟩;subst e1;have:=e2 xs q;rw[h1]at this;cases this;exact ⟨F1,Sub.refl _,λ_ _ z=>.inl z,s2,Sub.refl _,h2.mono s1⟩
def YB{K:Fg}(h:kX K (OF a) σ H R):XB K (lift K a) σ H R:=by
 obtain⟨G,F,ρ,Qd,Rl,w,k⟩:=h;refine ⟨G,F,ρ,_,Rl,w,λv H1 F1 r ρ1 s1 R1 r1 w1=>?_⟩;obtain⟨F2,s2,R2,d2⟩:=r1.frz R1;split at w1
 .rename_i ds e;rw[e]at d2;cases d2 with
  |lst q t=>exact ⟨_,rfl,.inl ⟨⟨_,SqL.of (R2.sub _ _ q)⟩,k _ H1 F2 ds ρ1 (s1.trans s2) R2 (nW q t) w1⟩⟩
 .rename_i ds e;rw[e]at d2;cases d2 with
  |tup q t=>exact ⟨_,rfl,.inr ⟨⟨_,SqT.of (R2.sub _ _ q)⟩,k _ H1 F2 ds ρ1 (s1.trans s2) R2 (Gq q t) w1⟩⟩
 .exact w1.elim
noncomputable def KQ(lo:Int)(n:Nat):List D:=(K2 n).map λ(i:Nat)=>j0 (lo+i)
def xY{K:Fg}{lo:Int}:Walks K (kI lo n) F (KQ lo n):=λi H F1 s1 s2=>by
 have hl:(KQ lo n).length=n:=by simp[KQ]
 refine ⟨λd ed=>?_,λh=>by rw[hl]at h;exact Nat.le_of_eq h⟩;have hi:i<n:=by have:=pX ed;rw[hl]at this;exact this
 have e:(KQ lo n)[i]?=some (.int (lo+i)):=by simp[KQ,hi]
 rw[e]at ed;cases ed;refine ⟨hi,λx H' ⟨e1,e2⟩=>?_⟩;subst e1 e2;exact ⟨F1,Sub.refl _,λ_ _ z=>.inl z,s2,Sub.refl _,.int _⟩
noncomputable def oG(a:AD):UU:=λρ Q=>nX [a] ρ λxs ρ1=>JQ ρ1 xs λds=>match ds with
 |[.int j]=>-(2 ^ 62)<=j/\j<2 ^ 62/\Q (KQ 0 j.toNat) ρ1
 |_=>False
noncomputable def pG(a b:AD):UU:=λρ Q=>nX [a,b] ρ λxs ρ1=>JQ ρ1 xs λds=>match ds with
 |[.int i,.int j]=>(-(2 ^ 62)<=i/\i<2 ^ 62/\-(2 ^ 62)<=j/\j<2 ^ 62)/\Q (KQ i (j-i).toNat) ρ1
 |_=>False
def ZB{K:Fg}(h:kX K (oG a) σ H R):Kz (rQ ([a].map (jQ K))) σ H R:=by
 obtain⟨G,F,ρ,Qd,Rl,w,k⟩:=h;refine bX Rl w λvs H' F' xs ρ' sb R' o w1=>?_;obtain⟨ds,ha,w1⟩:=pZ R' o w1;split at w1
 .rename_i j;obtain⟨v,rfl,h1⟩:=ha.one;cases h1.int;exact ⟨j,rfl,w1.1,w1.2.1,k _ H' F' _ ρ' sb R' xY w1.2.2⟩
 .exact w1.elim
def aC{K:Fg}(h:kX K (pG a b) σ H R):Lz (rQ ([a,b].map (jQ K))) σ H R:=by
 obtain⟨G,F,ρ,Qd,Rl,w,k⟩:=h;refine bX Rl w λvs H' F' xs ρ' sb R' o w1=>?_;obtain⟨ds,ha,w1⟩:=pZ R' o w1;split at w1
 .rename_i i j;obtain⟨v,u,rfl,h1,h2⟩:=ha.two;cases h1.int;cases h2.int;exact ⟨i,j,rfl,w1.1,k _ H' F' _ ρ' sb R' xY w1.2⟩
 .exact w1.elim
def EO(K:Fg)(F:Hp)(v:V)(ds:List D):Prop:=∃k a xs,v=.ref a/\(F a=some (match k with|Kd.l=>HO.lst xs|Kd.t=>HO.tup xs))/\DaAll K F xs ds
def cK{K:Fg}(e:H a=some (match k with|Kd.l=>HO.lst xs|Kd.t=>HO.tup xs)):Sq k K H a xs:=by
 cases k with
 |l=>exact SqL.of e
 |t=>exact SqT.of e
noncomputable def kY:D->Option (List D)
 | .list ds=>some ds
 | .tuple ds=>some ds
 |_=>none
def CK{K:Fg}(h:Da K F v d)(e:kY d=some ds):∃k a xs,v=.ref a/\(F a=some (match k with|Kd.l=>HO.lst xs|Kd.t=>HO.tup xs))/\DaAll K F xs ds:=by
 cases h with
 |lst q t=>cases e;exact ⟨.l,_,_,rfl,q,t⟩
 |tup q t=>cases e;exact ⟨.t,_,_,rfl,q,t⟩
 |non=>cases e
 |bl=>cases e
 |int=>cases e
 |str=>cases e
 |dk _ _=>cases e
 |dt _ _=>cases e
 |scr _=>cases e
 |exc _=>cases e
 |lam _ _=>cases e
 |opq _=>cases e
 |pd _ _=>cases e
 |bd _ _=>cases e
noncomputable def BX(ds es:List D):List D:=(ds.zip es).map λp=>A1 [p.1,p.2]
noncomputable def lY(a b:AD):UU:=λρ Q=>nX [a,b] ρ λxs ρ1=>match NQ ρ1 xs with
 |false=>JQ ρ1 xs λds=>match ds with
  |[x,y]=>match kY x,kY y with
   |some us,some ws=>Q (BX us ws) ρ1
   |_,_=>False
  |_=>False
 |true=>False
def qG{K:Fg}(e1:F a=some (match k1 with|Kd.l=>HO.lst xs|Kd.t=>HO.tup xs))(h1:DaAll K F xs ds)
  (e2:F b=some (match k2 with|Kd.l=>HO.lst ys|Kd.t=>HO.tup ys)) (h2:DaAll K F ys es):Walks K (CB K k1 k2 a b) F (BX ds es):=λi H F1 s1 s2=>by
 have q1:Sq k1 K H a xs:=cK (s2 _ _ (s1 _ _ e1));have q2:Sq k2 K H b ys:=cK (s2 _ _ (s1 _ _ e2));refine ⟨λd ed=>?_,λhl=>⟨xs,ys,q1,q2,?_⟩⟩
 .simp only[BX,Q0,G3]at ed;obtain⟨⟨x,y⟩,ez,rfl⟩:=ed;rw[o6]at ez;obtain⟨v,g1,g2⟩:=h1.get ez.1;obtain⟨u,g3,g4⟩:=h2.get ez.2;refine ⟨⟨xs,v,ys,u,q1,q2,g1,g3⟩,λz H' ⟨T,x1,x2,hT,ex,eH,f1,f2⟩=>?_⟩;subst ex eH;have f1:=f1 xs q1;have f2:=f2 ys q2;rw[g1]at f1;cases f1;rw[g3]at f2;cases f2;have fT:F1 T=none:=by
   cases z:F1 T with
   |none=>rfl
   |some o=>rw[s2 _ _ z]at hT;cases hT
  refine ⟨DQ F1 T (.tup [v,u]),Sub.new fT,λc o ec=>?_,λc o ec=>?_,Sub.new hT,.tup kQ (.cons (g2.mono (s1.trans (Sub.new fT))) (.cons (g4.mono (s1.trans (Sub.new fT))) .nil))⟩
  .by_cases z:c=T
   .subst z;exact .inr hT
   .rw[eQ z]at ec;exact .inl ec
  .by_cases z:c=T
   .subst z;rw[kQ]at ec ⊢;exact ec
   .rw[eQ z]at ec ⊢;exact s2 _ _ ec
 .simp only[BX,q0,P2]at hl;rw[h1.length,h2.length];lia
def bC{K:Fg}(h:kX K (lY a b) σ H R):GF K (rQ ([a,b].map (jQ K))) σ H R:=by
 obtain⟨G,F,ρ,Qd,Rl,w,k⟩:=h;refine bX Rl w λvs H' F' xs ρ' sb R' o w1=>?_;split at w1
 .rename_i e;obtain⟨ds,da,w1⟩:=RQ R' e o w1;split at w1
  .rename_i x y;split at w1
   .rename_i us ws p1 p2;cases da with
    |cons d1 t =>
     cases t with
     |cons d2 t=>cases t;obtain⟨k1,a1,us',rfl,e1,g1⟩:=CK d1 p1;obtain⟨k2,a2,ws',rfl,e2,g2⟩:=CK d2 p2;exact ⟨k1,a1,us',k2,a2,ws',rfl,cK (R'.sub _ _ e1),cK (R'.sub _ _ e2),k _ H' F' _ ρ' sb R' (qG e1 g1 e2 g2) w1⟩
   .exact w1.elim
  .exact w1.elim
 .exact w1.elim
noncomputable def LH:D->Option OQ
 | .int i=>some (.inl i)
 | .str x=>some (.inr x)
 |_=>none
def QY(k:OQ):LH (xK k)=some k:=by cases k<;>rfl
def PF(h:LH d=some k):d=xK k:=by cases d<;>first|(cases h;rfl)|cases h
noncomputable def Hq:List D->Option (List OQ)
 |[]=>some []
 |d::ds=>match LH d,Hq ds with
  |some k,some ks=>some (k::ks)
  |_,_=>none
theorem aH:∀ks:List OQ,Hq (ks.map xK)=some ks
 |[]=>rfl
 |k::ks=>by simp[Hq,QY,aH ks]
theorem bH:∀{ds:List D}{ks:List OQ},Hq ds=some ks->ds=ks.map xK
 |[],ks,h=>by cases h;rfl
 |d::ds,ks,h=>by
  unfold Hq at h;split at h
  .rename_i k ks' e1 e2;cases h;rw[PF e1,bH e2];rfl
  .cases h
noncomputable def mY(es:List (D×D))(k:OQ):Option D:=(es.find? λe=>decide (LH e.1=some k)).map (·.2)
noncomputable def dH:D->Option (List OQ)
 | .tuple ds=>Hq ds
 |_=>none
noncomputable def hU(es:List (D×D))(k:List OQ):Option D:=(es.find? λe=>decide (dH e.1=some k)).map (·.2)
noncomputable def QF(es:List (D×D))(k:OQ)(d:D):List (D×D):=if (es.any λe=>decide (LH e.1=some k))=true then es.map (λe=>if LH e.1=some k then (e.1,d) else e) else es++[(xK k,d)]
section
variable {K:Fg}{F:Hp}
theorem DaKV.val(k:OQ):∀{kvs:List (OQ×V)}{es:List (D×D)},DaKV K F kvs es->match mY es k,TZ kvs k with|some d,some v=>Da K F v d|none,none=>True|_,_=>False
 |_,_,.nil=>trivial
 |_,_,.cons (k:=k') (v:=v) (d:=d) (kvs:=kvs) (es:=es) h t=>by
  have ih:=DaKV.val k t;unfold mY TZ at ih ⊢;simp only[j4,QY,Option.some.injEq];by_cases e:k'=k
  .subst e;simp;exact h
  .have e':decide (k'=k)=false:=decide_eq_false e;simp only[e'];exact ih
theorem DaKT.val(k:List OQ):∀{kvs:List (List OQ×V)}{es:List (D×D)},DaKT K F kvs es->match hU es k,TZ kvs k with|some d,some v=>Da K F v d|none,none=>True|_,_=>False
 |_,_,.nil=>trivial
 |_,_,.cons (ks:=k') (v:=v) (d:=d) (kvs:=kvs) (es:=es) h t=>by
  have ih:=DaKT.val k t;unfold hU TZ at ih ⊢;simp only[j4,dH,aH,Option.some.injEq];by_cases e:k'=k
  .subst e;simp;exact h
  .have e':decide (k'=k)=false:=decide_eq_false e;simp only[e'];exact ih
theorem DaKV.repl{k:OQ}{v:V}{d:D}(hv:Da K F v d):∀{kvs:List (OQ×V)}{es:List (D×D)},DaKV K F kvs es->DaKV K F (kvs.map λkv=>if kv.1=k then (kv.1,v) else kv) (es.map λe=>if LH e.1=some k then (e.1,d) else e)
 |_,_,.nil=>.nil
 |_,_,.cons (k:=k') h t=>by
  simp only[E1,QY,Option.some.injEq];by_cases e:k'=k
  .rw[if_pos e,if_pos e];exact .cons hv (DaKV.repl hv t)
  .rw[if_neg e,if_neg e];exact .cons h (DaKV.repl hv t)
theorem DaKV.snoc{k:OQ}{v:V}{d:D}(hv:Da K F v d):∀{kvs:List (OQ×V)}{es:List (D×D)},DaKV K F kvs es->DaKV K F (kvs++[(k,v)]) (es++[(xK k,d)])
 |_,_,.nil=>.cons hv .nil
 |_,_,.cons h t=>.cons h (DaKV.snoc hv t)
theorem DaKV.any(k:OQ):∀{kvs:List (OQ×V)}{es:List (D×D)},DaKV K F kvs es->(kvs.any λkv=>decide (kv.1=k))=es.any λe=>decide (LH e.1=some k)
 |_,_,.nil=>rfl
 |_,_,.cons (k:=k') h t=>by simp only[S5,QY,Option.some.injEq];rw[DaKV.any k t]
def DaKV.put(h:DaKV K F kvs es)(hv:Da K F v d):DaKV K F (EZ kvs k v) (QF es k d):=by
 unfold EZ QF;rw[h.any k];split
 .exact h.repl hv
 .exact h.snoc hv
theorem DaKV.length:∀{kvs:List (OQ×V)}{es:List (D×D)},DaKV K F kvs es->kvs.length=es.length
 |_,_,.nil=>rfl
 |_,_,.cons _ t=>by simp[DaKV.length t]
def At.dict{es:List (D×D)}(s:Sub F H)(h:At K F H v (.dict es)):∃a,v=.ref a/\((∃kvs,Rd H a (.dK kvs)/\DaKV K F kvs es)\/(∃kvs,Rd H a (.dT kvs)/\DaKT K F kvs es)\/∃k0 d0,es=[(k0,d0)]/\LH k0=Option.none/\dH k0=Option.none):=by
 rcases h with h|⟨a,o,rfl,_,e,h⟩
 .cases h with
  |dk q t=>exact ⟨_,rfl,.inl ⟨_,s.rd q,t⟩⟩
  |dt q t=>exact ⟨_,rfl,.inr (.inl ⟨_,s.rd q,t⟩)⟩
  |scr q=>exact ⟨_,rfl,.inr (.inr ⟨_,_,rfl,rfl,rfl⟩)⟩
  |exc q=>exact ⟨_,rfl,.inr (.inr ⟨_,_,rfl,rfl,rfl⟩)⟩
  |lam q _=>exact ⟨_,rfl,.inr (.inr ⟨_,_,rfl,rfl,rfl⟩)⟩
  |opq q=>exact ⟨_,rfl,.inr (.inr ⟨_,_,rfl,rfl,rfl⟩)⟩
  |pd q t=>exact ⟨_,rfl,.inr (.inr ⟨_,_,rfl,rfl,rfl⟩)⟩
  |bd q t=>exact ⟨_,rfl,.inr (.inr ⟨_,_,rfl,rfl,rfl⟩)⟩
 .cases o with
  |ext φ=>rcases h.ext with⟨a',ep,xs,ps,z,z2,t⟩|⟨a',ep,xs,ps,z,z2,t⟩<;>(injection z2 with z2;exact ⟨_,rfl,.inr (.inr ⟨_,_,z2,rfl,rfl⟩)⟩)
  |_=>first|exact h.elim|exact ⟨_,rfl,.inl ⟨_,.inl e,h⟩⟩|exact ⟨_,rfl,.inr (.inl ⟨_,.inl e,h⟩)⟩
theorem DaAll.keys:∀{xs:List V}{ks:List OQ},DaAll K F xs (ks.map xK)->xs=ks.map kV
 |[],[],_=>rfl
 |x::xs,k::ks,.cons h t=>by
  have e:x=kV k:=by cases k<;>(cases h;rfl)
  rw[e,DaAll.keys t];rfl
def At.key(h:At K F H v d)(e:LH d=some k):v=kV k:=by
 have:=PF e;subst this;cases k with
 |inl i=>exact h.int
 |inr x=>exact h.str
def At.keyTup(s:Sub F H)(h:At K F H v d)(e:dH d=some k):∃b,v=.ref b/\H b=some (.tup (k.map kV)):=by
 cases d<;>first|cases e|skip
 rename_i ds;have:=bH e;subst this;obtain⟨a,xs,rfl,_,e1,d1⟩:=h.tuple s;have:=d1.keys;subst this;exact ⟨a,rfl,e1⟩
def Fv(e:∃d0,es=[(k0,d0)]/\LH k0=none/\dH k0=none)(k:OQ):mY es k=none:=by obtain⟨d0,rfl,e,_⟩:=e;simp[mY,e]
def Gv(e:∃d0,es=[(k0,d0)]/\LH k0=none/\dH k0=none)(k:List OQ):hU es k=none:=by obtain⟨d0,rfl,_,e⟩:=e;simp[hU,e]
def Iq(e:D×D)(es:List (D×D))(k:OQ)(h:LH e.1=none):mY (e::es) k=mY es k:=by simp[mY,j4,h]
def Jq(e:D×D)(es:List (D×D))(k:List OQ)(h:dH e.1=none):hU (e::es) k=hU es k:=by simp[hU,j4,h]
theorem rG(k:OQ):∀{kvs:List (List OQ×V)}{es:List (D×D)},DaKT K F kvs es->mY es k=none
 |_,_,.nil=>rfl
 |_,_,.cons h t=>by rw[Iq _ _ _ rfl];exact rG k t
theorem Lj(k:List OQ):∀{kvs:List (OQ×V)}{es:List (D×D)},DaKV K F kvs es->hU es k=none
 |_,_,.nil=>rfl
 |_,_,.cons (k:=k') h t=>by rw[Jq _ _ _ (by cases k'<;>rfl)];exact Lj k t
end
noncomputable def Kq(es:List (D×D))(k:D):Option D:=match LH k with
 |some k=>mY es k
 |none=>match dH k with
  |some ks=>hU es ks
  |none=>none
noncomputable def zu:D->D->(Sl->Prop)->Prop
 | .dict es,k,Q=>∃d,Kq es k=some d/\Q (.fz d)
 |_,_,_=>False
def Lq{K:Fg}{y:V}{es:List (D×D)}(s:Sub F H)(h1:At K F H x (.dict es))(h2:At K F H y k)(e:Kq es k=some d):∃a v,x=.ref a/\Xz H a y (some v)/\Da K F v d:=by
 obtain⟨a,rfl,h⟩:=h1.dict s;unfold Kq at e;split at e
 .rename_i k' ek;have hy:=h2.key ek;subst hy;rcases h with⟨kvs,q,t⟩|⟨kvs,q,t⟩|⟨ns,q⟩
  .have:=t.val k';rw[e]at this;cases ev:TZ kvs k' with
   |none=>rw[ev]at this;exact this.elim
   |some v=>rw[ev]at this;exact ⟨a,v,rfl,.inl ⟨kvs,k',q,rfl,ev.symm⟩,this⟩
  .rw[rG _ t]at e;cases e
  .rw[Fv q]at e;cases e
 .split at e
  .rename_i ks ek;obtain⟨b,rfl,hb⟩:=h2.keyTup s ek;rcases h with⟨kvs,q,t⟩|⟨kvs,q,t⟩|⟨ns,q⟩
   .rw[Lj _ t]at e;cases e
   .have:=t.val ks;rw[e]at this;cases ev:TZ kvs ks with
    |none=>rw[ev]at this;exact this.elim
    |some v=>rw[ev]at this;exact ⟨a,v,rfl,.inr ⟨kvs,ks,b,q,rfl,hb,ev.symm⟩,this⟩
   .rw[Gv q]at e;cases e
  .cases e
def SI:R2:=λx y H Q=>∃a v,x=.ref a/\Xz H a y (some v)/\Q v H
def Hv{K:Fg}:UQ K (GY SI) (o2 zu):=Dj λG F σ H ρ x y d e Q Qd R h1 h2 w k=>by
 match d,h1,w with
 | .dict es,h1,⟨d',w1,w2⟩=>obtain⟨a,v,rfl,g,dv⟩:=Lq R.sub h1 h2 w1;exact ⟨a,v,rfl,g,k _ H F (.fz _) (Sub.refl _) R dv w2⟩
noncomputable def iU(j:Nat)(ak:AD)(te:TD):mJ:=λE ρ=>te ρ λr ρ1=>match ρ1[j]? with
 |some (some _)=>nX [ak] ρ1 λxs ρ2=>JQ ρ2 xs λds=>match ds,ρ2[j]? with
  |[kd],some (some s)=>match s.d,PQ s,LH kd with
   | .dict es,true,some k=>es.length<sizeLine/\(mY es k).isSome=true/\E.nx (ρ2.set j (some (s.put (.dict (QF es k r.d)))))
   |_,_,_=>False
  |_,_=>False
 |_=>False
def Mj{K:Fg}{E:Ends}(h:oQ K (iU j ak te) E σ H):aj (CZ j) (jQ K ak) (lift K te) E σ H:=by
 obtain⟨G,F,ρ,D,R,w,n,r,b,c⟩:=h;refine ⟨G,F,ρ,_,R,w,λv H1 F1 x ρ1 s1 R1 r1 w1=>?_⟩;obtain⟨F2,s2,R2,d2⟩:=r1.frz R1;split at w1
 .rename_i s0 e0;obtain⟨u,eu⟩:=R2.bound e0;refine ⟨u,eu,TU (P:=λy H3=>∃a H4,u=.ref a/\vB H3 a y v H4/\E.nx σ H4) (bX R2 w1 λvs H3 F3 xs ρ3 s3 R3 o3 w3=>?_)⟩;obtain⟨ds,ha,w3⟩:=pZ R3 o3 w3;split at w3
  .rename_i kd s e;obtain⟨kv,rfl,hk⟩:=ha.one;split at w3
   .rename_i es k p1 p2 p3;obtain⟨a,o,g1,g2,g3,g4⟩:=R3.ow j s e p2;rw[eu]at g1;cases g1;rw[p1]at g4;have:=hk.key p3;subst this;refine ⟨_,rfl,a,?_⟩;cases o with
    |dK kvs=>have g4:DaKV K F3 kvs es:=g4;refine ⟨_,rfl,.inl ⟨kvs,k,g3,rfl,by rw[g4.length];exact w3.1,rfl⟩,?_⟩;have R4:=R3.change (o':=.dK (EZ kvs k v)) (d':=.dict (QF es k x.d)) e p2 eu (g4.put (d2.mono s3));exact n σ _ F3 _ (s1.trans (s2.trans s3)) R4 w3.2.2
    |dT kvs=>have g4:DaKT K F3 kvs es:=g4;rw[rG _ g4]at w3;exact absurd w3.2.1 (by simp)
    |ext φ=>rcases g4.ext with⟨a',ep,xs,ps,z,z2,t⟩|⟨a',ep,xs,ps,z,z2,t⟩<;>(injection z2 with z2;rw[z2]at w3;exact absurd w3.2.1 (by simp[mY,LH]))
    |_=>exact g4.elim
   .exact w3.elim
  .exact w3.elim
 .exact w1.elim
open L2
noncomputable def notStar:Expr->Bool
 | .Starred _ _=>false
 |_=>true
def starEach_of(h:notStar e=true):starEach (e::es) env=(false,eval e env)::starEach es env:=by cases e<;>first|rfl|cases h
def AQ:∀{es:List Expr},es.all notStar=true->(backTo pos (starEach es env)).any (·.1)=false:=by
 intro es;induction es with
 |nil=>intro _;rfl
 |cons e es ih=>intro h;simp only[M8,N3]at h;rw[starEach_of h.1];have:=ih h.2;simp[backTo]at this ⊢;exact this
noncomputable def oW:Expr->Bool
 | .Set _ _ _=>false
 |_=>true
def QJ(h:oW e=true)(x:Value):foldedSetIterable e env x=pure x:=by cases e<;>first|rfl|cases h
noncomputable def cJ:Expr->Bool
 | .ListComp _ _ _ _=>false
 | .SetComp _ _ _ _=>false
 | .DictComp _ _ _ _ _=>false
 |_=>true
def BJ(h:cJ e=true):swapsWith e t n env=pure false:=by cases e<;>first|rfl|cases h
section
variable {K:Fg}
def yY{t':TE}(h:PE X e t)(m:∀{σ H Q},t' σ H Q->t σ H Q):PE X e t':=λpins s σ H Q I w=>h pins s σ H Q I (m w)
def vN{t':TT}(h:PT X e t)(m:∀{σ H Q},t' σ H Q->t σ H Q):PT X e t':=λpins s σ H Q I w=>h pins s σ H Q I (m w)
def kO{t':TT}(h:PW X e t)(m:∀{σ H Q},t' σ H Q->t σ H Q):PW X e t':=λwh pins s σ H Q I w=>h wh pins s σ H Q I (m w)
def Mq{t':TS}(h:PS X e t)(m:∀{D σ H},t' D σ H->t D σ H):PS X e t':=λpins s σ H D I w=>h pins s σ H D I (m w)
def UI{t':TS}(h:PSs X e t)(m:∀{D σ H},t' D σ H->t D σ H):PSs X e t':=λpins s σ H D I w=>h pins s σ H D I (m w)
def lO{t':TG}(h:PG X e t)(m:∀{v σ H Q},t' v σ H Q->t v σ H Q):PG X e t':=by
 unfold PG at h ⊢
 intros
 exact h _ _ _ _ _ _ _ (by assumption) (by assumption) (m (by assumption))
def cC{g:Expr}{t':TI}(h:PI X g e t)(m:∀{σ H R},t' σ H R->t σ H R):PI X g e t':=λpins s σ H R I w=>h pins s σ H R I (m w)
def wN{t':TT}(h:fj X es t)(m:∀{σ H Q},t' σ H Q->t σ H Q):fj X es t':=λpins s σ H Q I w=>h pins s σ H Q I (m w)
def Iv{e:Expr}{es:List Expr}{a:AD}{as:List AD}(ha:PE X e (jQ K a))(hr:PA X es (rQ (as.map (jQ K))))(hs:starEach (e::es) X.env=(false,eval e X.env)::starEach es X.env:=by exact starEach_of rfl):PA X (e::es) (rQ ((a::as).map (jQ K))):=WQ ha hr hs
variable {e:Expr}{a b c:AD}{as:List AD}{td te:TD}{tc td':RK}
def eC(h:PE X e (CZ i)):PE X e (lift K (rj i)):=yY h FI
def Jv(hv:∀F,Da K F v d)(h:PE X e (tC v)):PE X e (lift K (dC d)):=yY h (CO hv)
def gC{r:R2}(ok:UQ K (GY r) (o2 f))(h:PE X e (lu r (jQ K a) (jQ K b))):PE X e (lift K (eY [a,b] (o2 f))):=yY h λq=>FB (XW ok q)
def mO{r:List V->Hp->VK->Prop}(ok:UQ K r f)(h:PE X e (qu r (rQ (as.map (jQ K))))):PE X e (lift K (eY as f)):=yY h λq=>XW ok q
def jC(T:Ki)(h:PE X e (qu (qq K) (qK (jQ K a) (qK (tC (.ty T.nm)) bq)))):PE X e (lift K (eY [a] (o1 (VB T)))):=yY h λq=>TU (P:=λx H1=>qq K [x,.ty T.nm] H1 _) (XW WB q)
def kC(hl:as.length<=1000)(h:PE X e (fB (rQ (as.map (jQ K))))):PE X e (lift K (Cq as Hj)):=yY h (QI hl)
def lC(hl:as.length<=1000)(h:PE X e (gB (rQ (as.map (jQ K))))):PE X e (lift K (Cq as Ij)):=yY h (RI hl)
def Nj{p:Int->Int->Bool}(h:PE X e (VH (EY λi j=>.bl (p i j)) (EY λi j=>.bl (q i j)) (jQ K a) (jQ K b) (jQ K c))):PE X e (lift K (lG p q a b c)):=yY h xv
def mC(h:PE X e (Az (lift K td) (lift K te))):PE X e (lift K (sj td te)):=yY h IB
def oC(h:PE X e (Bz (lift K td))):PE X e (lift K (tj td)):=yY h JB
def VI(h:PE X e (WM (wQ K tc) (lift K td) (lift K te))):PE X e (lift K (jN tc td te)):=yY h kN
def Au{E:XK}(h:PE X e (wY (dQ K con) [] E (rQ (as.map (jQ K))))):PE X e (lift K (xV con as)):=yY h SB
def pC{E:XK}(h:PE X e (wY (dQ K con) [] E (rQ ((Sum.inl i::as).map (jQ K))))):PE X e (lift K (eU con i as)):=yY h sv
def xN(ok:zv K r f)(h:PE X e (eO K "list" r (CZ i) (rQ (as.map (jQ K))))):PE X e (lift K (yV i as f)):=yY h λq=>by obtain⟨a,xs,e1,sq,w⟩:=Jj ok q;exact ⟨_,e1,.inl ⟨rfl,xs,sq⟩,w⟩
def XI(ok:zv K r f)(h:PE X e (uI K "list" r (CZ i))):PE X e (lift K (yV i [] f)):=yY h λq=>by obtain⟨a,xs,e1,sq,w⟩:=Jj ok q;exact ⟨_,e1,.inl ⟨rfl,xs,sq⟩,w⟩
def nO{r:R2}(ok:UQ K (GY r) (o2 f))(h:PT X e (Oz (lu r (jQ K a) (jQ K b)))):PT X e (wQ K (wq (eY [a,b] (o2 f)))):=vN h λq=>wu (λz=>FB (XW ok z)) q
def qC(h:PT X e (tB (lift K td))):PT X e (wQ K (wq td)):=vN h λq=>wu (λz=>z) q
def rC(h:PT X e (M9 (wQ K tc))):PT X e (wQ K (GB tc)):=vN h HI
def sC(h:PW X e (L9 (wQ K tc) (wQ K td'))):PW X e (wQ K (HB tc td')):=kO h II
def YI(h:PW X e (VM (wQ K tc) (wQ K td'))):PW X e (wQ K (gN tc td')):=kO h iN
variable {st:Stmt}{sts:List Stmt}{t u:mJ}
def Kv(h:PSs X sts Dz):PSs X sts (oQ K uj):=UI h MB
def uC(h:PSs X sts (T9 (oQ K t) (oQ K u))):PSs X sts (oQ K (wj t u)):=UI h KI
def vC(h:PS X st (Gz (lift K td))):PS X st (oQ K (KB td)):=Mq h LI
def Lv(h:PS X st (Gz (CZ i))):PS X st (oQ K (IF i)):=Mq h OB
def Mv(h:PS X st (UK (CZ j) (oJ i))):PS X st (oQ K (JF i j)):=Mq h PB
def Nv(h:PS X st (Fz (lift K td))):PS X st (oQ K (xj td)):=Mq h NB
def ZI(h:PS X st (U9 (wQ K tc) (oQ K t) (oQ K u))):PS X st (oQ K (LB tc t u)):=Mq h MI
def Oj(h:PS X st (UK (lift K td) (oJ i))):PS X st (oQ K (fG i td)):=Mq h xu
def aL(h:PS X st (UK (lift K td) (X9 (CZ j) (jQ K a) zF))):PS X st (oQ K (nG j a td)):=Mq h Dv
def wC(h:PS X st (aj (CZ j) (jQ K a) (lift K td))):PS X st (oQ K (iU j a td)):=Mq h Mj
noncomputable def Pj(g:jJ)(a:TD):mJ:=λE ρ=>a ρ λr ρ'=>g r.d ρ' E.nx
def xC{g:jJ}{E:Ends}(h:oQ K (Pj g td) E σ H):UK (lift K td) (YQ K g) E σ H:=by obtain⟨G,F,ρ,D,R,w,n,r,b,c⟩:=h;refine ⟨G,F,ρ,_,R,w,λv H' F' x ρ' s R' r' q=>?_⟩;obtain⟨F2,s2,R2,d2⟩:=r'.frz R';exact ⟨G,F2,ρ',x.d,_,R2,d2,q,λσ3 ρ3 R3 w3=>n σ3 H' F2 ρ3 (s.trans s2) R3 w3⟩
def Pv{g:jJ}(h:PS X st (UK (lift K td) (YQ K g))):PS X st (oQ K (Pj g td)):=Mq h xC
def Rv(h:PG X e (oJ i)):PG X e (YQ K (UE i)):=lO h mN
def yC{gs:List jJ}(h:PG X e (Lw K n (YW (gs.map (YQ K)))))(hn:gs.length=n:=by rfl):PG X e (YQ K (yM gs)):=lO h (nN hn)
def Qj{es:List Expr}{g:jJ}{gs:List jJ}(h1:PG X e (YQ K g))(h2:ju X es (YW (gs.map (YQ K))))(hs:(assignEach (e::es) X.env).map (·.2)=assign e X.env::(assignEach es X.env).map (·.2):=by rfl):ju X (e::es) (YW ((g::gs).map (YQ K))):=Iz h1 h2 hs
def Sv:fj X [] (wQ K eG):=wN zB JI
def RF{l:Expr}(hK:X.K=K)(hl:PE X l tl):PI X tg l (XB K tl):=by
 subst hK;intro pins s σ H R I h;refine eX (hl pins s σ H _ I h) λv s1 ⟨x,H1,I1,r1,q1⟩=>?_;obtain⟨a,e,q1⟩:=q1;subst e;cases r1;rcases q1 with⟨⟨xs,hq⟩,q⟩|⟨⟨xs,hq⟩,q⟩
 .obtain⟨its,rv,p,hz⟩:=I1.list hq;refine wpAny_pyIter_list p.isList ?_;refine ⟨s1.heap.objs.size,[s1.heap.objs.size],_,_,H1,rfl,I1.kept (t':=s1.toks) λb o e=>i0 _ e,XD a _,⟨_,v0 _ rfl,rfl,rfl⟩,λb hb=>?_,q⟩;have e:b=s1.heap.objs.size:=by simpa using hb
  subst e;exact I1.fpOk (M0 _) (I1.hok.fresh (M0 _))
 .obtain⟨its,rv,p,hz⟩:=I1.tuple hq;refine wpAny_pyIter_tuple (show s1.heap.IsTuple a its.toArray from p) ?_;refine ⟨s1.heap.objs.size,[s1.heap.objs.size],_,_,H1,rfl,I1.kept (t':=s1.toks) λb o e=>i0 _ e,SH a _,⟨_,v0 _ rfl,rfl,rfl⟩,λb hb=>?_,q⟩;have e:b=s1.heap.objs.size:=by simpa using hb
  subst e;exact I1.fpOk (M0 _) (I1.hok.fresh (M0 _))
def zC{l:Expr}(hK:X.K=K)(hl:PE X l (lift K td)):PI X tg l (kX K (OF td)):=cC (RF hK hl) YB
def Tv{l:Expr}(h:PI X tg l (Kz (rQ ([a].map (jQ K))))):PI X tg l (kX K (oG a)):=cC h ZB
def Uv{l:Expr}(h:PI X tg l (Lz (rQ ([a,b].map (jQ K))))):PI X tg l (kX K (pG a b)):=cC h aC
def Vv{l:Expr}(h:PI X tg l (GF K (rQ ([a,b].map (jQ K))))):PI X tg l (kX K (lY a b)):=cC h bC
def bL(_ j:Int):Prop:=0<j
def op_catB:OpR X (binaryOp .Add) Ej:=by
 intro pins s σ H x y v u Q I rx ry h;obtain⟨a,b,xs,ys,rfl,rfl,ha,hb,hz,q1,q2,q3⟩:=h;have ha':SqT X.K H a xs:=SqT.of ha;have hb':SqT X.K H b ys:=SqT.of hb;by_cases hx:xs=[]
 .subst hx;cases rx;cases ry;obtain⟨its,r1,p1,_⟩:=I.tuple ha';obtain⟨its2,r2,p2,_⟩:=I.tuple hb';cases r1;exact mj p1 p2 ⟨.ref b,H,I,rfl,q1 rfl⟩
 .exact Ow pins s σ H (.ref a) (.ref b) v u Q I rx ry ⟨a,b,xs,ys,rfl,rfl,ha',hb',hx,hz,λe=>q2 hx e,λe p hp=>q3 hx e p hp⟩
def mX:OpR X (binaryOp .Add) (BK (EY λi j=>.int (i+j)) (BK Ej pB)):=op_add.or (op_catB.or qB)
def kZ:OpR X (binaryOp .Mult) (BK (rI CMul λi j=>.int (i*j)) rB):=op_mul.or uB
def RX:UQ K (GY (EY λi j=>.int (i-j))) (o2 (uv λi j=>.int (i-j))):=ZU λ_ _ _=>.int _
def RY:UQ K (GY (rI dB λi j=>.int (i / j))) (o2 (fI dB λi j=>.int (i / j))):=UB λ_ _ _=>.int _
def dJ:UQ K (GY (rI (λ_ j=>0<j) λi j=>.int (i % j))) (o2 (fI bL λi j=>.int (i % j))):=UB (C:=bL) λ_ _ _=>.int _
def sG:UQ K (GY (rI eB λi j=>.int (i ^ j.toNat))) (o2 (fI eB λi j=>.int (i ^ j.toNat))):=UB λ_ _ _=>.int _
def cL:UQ K (GY (EY λi j=>.bl (decide (i<j)))) (o2 (uv λi j=>.bool (decide (i<j)))):=ZU λ_ _ _=>.bl _
def dL:UQ K (GY (EY λi j=>.bl (decide (i<=j)))) (o2 (uv λi j=>.bool (decide (i<=j)))):=ZU λ_ _ _=>.bl _
def SF:UQ K (GY (EY λi j=>.bl (decide (j<i)))) (o2 (uv λi j=>.bool (decide (j<i)))):=ZU λ_ _ _=>.bl _
def eL:UQ K (GY (EY λi j=>.bl (decide (j<=i)))) (o2 (uv λi j=>.bool (decide (j<=i)))):=ZU λ_ _ _=>.bl _
def Wv(hK:X.K=K):IxR X (BK (Pw K) (Qw K)):=(kj hK).or (fv hK)
end
mutual
noncomputable def tX:D->Bool
 | .none=>true
 | .bool _=>true
 | .int _=>true
 | .str _=>true
 | .list xs=>plainAll xs
 | .tuple xs=>plainAll xs
 | .dict _=>false
noncomputable def plainAll:List D->Bool
 |[]=>true
 |x::xs=>tX x&&plainAll xs
end
section
variable {K:Fg}{F:Hp}
def Da.is(s:Sub F H){v:V}{d:D}(q:Da K F v d):tX d=true->Is K H v d:=by refine Da.rec (motive_1:=λv d _=>tX d=true->Is K H v d) (motive_2:=λv d _=>plainAll d=true->IsAll K H v d) (motive_3:=λ_ _ _=>True) (motive_4:=λ_ _ _=>True) (motive_5:=λ_ _ _=>True) (motive_6:=λ_ _ _=>True) (λ_=>.non) (λb _=>.bl b) (λi _=>.int i) (λx _=>.str x) (λe _ t z=>.lst (SqL.of (s _ _ e)) (t z)) (λe _ t z=>.tup (SqT.of (s _ _ e)) (t z)) (λ_ _ _ z=>nomatch z) (λ_ _ _ z=>nomatch z) (λ_ z=>nomatch z) (λ_ z=>nomatch z) (λ_ z=>nomatch z) (λ_ _ _ z=>nomatch z) (λ_ _ _ z=>nomatch z) (λ_ _ _ z=>nomatch z) (λ_=>.nil) (λ_ _ a t z=>.cons (a (Y3.mp z).1) (t (Y3.mp z).2)) ?_ ?_ ?_ ?_ ?_ ?_ ?_ ?_ q<;>intros<;>trivial
def DaAll.is(s:Sub F H){xs:List V}{ds:List D}(q:DaAll K F xs ds):plainAll ds=true->IsAll K H xs ds:=by refine DaAll.rec (motive_1:=λ_ _ _=>True) (motive_2:=λv d _=>plainAll d=true->IsAll K H v d) (motive_3:=λ_ _ _=>True) (motive_4:=λ_ _ _=>True) (motive_5:=λ_ _ _=>True) (motive_6:=λ_ _ _=>True) ?_ ?_ ?_ ?_ ?_ ?_ ?_ ?_ ?_ ?_ ?_ ?_ ?_ ?_ (λ_=>.nil) (λa _ _ t z=>.cons (a.is s (Y3.mp z).1) (t (Y3.mp z).2)) ?_ ?_ ?_ ?_ ?_ ?_ ?_ ?_ q<;>intros<;>trivial
def At.is(s:Sub F H)(h:At K F H v d)(p:tX d=true):Is K H v d:=by
 rcases h with h|⟨a,o,rfl,_,e,h⟩
 .exact h.is s p
 .cases o<;>cases d<;>first|exact h.elim|(simp[tX]at p)|skip
  .rename_i xs ds;exact .lst (SqL.of e) (DaAll.is s h (by simpa [tX]using p))
end
def Xv(x y:D)(Q:Sl->Prop):Prop:=tX x=true/\tX y=true/\SeqAt.shaped x=true/\SeqAt.shaped y=true/\SeqAt.noMix x y=true/\Q (.fz (.bool (same x y)))
def Yv(x y:D)(Q:Sl->Prop):Prop:=tX x=true/\tX y=true/\SeqAt.shaped x=true/\SeqAt.shaped y=true/\SeqAt.noMix x y=true/\Q (.fz (.bool (!same x y)))
noncomputable def oO:D->D->(Sl->Prop)->Prop
 | .int i,.int j,Q=>Q (.fz (.bool (decide (i=j))))
 | .list xs,y,Q=>Xv (.list xs) y Q
 | .tuple xs,y,Q=>Xv (.tuple xs) y Q
 | .str x,.str y,Q=>Q (.fz (.bool (decide (x=y))))
 |x,y,Q=>Xv x y Q
noncomputable def pO:D->D->(Sl->Prop)->Prop
 | .int i,.int j,Q=>Q (.fz (.bool (!decide (i=j))))
 | .list xs,y,Q=>Yv (.list xs) y Q
 | .tuple xs,y,Q=>Yv (.tuple xs) y Q
 | .str x,.str y,Q=>Q (.fz (.bool (!decide (x=y))))
 |x,y,Q=>Yv x y Q
def DK{K:Fg}:UQ K (GY (BK tM (VW K false))) (o2 oO):=Dj λG F σ H ρ x y d e Q Qd R h1 h2 w k=>by
 have gen:Xv d e Qd->BK tM (VW K false) x y H Q:=λ⟨p1,p2,p3,p4,p5,w⟩=>.inr ⟨d,e,h1.is R.sub p1,h2.is R.sub p2,p3,p4,p5,k _ H F (.fz _) (Sub.refl _) R (Da.bl _) w⟩;unfold oO at w;split at w
 .rename_i i j;cases h1.int;cases h2.int;refine .inl ⟨rfl,k _ H F (.fz _) (Sub.refl _) R (Da.bl _) ?_⟩;have e:decide (V.int i=V.int j)=decide (i=j):=by rw[LY,T5]
  rw[e];exact w
 .exact gen w
 .exact gen w
 .rename_i i j;cases h1.str;cases h2.str;refine .inl ⟨rfl,k _ H F (.fz _) (Sub.refl _) R (Da.bl _) ?_⟩;have e:decide (V.str i=V.str j)=decide (i=j):=by rw[MY,T5]
  rw[e];exact w
 .exact gen w
def fH{K:Fg}:UQ K (GY (BK uM (VW K true))) (o2 pO):=Dj λG F σ H ρ x y d e Q Qd R h1 h2 w k=>by
 have gen:Yv d e Qd->BK uM (VW K true) x y H Q:=λ⟨p1,p2,p3,p4,p5,w⟩=>.inr ⟨d,e,h1.is R.sub p1,h2.is R.sub p2,p3,p4,p5,k _ H F (.fz _) (Sub.refl _) R (Da.bl _) w⟩;unfold pO at w;split at w
 .rename_i i j;cases h1.int;cases h2.int;refine .inl ⟨rfl,k _ H F (.fz _) (Sub.refl _) R (Da.bl _) ?_⟩;have e:decide (V.int i=V.int j)=decide (i=j):=by rw[LY,T5]
  rw[e];exact w
 .exact gen w
 .exact gen w
 .rename_i i j;cases h1.str;cases h2.str;refine .inl ⟨rfl,k _ H F (.fz _) (Sub.refl _) R (Da.bl _) ?_⟩;have e:decide (V.str i=V.str j)=decide (i=j):=by rw[MY,T5]
  rw[e];exact w
 .exact gen w
def eJ{K:Fg}(hK:X.K=K)(hu:X.A.units+64<cLine):OpR X (compareOp .Eq) (BK tM (VW K false)):=op_eq.or (gv hK hu)
def pW{K:Fg}(hK:X.K=K)(hu:X.A.units+64<cLine):OpR X (compareOp .NotEq) (BK uM (VW K true)):=op_ne.or (jv hK hu)
section
variable {P:Program}{w:World}{K:Fg}{mg:Str->Option Value}{base:Heap}
def FO{st:Stmt}{ts:mJ}(F:Fun K x qual st f fd)(S:FnScope N ps (cQ st))(hb:∀(cdv:Value) (A:Around) (outer:List Env) (s:Shared) (H:Hp) (E:XK),Room k (A.deeper (envOfC qual (cQ st) s.heap.objs.size f cdv))->PSs (YY DX P w K mg base N qual (cQ st) f cdv A outer s H E).nox (aX st) (oQ K ts))(hl:∀args Qd,con args Qd->args.length=ps.length) (hc:∀args Qd,con args Qd->(∀s∈args,∀d,s≠.ow d)/\ts (jY args Qd) (AJ N.length args)):FnOk P w K mg base DX (k+1) f fd ps (dQ K con):=by
 refine F.ok S (λvs H Q E h=>?_) (λcdv A outer s H vs Q E hr h=>⟨_,hb cdv A outer s H E hr,yu hc h⟩);obtain⟨G,F',args,Qd,R,w',_⟩:=h;have h1:=hl args Qd w';have h2:=R.len;rw[q0,q0]at h2;rw[h2,h1]
end
noncomputable def fL:List Sl->Bool
 |[]=>true
 | .ow _::_=>false
 |_::as=>fL as
theorem RJ:∀{as:List Sl},fL as=true->∀s∈as,∀d,s≠.ow d
 | .fz _::as,h,s,hs,d,z=>by
  rcases Y0.mp hs with e|e
  .subst e;cases z
  .exact RJ (as:=as) h s e d z
 | .io _::as,h,s,hs,d,z=>by
  rcases Y0.mp hs with e|e
  .subst e;cases z
  .exact RJ (as:=as) h s e d z
theorem DaAll.intsV{K:Fg}{F:Hp}:∀{xs:List V}{ns:Qa},DaAll K F xs (ns.map j0)->xs=ns.map V.int
 |[],[],_=>rfl
 |x::xs,b::bs,.cons h t=>by cases h;simp[DaAll.intsV t]
def AC(i j:Int):Prop:=-(2 ^ 62)<=i/\i<2 ^ 62/\-(2 ^ 62)<=j/\j<2 ^ 62
def Nq:List V->Hp->VK->Prop:=λxs H Q=>∃i j:Int,(xs=[.int i,.int j]\/(xs=[.int j]/\i=0))/\∀p,H p=none->Q (.ref p) (DQ H p (.rng i j))
def gH:fX X (.type "range") Nq:=by
 intro pins s σ H xs us Q I r h;obtain⟨i,j,hx,q⟩:=h;have lay:∀(t u v:Tok) (tk:Nat),EP X pins σ Q (.ref s.heap.objs.size) {s with heap:=s.heap.push {cls:=.type "range",data:=.fields #[.int i t,.int j u,.int 1 v]},toks:=tk}:=λt u v tk=>⟨.ref s.heap.objs.size,_,I.laid (t':=tk) (o:=.rng i j) (λb o e=>i0 _ e) (M0 _) ⟨t,u,v,v0 _ rfl⟩,rfl,q _ (I.hok.fresh (M0 _))⟩;rcases hx with rfl|⟨rfl,rfl⟩
 .obtain⟨u,w,rfl,ru,rw'⟩:=vY r;obtain⟨t,rfl⟩:=ru;obtain⟨t',rfl⟩:=rw';exact call_range_2 (lay _ _ _ _)
 .obtain⟨u,rfl,ru⟩:=iZ r;obtain⟨t,rfl⟩:=ru;exact call_range_1 (lay _ _ _ _)
def SJ:List V->Hp->VK->Prop:=λxs H Q=>∃(p:Addr) (i j:Int),xs=[.ref p]/\H p=some (.rng i j)/\AC i j/\(j-i).toNat<=2 ^ 24/\∀l,H l=none->Q (.ref l) (DQ H l (.lst ((K2 (j-i).toNat).map λ(n:Nat)=>V.int (i+n))))
def zY(hc:X.calm=true):fX X (.type "list") SJ:=by
 intro pins s σ H xs us Q I r h;obtain⟨p,i,j,rfl,hp,⟨b1,b2,b3,b4⟩,hz,q⟩:=h;obtain⟨u,rfl,ru⟩:=iZ r;cases ru;obtain⟨t,u,v,e⟩:=I.hok p _ hp;have hn:W7 i j 1=((j-i).toNat:Int):=by rw[rangeSize_one];split<;>lia
 refine call_list_range (I.ok.hd hc) e (small_one b1 b2 b3 b4) hn hz λh' tk acc' c' hk hS hacc=>?_;refine ⟨.ref s.heap.objs.size,_,I.laid (t':=tk) (o:=.lst ((K2 (j-i).toNat).map λ(n:Nat)=>V.int (i+n))) hk (M0 _) ?_,rfl,q _ (I.hok.fresh (M0 _))⟩;refine ⟨by rw[q0,List.length_range];exact hz,acc'.toList,c',?_,by simpa using hS⟩;have gen:∀(n:Nat) (ys:List Value),ys.length=n->(∀(k:Nat) (y:Value),ys[k]?=some y->∃t,y=.int (i+k*1) t)->Vals ((K2 n).map λ(n:Nat)=>V.int (i+n)) ys:=by
  intro n;induction n with
  |zero=>intro ys hl _;cases ys with|nil=>exact .nil|cons=>simp at hl
  |succ n ih =>
   intro ys hl hy;rcases List.eq_nil_or_concat ys with rfl|⟨zs,z,rfl⟩
   .simp at hl
   .rw[List.concat_eq_append]at hl hy ⊢;have hl':zs.length=n:=by simpa using hl
    rw[List.range_succ,U3];refine Vals.append (ih zs hl' λk y e=>hy k y (by rw[J2 (pX e)];exact e)) ?_;obtain⟨t,rfl⟩:=hy n z (by rw[<-hl'];simp);exact .cons ⟨t,by simp⟩ .nil
 refine gen _ _ (by rw[P0];exact hacc.1) λk y e=>?_;exact hacc.2 k y (by simpa using e)
noncomputable def gL:D->D->(Sl->Prop)->Prop
 | .int i,.int j,Q=>AC i j/\(j-i).toNat<=2 ^ 24/\Q (.ow (.list (KQ i (j-i).toNat)))
 |_,_,_=>False
def iL{K:Fg}:UQ K (λvs H Q=>Nq vs H λv H1=>SJ [v] H1 Q) (o2 gL):=by
 intro G F σ H ρ vs ds Q Qd R a w k;match ds,a,w with
 |[d,e],a,w =>
  obtain⟨v,u,rfl,h1,h2⟩:=a.two;have w:gL d e Qd:=w;unfold gL at w;split at w
  rotate_left
  .exact w.elim
  rename_i i j w;cases h1.int;cases h2.int;refine ⟨i,j,.inl rfl,λp hp=>⟨p,i,j,rfl,kQ,w.1,w.2.1,λl hl=>?_⟩⟩;have R1:Rel K G F σ (DQ H p (.rng i j)) ρ:=R.laid hp;have da:DaAll K F ((K2 (j-i).toNat).map λ(n:Nat)=>V.int (i+n)) (KQ i (j-i).toNat):=by have:=DaAll.ints (K:=K) (F:=F) ((K2 (j-i).toNat).map λ(n:Nat)=>i+(n:Int));simpa [KQ,O0,Function.comp_def]using this
  obtain⟨R',r'⟩:=R1.newOw (o:=.lst _) (d:=.list (KQ i (j-i).toNat)) hl da;exact k _ _ F _ (Sub.refl _) R' r' w.2.2
section
variable {K:Fg}{e:Expr}{a b:AD}
def jL(h:PE X e (qu SJ (qK (qu Nq (rQ ([a,b].map (jQ K)))) bq))):PE X e (lift K (eY [a,b] (o2 gL))):=yY h λq=>XW iL q
end
noncomputable def qW(ρ:Ev):List (OQ×Sum Nat D)->(List (D×D)->Prop)->Prop
 |[],k=>k []
 |(c,.inr d)::r,k=>qW ρ r λes=>k ((xK c,d)::es)
 |(c,.inl i)::r,k=>match ρ[i]? with
  |some (some (.fz d))=>qW ρ r λes=>k ((xK c,d)::es)
  |_=>False
def Bu(its:List (OQ×Sum Nat D)):TD:=λρ Q=>qW ρ its λes=>Q (.ow (.dict es)) ρ
noncomputable def yN:Sum Nat D->TE
 | .inl i=>CZ i
 | .inr (.int n)=>tC (.int n)
 | .inr _=>λ_ _ _=>False
theorem jU{K:Fg}{G:Gh}{F H1:Hp}{σ:L2.St}{ρ:Ev}(R:Rel K G F σ H ρ):∀{its:List (OQ×Sum Nat D)}{kk:List (D×D)->Prop}{Qp:List (V×V)->Hp->Prop},(∀p∈its,∀d,p.2=.inr d->∃n,d=.int n)->qW ρ its kk -> (∀kvs es,DaKV K F kvs es->kvs.map (·.1)=its.map (·.1)->kk es->Qp (kvs.map λkv=>(kV kv.1,kv.2)) H1)->cU (its.map λp=>(tC (kV p.1),yN p.2)) σ H1 Qp
 |[],kk,Qp,_,w,k=>k [] [] .nil rfl w
 |(c,.inr d)::r,kk,Qp,hc,w,k=>by obtain⟨n,rfl⟩:=hc (c,.inr d) R0 d rfl;refine jU R (its:=r) (λp hp=>hc p (K0 _ hp)) w λkvs es da e q=>?_;exact k ((c,.int n)::kvs) _ (.cons (.int n) da) (by simp[e]) q
 |(c,.inl i)::r,kk,Qp,hc,w,k=>by
  unfold qW at w;split at w
  .rename_i d ed;obtain⟨v,ev,dv⟩:=R.fz i d ed;refine ⟨v,ev,jU R (its:=r) (λp hp=>hc p (K0 _ hp)) w λkvs es da e q=>?_⟩;exact k ((c,v)::kvs) _ (.cons dv da) (by simp[e]) q
  .exact w.elim
theorem EK:∀(kvs acc:List (OQ×V)),((acc++kvs).map (·.1)).Nodup->qJ acc kvs=acc++kvs
 |[],acc,_=>by simp[qJ]
 |(c,v)::r,acc,h=>by
  have hn:TZ acc c=none:=by unfold TZ;rw[List.find?_eq_none.mpr ?_];rfl;intro x hx;simp only[decide_eq_true_eq];intro z;simp only[U3,E1,List.nodup_append]at h;exact h.2.2 x.1 (o7 hx) c R0 z
  have e:EZ acc c v=acc++[(c,v)]:=Wz v hn;show qJ (EZ acc c v) r=_;rw[e,EK r (acc++[(c,v)]) (by simpa using h)];simp
def Zv{K:Fg}(its:List (OQ×Sum Nat D))(hn:(its.map (·.1)).Nodup)(hl:its.length<=15)(hc:∀p∈its,∀d,p.2=.inr d->∃n,d=.int n)(h:PE X e (cj (its.map λp=>(tC (kV p.1),yN p.2)))):PE X e (lift K (Bu its)):=yY h λ{σ H Q} q=>by
 obtain⟨G,F,ρ,Qd,R,w,k⟩:=q;intro p hp;refine jU R hc w λkvs es da ek q=>⟨kQ,kvs,rfl,?_,?_⟩
 .have:=congrArg J3 ek;simp at this;lia
 .rw[EK kvs [] (by simpa [ek]using hn),Aw];obtain⟨R',r'⟩:=R.newOw (o:=.dK ([]++kvs)) (d:=.dict es) hp (by rw[g7];exact da);exact k _ _ F _ ρ (Sub.refl _) R' r' q
noncomputable def clean1(ρ:Ev)(i:Nat):Ev:=match ρ[i]? with
 |some (some (.io _))=>ρ
 |some _=>ρ.set i none
 |none=>ρ
noncomputable def clean(ks:List Nat)(ρ:Ev):Ev:=match ks with
 |[]=>ρ
 |i::r=>clean r (clean1 ρ i)
section
variable {K:Fg}{G:Gh}{F:Hp}{σ:L2.St}{ρ:Ev}
def Rel.drop(R:Rel K G F σ H ρ){i:Nat}(hn:∀d,ρ[i]?≠some (some (Sl.io d))):Rel K G F σ H (ρ.set i none):=by
 refine ⟨by rw[L4];exact R.len,R.sub,R.sub0,R.fn,R.keep,R.tb,λj d e=>?_,λj t e wt=>?_,λj d b e eb=>?_,λj b e=>?_,λj d e=>?_,λj k t u b e1 w1 e2 w2 e3 e4=>?_⟩
 .rcases pQ e with⟨rfl,z⟩|⟨n,z⟩
  .cases z
  .exact R.fz j d z
 .rcases pQ e with⟨rfl,z⟩|⟨n,z⟩
  .cases z
  .exact R.ow j t z wt
 .rcases pQ e with⟨rfl,z⟩|⟨n,z⟩
  .cases z
  .exact R.new j d b z eb
 .obtain⟨d',e1,e2⟩:=R.io j b e;have n:i≠j:=λz=>by subst z;exact hn _ e1
  exact ⟨d',by rw[J1 n];exact e1,e2⟩
 .rcases pQ e with⟨rfl,z⟩|⟨n,z⟩
  .cases z
  .exact R.ioi j d z
 .rcases pQ e1 with⟨rfl,z⟩|⟨n,z⟩
  .cases z
  .rcases pQ e2 with⟨rfl,z'⟩|⟨n',z'⟩
   .cases z'
   .exact R.ap j k t u b z w1 z' w2 e3 e4
def Rel.clean1(R:Rel K G F σ H ρ)(i:Nat):Rel K G F σ H (clean1 ρ i):=by
 unfold L3.clean1;split
 .exact R
 .rename_i e1 e2;exact R.drop λd z=>by rw[e2]at z;cases z;exact e1 _ rfl
 .exact R
def Rel.clean(ks:List Nat):∀{ρ:Ev},Rel K G F σ H ρ->Rel K G F σ H (clean ks ρ):=by
 induction ks with
 |nil=>intro ρ R;exact R
 |cons i r ih=>intro ρ R;exact ih (R.clean1 i)
end
noncomputable def fZ(ks:List Nat)(g:jJ)(tb:mJ)(E:DE):List D->Ev->Prop
 |[],ρ=>E.nx ρ
 |d::ds,ρ=>g d ρ λρ'=>tb {nx:=λρ2=>fZ ks g tb E ds (clean ks ρ2),rt:=E.rt,bk:=λρ2=>E.nx (clean ks ρ2),ct:=λρ2=>fZ ks g tb E ds (clean ks ρ2)} ρ'
noncomputable def TF(ks:List Nat)(ti:UU)(g:jJ)(tb:mJ):mJ:=λE ρ=>ti ρ λds ρ'=>fZ ks g tb E ds (clean ks ρ')
def BC{K:Fg}{g:jJ}{E:Ends}(h:oQ K (TF ks ti g tb) E σ H):aB (kX K ti) (YQ K g) (oQ K tb) E σ H:=by
 obtain⟨G,F,ρ,D,R,w,n,r,b,c⟩:=h;refine ⟨G,F,ρ,_,R,w,λJ H1 F1 ds ρ1 s1 R1 wk w1=>?_⟩;refine ⟨λi m σ H=>m=ds.length-i/\i<=ds.length/\∃F' ρ',Sub F1 F'/\Rel K G F' σ H ρ'/\fZ ks g tb D (ds.drop i) ρ',⟨ds.length,rfl,P3 _,F1,_,Sub.refl _,R1.clean ks,w1⟩,?_⟩;rintro i m σ H ⟨rfl,hi,F',ρ',s',R',w'⟩;obtain⟨hgo,hst⟩:=wk i H F' s' R'.sub;cases e:ds[i]? with
 |none=>have hl:ds.length<=i:=N4.mp e;refine .inl ⟨hst (by lia),?_⟩;rw[S3 hl]at w';exact n σ H F' ρ' (s1.trans s') R' w'
 |some d =>
  obtain⟨go,yl⟩:=hgo d e;have hl:=pX e;rw[kW e]at w';refine .inr ⟨go,λσ2 H2=>∃F2 ρ2,Sub F1 F2/\Rel K G F2 σ2 H2 ρ2/\fZ ks g tb D (ds.drop (i+1)) ρ2,λσ2 H2 ⟨F2,ρ2,z1,z2,z3⟩=>⟨ds.length-(i+1),by lia,rfl,hl,F2,ρ2,z1,z2,z3⟩,λx H2 y=>?_⟩;obtain⟨F2,t1,t2,t3,t4,t5⟩:=yl x H2 y;have R2:=R'.turn t1 t2 t3 t4;refine ⟨G,F2,ρ',d,_,R2,t5,w',λσ3 ρ3 R3 w3=>?_⟩;refine ⟨G,F2,ρ3,_,R3,w3,λσ4 H4 F4 ρ4 s4 R4 q=>?_,λv σ4 H4 F4 x4 ρ4 s4 R4 r4 q=>?_,λσ4 H4 F4 ρ4 s4 R4 q=>?_,λσ4 H4 F4 ρ4 s4 R4 q=>?_⟩
  .exact ⟨F4,_,s'.trans (t1.trans s4),R4.clean ks,q⟩
  .exact r v σ4 H4 F4 x4 ρ4 (s1.trans (s'.trans (t1.trans s4))) R4 r4 q
  .exact n σ4 H4 F4 _ (s1.trans (s'.trans (t1.trans s4))) (R4.clean ks) q
  .exact ⟨F4,_,s'.trans (t1.trans s4),R4.clean ks,q⟩
def ay{K:Fg}{st:Stmt}(ks:List Nat){ti:UU}{g:jJ}(h:PS X st (aB (kX K ti) (YQ K g) (oQ K t))):PS X st (oQ K (TF ks ti g t)):=Mq h BC
theorem qZ{ks:List Nat}{g:jJ}{tb:mJ}{E:DE}(J:List D->Ev->Prop)(hs:∀d ds ρ,J (d::ds) ρ->∀N:Ev->Prop,(∀ρ2,J ds ρ2->N ρ2)->g d ρ λρ'=>tb {nx:=λρ2=>N (clean ks ρ2),rt:=E.rt,bk:=λρ2=>E.nx (clean ks ρ2),ct:=λρ2=>N (clean ks ρ2)} ρ')(hd:∀ρ,J [] ρ->E.nx ρ):∀{ds:List D}{ρ:Ev},J ds ρ->fZ ks g tb E ds ρ
 |[],ρ,h=>hd ρ h
 |d::ds,ρ,h=>hs d ds ρ h _ λρ2 h2=>qZ J hs hd h2
noncomputable def EX(n:Nat)(g:jJ)(tc:RK)(te:TD):List D->List D->Ev->(List D->Ev->Prop)->Prop
 |[],acc,τ,Q=>Q acc τ
 |d::ds,acc,τ,Q=>g d τ λτ1=>tc τ1 λb τ2=>if b=true then te τ2 λr τ3=>EX n g tc te ds (acc++[r.d]) (clean (K2 n) τ3) Q else EX n g tc te ds acc (clean (K2 n) τ2) Q
def nY(ti:UU)(own:List Str)(fr:List Nat)(g:jJ)(tc:RK)(te:TD):TD:=λρ Q=>ti ρ λds ρ1=>ds.length<=sizeLine/\EX own.length g tc te ds [] (ZZ own fr ρ1) λys τ=>Q (.ow (.list ys)) (fY fr (τ.drop own.length) 0 ρ1)
def UF{K:Fg}{g:jJ}(nd:fr.Nodup){σ:L2.St}{H:Hp}{Q:VK}(h:lift K (nY ti own fr g tc te) σ H Q):dY (kX K ti) own fr (YQ K g) (wQ K tc) (lift K te) σ H Q:=by
 obtain⟨G,F,ρ,Qd,R,w,k⟩:=h;refine ⟨G,F,ρ,_,R,w,λJ H1 F1 ds ρ1 s1 R1 wk ⟨hz,w1⟩=>?_⟩;have Ri:=R1.inner (own:=own) nd;refine ⟨λi m ys τ H=>m=ds.length-i/\i<=ds.length/\∃F' ρ' acc,Rel K (uw own fr F1 H1 σ ρ1) F' τ H ρ'/\DaAll K F' ys acc/\acc.length<=i/\EX own.length g tc te (ds.drop i) acc ρ' (λys τ=>Qd (.ow (.list ys)) (fY fr (τ.drop own.length) 0 ρ1)),
   ⟨ds.length,rfl,P3 _,F1,_,[],Ri,.nil,P3 _,w1⟩,?_⟩;rintro i m ys τ H' ⟨rfl,hi,F',ρ',acc,R',da,hl,w'⟩;obtain⟨hgo,hst⟩:=wk i H' F' R'.sub0 R'.sub;cases e:ds[i]? with
 |none=>have hl':ds.length<=i:=N4.mp e;refine .inl ⟨hst (by lia),λDd hD=>?_⟩;rw[S3 hl']at w';have Ro:=R1.outer R' nd;obtain⟨Rn,rn⟩:=Ro.newOw (o:=.lst ys) (d:=.list acc) hD da;exact k _ _ F' _ _ (s1.trans R'.sub0) Rn rn w'
 |some d =>
  obtain⟨go,yl⟩:=hgo d e;have hlt:=pX e;rw[kW e]at w';refine .inr ⟨go,by rw[da.length];lia,λys2 τ2 H2=>∃F2 ρ2 acc2,Rel K (uw own fr F1 H1 σ ρ1) F2 τ2 H2 ρ2/\DaAll K F2 ys2 acc2/\acc2.length<=i+1/\EX own.length g tc te (ds.drop (i+1)) acc2 ρ2 (λys τ=>Qd (.ow (.list ys)) (fY fr (τ.drop own.length) 0 ρ1)),
    λys2 τ2 H2 ⟨F2,ρ2,acc2,z1,z2,z3,z4⟩=>⟨ds.length-(i+1),by lia,rfl,hlt,F2,ρ2,acc2,z1,z2,z3,z4⟩,λx H2 y=>?_⟩;obtain⟨F2,t1,t2,t3,t4,t5⟩:=yl x H2 y;have R2:=R'.turn t1 t2 t3 t4;refine ⟨_,F2,ρ',d,_,R2,t5,w',λτ3 ρ3 R3 w3=>?_⟩;refine ⟨_,F2,ρ3,_,R3,w3,λb H4 F4 ρ4 s4 R4 w4=>?_⟩;cases b with
  |false=>exact ⟨F4,_,acc,R4.clean _,da.mono (t1.trans s4),by lia,w4⟩
  |true=>refine ⟨_,F4,ρ4,_,R4,w4,λv H5 F5 r ρ5 s5 R5 r5 w5=>?_⟩;obtain⟨F6,s6,R6,d6⟩:=r5.frz R5;exact ⟨F6,_,acc++[r.d],R6.clean _,(da.mono (t1.trans (s4.trans (s5.trans s6)))).append (.cons d6 .nil),by simp;lia,w5⟩
section
variable {K:Fg}{e:Expr}{st:Stmt}{ti:UU}{own:List Str}{g:jJ}{tc:RK}{te:TD}
def Rj(nd:fr.Nodup)(h:PE X e (dY (kX K ti) own fr (YQ K g) (wQ K tc) (lift K te))):PE X e (lift K (nY ti own fr g tc te)):=yY h (UF nd)
def Sj(nd:fr.Nodup)(h:PS X st (UK (dY (kX K ti) own fr (YQ K g) (wQ K tc) (lift K te)) (oJ i))):PS X st (oQ K (fG i (nY ti own fr g tc te))):=Mq h λq=>UF nd (xu q)
end
theorem VF{g:jJ}{tc:RK}{te:TD}{Q:List D->Ev->Prop}(J:List D->List D->Ev->Prop)(hs:∀d ds acc τ,J (d::ds) acc τ->∀N:List D->Ev->Prop,(∀acc2 τ2,J ds acc2 τ2->N acc2 τ2)->g d τ λτ1=>tc τ1 λb τ2=>if b=true then te τ2 λr τ3=>N (acc++[r.d]) (clean (K2 n) τ3) else N acc (clean (K2 n) τ2))(hd:∀acc τ,J [] acc τ->Q acc τ):∀{ds acc:List D}{τ:Ev},J ds acc τ->EX n g tc te ds acc τ Q
 |[],acc,τ,h=>hd acc τ h
 |d::ds,acc,τ,h=>hs d ds acc τ h _ λacc2 τ2 h2=>VF J hs hd h2
def Cu{g:jJ}{Q:List D->Ev->Prop}(J:List D->List D->Ev->Prop)(hs:∀d ds acc τ,J (d::ds) acc τ->∀N:List D->Ev->Prop,(∀acc2 τ2,J ds acc2 τ2->N acc2 τ2)->g d τ λτ1=>te τ1 λr τ3=>N (acc++[r.d]) (clean (K2 n) τ3))(hd:∀acc τ,J [] acc τ->Q acc τ) {ds acc:List D}{τ:Ev} (h:J ds acc τ):EX n g eG te ds acc τ Q:=
 VF J (λd ds acc τ h N hN=>by
   have q:=hs d ds acc τ h N hN;have e:(λτ1=>te τ1 λr τ3=>N (acc++[r.d]) (clean (K2 n) τ3))=λτ1=>eG τ1 λb τ2=>if b=true then te τ2 (λr τ3=>N (acc++[r.d]) (clean (K2 n) τ3)) else N acc (clean (K2 n) τ2):=by funext τ1;show _=(if true=true then te τ1 (λr τ3=>N (acc++[r.d]) (clean (K2 n) τ3)) else N acc (clean (K2 n) τ1));rw[if_pos rfl]
   rw[<-e];exact q) hd h
def rZ{g:jJ}{Q:List D->Ev->Prop}(f:D->D){τ:Ev}{ds:List D}(hs:∀d∈ds,∀N:D->Ev->Prop,N (f d) τ->g d τ λτ1=>te τ1 λr τ3=>N r.d (clean (K2 n) τ3))(hd:Q (ds.map f) τ):EX n g eG te ds [] τ Q:=by
 refine Cu (λrest acc τ'=>τ'=τ/\∃pre,ds=pre++rest/\acc=pre.map f) ?_ ?_ ⟨rfl,[],rfl,rfl⟩
 .rintro d ds' acc τ' ⟨rfl,pre,e,rfl⟩ N hN;exact hs d (by rw[e];simp) (λx τ3=>N (pre.map f++[x]) τ3) (hN _ _ ⟨rfl,pre++[d],by rw[e];simp,by simp⟩)
 .rintro acc τ' ⟨rfl,pre,e,rfl⟩;rw[O2]at e;subst e;exact hd
def zN{g:jJ}{Q:List D->Ev->Prop}(p:D->Bool)(f:D->D){τ:Ev}{ds:List D}(hs:∀d∈ds,∀(N:D->Ev->Prop) (M:Ev->Prop),(p d=true->N (f d) τ)->(p d=false->M τ)->g d τ λτ1=>tc τ1 λb τ2=>if b=true then te τ2 λr τ3=>N r.d (clean (K2 n) τ3) else M (clean (K2 n) τ2))(hd:Q ((ds.filter p).map f) τ):EX n g tc te ds [] τ Q:=by
 refine VF (λrest acc τ'=>τ'=τ/\∃pre,ds=pre++rest/\acc=(pre.filter p).map f) ?_ ?_ ⟨rfl,[],rfl,rfl⟩
 .rintro d ds' acc τ' ⟨rfl,pre,e,rfl⟩ N hN;exact hs d (by rw[e];simp) (λx τ3=>N ((pre.filter p).map f++[x]) τ3) (λτ3=>N ((pre.filter p).map f) τ3) (λhp=>hN _ _ ⟨rfl,pre++[d],by rw[e];simp,by simp[hp]⟩)
   (λhp=>hN _ _ ⟨rfl,pre++[d],by rw[e];simp,by simp[hp]⟩)
 .rintro acc τ' ⟨rfl,pre,e,rfl⟩;rw[O2]at e;subst e;exact hd
structure WE(X:Cx)(e:Expr)(t:TE):Prop where
 h:PE X e t
structure WA(X:Cx)(es:List Expr)(t:TA):Prop where
 h:PA X es t
structure WT(X:Cx)(e:Expr)(t:TT):Prop where
 h:PT X e t
structure WW(X:Cx)(e:Expr)(t:TT):Prop where
 h:PW X e t
structure WS(X:Cx)(s:Stmt)(t:TS):Prop where
 h:PS X s t
structure WSs(X:Cx)(s:List Stmt)(t:TS):Prop where
 h:PSs X s t
structure WG(X:Cx)(e:Expr)(t:TG):Prop where
 h:PG X e t
structure WGs(X:Cx)(es:List Expr)(t:tw):Prop where
 h:ju X es t
structure WI(X:Cx)(g e:Expr)(t:TI):Prop where
 h:PI X g e t
structure WIf(X:Cx)(es:List Expr)(t:TT):Prop where
 h:fj X es t
section
variable {K:Fg}{e e1 e2 e3:Expr}{es:List Expr}{a b c:AD}{as:List AD}{td te tf:TD}{tc tc':RK}{st:Stmt}{sts:List Stmt}{t u:mJ}{p pos p2 apos cpos tpos:Pos}{x:Str}
def wn(i:Nat)(hN:X.N[i]?=some x:=by rfl)(hv:SE X.env.scope x:=by first|exact Or.inl rfl|exact Or.inr (Or.inl rfl)|exact Or.inr (Or.inr rfl))(hd:(x==("__debug__":Str))=false:=by decide)
  (hcd:(x==("__classdict__":Str))=false:=by decide):WE X (.Name x pos) (jQ K (.inl i)):=⟨OH hN hv hd hcd⟩
def wv(i:Nat)(hN:X.N[i]?=some x:=by rfl)(hv:SE X.env.scope x:=by first|exact Or.inl rfl|exact Or.inr (Or.inl rfl)|exact Or.inr (Or.inr rfl))(hd:(x==("__debug__":Str))=false:=by decide)
  (hcd:(x==("__classdict__":Str))=false:=by decide):WE X (.Name x pos) (lift K (rj i)):=⟨eC (OH hN hv hd hcd)⟩
def wx(h:WE X e (lift K td)):WE X e (jQ K (.inr td)):=⟨h.h⟩
def bQ:WA X [] (rQ (([]:List AD).map (jQ K))):=⟨DZ⟩
def aQ(ha:WE X e (jQ K a))(hr:WA X es (rQ (as.map (jQ K))))(hs:notStar e=true:=by rfl):WA X (e::es) (rQ ((a::as).map (jQ K))):=⟨Iv ha.h hr.h (starEach_of hs)⟩
def iQ:WE X (.Constant (.int i) k pos) (lift K (dC (.int i))):=⟨Jv (λ_=>.int _) PH⟩
def kU{b:Bool}:WE X (.Constant (.bool b) k pos) (lift K (dC (.bool b))):=⟨Jv (λ_=>.bl _) cI⟩
def AY{z:Str}:WE X (.Constant (.str z) k pos) (lift K (dC (.str z))):=⟨Jv (λ_=>.str _) WV⟩
def w_bin{r:R2}(ok:UQ K (GY r) (o2 f))(ho:OpR X (binaryOp op) r)(ha:WE X e1 (jQ K a))(hb:WE X e2 (jQ K b)):WE X (.BinOp e1 op e2 pos) (lift K (eY [a,b] (o2 f))):=⟨gC ok (lI ho ha.h hb.h)⟩
def zV{op:CmpOp}{r:R2}{f:D->D->(Sl->Prop)->Prop}(ok:UQ K (GY r) (o2 f))(ho:OpR X (compareOp op) r)(ha:WE X e1 (jQ K a))(hb:WE X e2 (jQ K b))(hm:op≠.In:=by decide)(hm2:op≠.NotIn:=by decide):WE X (.Compare e1 [op] [e2] pos) (lift K (eY [a,b] (o2 f))):=⟨gC ok (uF ho ha.h hb.h (Nz _ hm hm2))⟩
def cy{op op':CmpOp}{p q:Int->Int->Bool}(ho:OpR X (compareOp op) (EY λi j=>.bl (p i j)))(ho':OpR X (compareOp op') (EY λi j=>.bl (q i j)))(ha:WE X e1 (jQ K a))(hb:WE X e2 (jQ K b))(hc:WE X e3 (jQ K c))
  (hm:lastMarks [op,op'] [e2,e3]=false:=by with_unfolding_all rfl):WE X (.Compare e1 [op,op'] [e2,e3] pos) (lift K (lG p q a b c)):=⟨Nj (Pz ho ho' ha.h hb.h hc.h hm)⟩
def Tj(h:WE X e tr):WE X (.BoolOp op [e] pos) tr:=⟨Q9 h.h⟩
def WF{rest:List Expr}(ha:WE X e1 (lift K td))(hb:WE X (.BoolOp .And (e2::rest) pos) (lift K te)):WE X (.BoolOp .And (e1::e2::rest) pos) (lift K (sj td te)):=⟨mC (R9 ha.h hb.h)⟩
def w_not(ha:WE X e1 (lift K td)):WE X (.UnaryOp .Not e1 pos) (lift K (tj td)):=⟨oC (S9 ha.h)⟩
def kL(hc:WT X e1 (wQ K tc))(ha:WE X e2 (lift K td))(hb:WE X e3 (lift K te)):WE X (.IfExp e1 e2 e3 pos) (lift K (jN tc td te)):=⟨VI (Cz hc.h ha.h hb.h)⟩
def QQ{k:Nat}{ps:List Str}{con:Con}(C:Cal X.prog X.w X.K X.mg X.base k x ps (dQ K con))(hr:Room k X.A)(ha:WA X (e::es) (rQ (as.map (jQ K))))(hg:Gl X x:=by rfl)(hdb:(x==("__debug__":Str))=false:=by decide)
  (he:notStar e=true:=by rfl) (hpl:es.all notStar=true:=by rfl):WE X (.Call (.Name x p) (e::es) [] pos) (lift K (xV con as)):=⟨Au (ij C hr ha.h hg hdb (starEach_of he) (AQ hpl))⟩
def oX{k i:Nat}{ps:List Str}{con:Con}(C:Cal X.prog X.w X.K X.mg X.base k x ps (dQ K con))(hr:Room k X.A)(ha:WA X (e::es) (rQ ((Sum.inl i::as).map (jQ K))))(hg:Gl X x:=by rfl)(hdb:(x==("__debug__":Str))=false:=by decide)
  (he:notStar e=true:=by rfl) (hpl:es.all notStar=true:=by rfl):WE X (.Call (.Name x p) (e::es) [] pos) (lift K (eU con i as)):=⟨pC (ij C hr ha.h hg hdb (starEach_of he) (AQ hpl))⟩
def sQ{id:String}{r:List V->Hp->VK->Prop}{f:List D->(Sl->Prop)->Prop}(ok:UQ K r f)(hc:fX X (.builtin id) r)(hm:X.mg x=none)(hv:bootBuiltins x=some (.builtin id))(ha:WA X (e::es) (rQ (as.map (jQ K))))(hg:Gl X x:=by rfl)(hn:x ≠ "__name__":=by decide)(hdb:(x==("__debug__":Str))=false:=by decide)
  (he:notStar e=true:=by rfl) (hpl:es.all notStar=true:=by rfl):WE X (.Call (.Name x p) (e::es) [] pos) (lift K (eY as f)):=⟨mO ok (sK hc hg hm hv ha.h hn hdb (starEach_of he) (AQ hpl))⟩
def IQ{T:String}{r:List V->Hp->VK->Prop}{f:List D->(Sl->Prop)->Prop}(ok:UQ K r f)(hc:fX X (.type T) r)(hm:X.mg x=none)(hv:bootBuiltins x=some (.type T))(ha:WA X (e::es) (rQ (as.map (jQ K))))(hg:Gl X x:=by rfl)(hn:x ≠ "__name__":=by decide)(hdb:(x==("__debug__":Str))=false:=by decide)
  (he:notStar e=true:=by rfl) (hpl:es.all notStar=true:=by rfl):WE X (.Call (.Name x p) (e::es) [] pos) (lift K (eY as f)):=⟨mO ok (JZ hc hg hm hv ha.h hn hdb (starEach_of he) (AQ hpl))⟩
def iH(T:Ki)(hK:X.K=K)(hm:X.mg "isinstance"=none){y:Str}(hm2:X.mg y=none)(hv2:bootBuiltins y=some (.type T.nm))(ha:WE X e1 (jQ K a))(hg:Gl X "isinstance":=by rfl)(hg2:Gl X y:=by rfl)(hy:y ≠ "__name__":=by decide)(hy2:(y==("__debug__":Str))=false:=by decide)(he:notStar e1=true:=by rfl) :
  WE X (.Call (.Name "isinstance" p) [e1,.Name y p2] [] pos) (lift K (eY [a] (o1 (VB T)))):=⟨jC T (sK (uq hK) hg hm boot_isinstance (WQ ha.h (WQ (JY hg2 hm2 hv2 (v:=.ty T.nm) rfl hy hy2) DZ (starEach_of rfl)) (starEach_of he)) (by decide) (by decide) (starEach_of he) (AQ rfl))⟩
def AN(hc:X.calm=true)(hm:X.mg "list"=none)(hm2:X.mg "range"=none)(ha:WA X [e1,e2] (rQ ([a,b].map (jQ K))))(hg:Gl X "list":=by rfl)(hg2:Gl X "range":=by rfl)(he:notStar e1=true:=by rfl)(he2:notStar e2=true:=by rfl) :
  WE X (.Call (.Name "list" p) [.Call (.Name "range" p2) [e1,e2] [] pos'] [] pos) (lift K (eY [a,b] (o2 gL))) :=
 ⟨jL (JZ (zY hc) hg hm boot_list (WQ (JZ gH hg2 hm2 boot_range ha.h (by decide) (by decide) (starEach_of he) (AQ (by simp[he2]))) DZ (starEach_of rfl)) (by decide) (by decide) (starEach_of rfl) (AQ rfl))⟩
def bZ(hK:X.K=K)(ha:WE X e1 (jQ K a))(hb:WE X e2 (jQ K b))(hs:yF e2:=by exact λ_ _=>rfl):WE X (.Subscript e1 e2 pos) (lift K (eY [a,b] (o2 rN))):=⟨gC OI (qI (Wv hK) ha.h hb.h hs)⟩
def rW(hu:X.A.units+1<cLine)(ha:WE X e1 (jQ K a))(hb:WE X e2 (jQ K b))(hs:Zz e2:=by exact λ_ _=>rfl):WE X (.Subscript e1 e2 pos) (lift K (eY [a,b] (o2 zu))):=⟨gC Hv (Vw hu ha.h hb.h hs)⟩
def xZ{k:Nat}(h:WA X es (rQ (as.map (jQ K))))(hl:as.length<=1000:=by decide):WE X (.Tuple es k pos) (lift K (Cq as Hj)):=⟨kC hl (iB h.h)⟩
def MZ(h:WA X es (rQ (as.map (jQ K))))(hl:as.length<=1000:=by decide):WE X (.List es pos) (lift K (Cq as Ij)):=⟨lC hl (jB h.h)⟩
def CC(its:List (OQ×Sum Nat D))(hn:(its.map (·.1)).Nodup)(hl:its.length<=15)(hc:∀p∈its,∀d,p.2=.inr d->∃n,d=.int n)(h:PE X e (cj (its.map λp=>(tC (kV p.1),yN p.2)))):WE X e (lift K (Bu its)):=⟨Zv its hn hl hc h⟩
def dX{own:List Str}{ti:UU}{g:jJ}(hc:X.calm=true)(S:jW X.env.scope X.N fr sc=true)(hi:WI X tg iter (kX K ti))(hg:∀C s H ex,WG (xQ X own fr sc C s H ex) tg (YQ K g))
  (hif:∀C s H ex,WIf (xQ X own fr sc C s H ex) ifs (wQ K tc)) (he:∀C s H ex,WE (xQ X own fr sc C s H ex) elt (lift K te)) (nd:fr.Nodup:=by decide) (hs:oW iter=true:=by rfl):WE X (.ListComp elt [⟨tg,iter,ifs,0⟩] sc pos) (lift K (nY ti own fr g tc te)) :=
 ⟨Rj nd (QU hc (cY S) hi.h (λC s H ex=>(hg C s H ex).h) (λC s H ex=>(hif C s H ex).h) (λC s H ex=>(he C s H ex).h) (QJ hs))⟩
def VE{id:String}{i:Nat}{f:List D->List D->(D->D->Prop)->Prop}(ok:zv K r f)(hK:X.K=K)(slot:Slot "list" name id)(hty:typeOf (.builtin id)=pure (.type "method_descriptor"))(hm:vM X id r)(ho:WE X (.Name x p) (jQ K (.inl i)))(ha:WA X (e::es) (rQ (as.map (jQ K))))
  (hbase:attributeBase (.Name x p) name X.env (eval (.Name x p) X.env)=eval (.Name x p) X.env:=by rfl)
  (hfew:((backTo cpos (starEach (e::es) X.env)).all (λx=>!x.1)&&(backToKw cpos (keywordEach [] X.env)).all (λx=>x.1.isSome)&&decide ((e::es).length+([]:List Keyword).length+(if ([]:List Keyword).isEmpty then 0 else 1)<30))=true:=by rfl)
  (hline:(apos.endLine==cpos.line)=true:=by rfl) (he:notStar e=true:=by rfl) (hpl:es.all notStar=true:=by rfl):WE X (.Call (.Attribute (.Name x p) name apos) (e::es) [] cpos) (lift K (yV i as f)):=by
 subst hK;exact ⟨xN ok (vI PySem.F.plainAttrs_list slot hty hm ho.h ha.h hbase hfew hline (starEach_of he) (AQ hpl))⟩
def BN{id:String}{i:Nat}{f:List D->List D->(D->D->Prop)->Prop}(ok:zv K r f)(hK:X.K=K)(slot:Slot "list" name id)(hty:typeOf (.builtin id)=pure (.type "method_descriptor"))(hm:vM X id r)(ho:WE X (.Name x p) (jQ K (.inl i)))
  (hbase:attributeBase (.Name x p) name X.env (eval (.Name x p) X.env)=eval (.Name x p) X.env:=by rfl) (hline:(apos.endLine==cpos.line)=true:=by rfl):WE X (.Call (.Attribute (.Name x p) name apos) [] [] cpos) (lift K (yV i [] f)):=by
 subst hK;exact ⟨XI ok (oB PySem.F.plainAttrs_list slot hty hm ho.h hbase hline)⟩
def sZ{op:CmpOp}{r:R2}{f:D->D->(Sl->Prop)->Prop}(ok:UQ K (GY r) (o2 f))(ho:OpR X (compareOp op) r)(ha:WE X e1 (jQ K a))(hb:WE X e2 (jQ K b))(hm:op≠.In:=by decide)(hm2:op≠.NotIn:=by decide):WT X (.Compare e1 [op] [e2] pos) (wQ K (wq (eY [a,b] (o2 f)))):=⟨nO ok (vF ho ha.h hb.h (Nz _ hm hm2))⟩
def yZ(h:WT X e (wQ K tc)):WT X (.UnaryOp .Not e pos) (wQ K (GB tc)):=⟨rC (P9 h.h)⟩
def DC(h:WT X e (wQ K tc)):WW X (.BoolOp .And [e] pos) (wQ K tc):=⟨Fw h.h⟩
def sW(h:WT X e (wQ K tc)):WW X (.BoolOp .Or [e] pos) (wQ K tc):=⟨N9 h.h⟩
def lL{rest:List Expr}(ha:WT X e1 (wQ K tc))(hb:WW X (.BoolOp .And (e2::rest) pos) (wQ K tc')):WW X (.BoolOp .And (e1::e2::rest) pos) (wQ K (HB tc tc')):=⟨sC (O9 ha.h hb.h)⟩
def tG{rest:List Expr}(ha:WT X e1 (wQ K tc))(hb:WW X (.BoolOp .Or (e2::rest) pos) (wQ K tc')):WW X (.BoolOp .Or (e1::e2::rest) pos) (wQ K (gN tc tc')):=⟨YI (dI ha.h hb.h)⟩
def Du(h:WW X e tt):WT X e tt:=⟨h.h.pt⟩
def cZ(h:WE X e (lift K td))(he:∀whole,isTrue e X.env whole=(do let v<-whole;standAt e.pos;holding [v] (truthy v)):=by intro _;rfl):WT X e (wQ K (wq td)):=⟨qC (K9 h.h he)⟩
def nQ{i:Nat}(hN:X.N.Nodup)(hi:X.N[i]?=some x)(hx:Dw X.env.scope x)(hf:X.fn x=true\/X.env.scope.names.lookup x=some .local:=by first|exact .inl rfl|exact .inr rfl|assumption):WG X (.Name x pos) (YQ K (UE i)):=⟨Rv (Jw hN hi hx hf)⟩
def SX:WGs X [] (YW (([]:List jJ).map (YQ K))):=⟨Kw⟩
def yQ{g:jJ}{gs:List jJ}(h1:WG X e (YQ K g))(h2:WGs X es (YW (gs.map (YQ K))))(hs:(assignEach (e::es) X.env).map (·.2)=assign e X.env::(assignEach es X.env).map (·.2):=by rfl):WGs X (e::es) (YW ((g::gs).map (YQ K))):=⟨Qj h1.h h2.h hs⟩
def AZ{gs:List jJ}{k:Nat}(hK:X.K=K)(hc:X.calm=true)(hh:WGs X es (YW (gs.map (YQ K))))(hn:(assignEach es X.env).length=gs.length:=by rfl)(hst:(assignEach es X.env).findIdx? (·.1)=none:=by rfl):WG X (.Tuple es k pos) (YQ K (yM gs)):=⟨yC (lv hK hc hh.h hn hst) rfl⟩
def tW:WIf X [] (wQ K eG):=⟨Sv⟩
def qO(h:WT X e (wQ K tc)):WIf X [e] (wQ K tc):=⟨AB h.h⟩
def LX(hK:X.K=K)(hl:WE X e (lift K td)):WI X tg e (kX K (OF td)):=⟨zC hK hl.h⟩
def oY(hm:X.mg "range"=none)(ha:WA X [e1] (rQ ([a].map (jQ K))))(hg:Gl X "range":=by rfl)(he:notStar e1=true:=by rfl):WI X tg (.Call (.Name "range" p) [e1] [] pos) (kX K (oG a)):=⟨Tv (YD hg hm ha.h (by rw[starEach_of he];rfl))⟩
def EC(hm:X.mg "range"=none)(ha:WA X [e1,e2] (rQ ([a,b].map (jQ K))))(hg:Gl X "range":=by rfl)(he:notStar e1=true:=by rfl)(he2:notStar e2=true:=by rfl):WI X tg (.Call (.Name "range" p) [e1,e2] [] pos) (kX K (pG a b)):=⟨Uv (ZD hg hm ha.h (by rw[starEach_of he,starEach_of he2];rfl) (by rw[starEach_of he2];rfl))⟩
def pY{ts:List Expr}(hK:X.K=K)(hm:X.mg "zip"=none)(ha:WA X [e1,e2] (rQ ([a,b].map (jQ K))))(hg:Gl X "zip":=by rfl)(he:notStar e1=true:=by rfl)(hpl:[e2].all notStar=true:=by rfl):WI X (.Tuple ts kk tpos) (.Call (.Name "zip" p) [e1,e2] [] pos) (kX K (lY a b)):=⟨Vv (lj hK hg hm ha.h (starEach_of he) (AQ hpl))⟩
def xX:WSs X [] (oQ K uj):=⟨Kv Gw⟩
def mQ(h:WS X st tr):WSs X [st] tr:=⟨Hw h.h⟩
def fQ(h:WS X st (oQ K t))(h2:WSs X sts (oQ K u)):WSs X (st::sts) (oQ K (wj t u)):=⟨uC (Ez h.h h2.h)⟩
def BQ(h:WE X e (lift K td)):WS X (.Return (some e) pos) (oQ K (KB td)):=⟨vC (Hz h.h)⟩
def uW(h:WE X e (jQ K (.inl i))):WS X (.Return (some e) pos) (oQ K (IF i)):=⟨Lv (Hz h.h)⟩
def WX(h:WE X e (lift K td))(hs:cJ e=true:=by rfl):WS X (.Expr e pos) (oQ K (xj td)):=⟨Nv (Iw h.h (BJ hs))⟩
def tZ(hc:WT X e (wQ K tc))(ha:WSs X sa (oQ K t))(hb:WSs X sb (oQ K u)):WS X (.If e sa sb pos) (oQ K (LB tc t u)):=⟨ZI (eI hc.h ha.h hb.h)⟩
def BZ{body:List Stmt}(ks:List Nat){ti:UU}{g:jJ}(hp:PassesOwn (model X.prog X.w) X.A X.env X.xe)(hc:X.calm=true)(hi:WI X tg iter (kX K ti))(hg:WG X tg (YQ K g))(hb:WSs X body (oQ K t))(hs:oW iter=true:=by rfl):WS X (.For tg iter body [] pos) (oQ K (TF ks ti g t)):=⟨ay ks (bB hp hc hi.h hg.h hb.h (QJ hs))⟩
def Uj{i:Nat}(hN:X.N.Nodup)(hi:X.N[i]?=some x)(hx:Dw X.env.scope x)(he:WE X e (lift K td))(hs:cJ e=true:=by rfl)(hf:X.fn x=true\/X.env.scope.names.lookup x=some .local:=by first|exact .inl rfl|exact .inr rfl|assumption):WS X (.Assign [.Name x pos'] e pos) (oQ K (fG i td)):=⟨Oj (QH hN hi hx he.h (BJ hs) hf)⟩
def zs(i:Nat)(hN:X.N.Nodup)(he:WE X e (lift K td))(hi:X.N[i]?=some x:=by rfl)(hx:Dw X.env.scope x:=by exact Or.inl rfl)(hs:cJ e=true:=by rfl)(hf:X.fn x=true\/X.env.scope.names.lookup x=some .local:=by first|exact .inl rfl|exact .inr rfl|assumption):WS X (.Assign [.Name x pos'] e pos) (oQ K (fG i td)):=Uj hN hi hx he hs hf
def uG{i j:Nat}(hN:X.N.Nodup)(hi:X.N[i]?=some x)(hx:Dw X.env.scope x)(he:WE X e (jQ K (.inl j)))(hs:cJ e=true:=by rfl)(hf:X.fn x=true\/X.env.scope.names.lookup x=some .local:=by first|exact .inl rfl|exact .inr rfl|assumption):WS X (.Assign [.Name x pos'] e pos) (oQ K (JF i j)):=⟨Mv (QH hN hi hx he.h (BJ hs) hf)⟩
def vG{own:List Str}{ti:UU}{g:jJ}{i:Nat}(hN:X.N.Nodup)(hy:X.N[i]?=some x)(hl:X.env.scope.names.lookup x=some .local)(hc:X.calm=true)(S:jW X.env.scope X.N fr sc=true)(hi:WI X tg iter (kX K ti))(hg:∀C s H ex,WG (xQ X own fr sc C s H ex) tg (YQ K g))
  (hif:∀C s H ex,WIf (xQ X own fr sc C s H ex) ifs (wQ K tc)) (he:∀C s H ex,WE (xQ X own fr sc C s H ex) elt (lift K te)) (nd:fr.Nodup:=by decide) (hs:oW iter=true:=by rfl) (hsw:swapsWith (.ListComp elt [⟨tg,iter,ifs,0⟩] sc p) (some (.Name x pos')) pos.line X.env=pure true:=by rfl) :
  WS X (.Assign [.Name x pos'] (.ListComp elt [⟨tg,iter,ifs,0⟩] sc p) pos) (oQ K (fG i (nY ti own fr g tc te))) :=
 ⟨Sj nd (RU hN hy hl hc (cY S) hi.h (λC s H ex=>(hg C s H ex).h) (λC s H ex=>(hif C s H ex).h) (λC s H ex=>(he C s H ex).h) hsw (QJ hs))⟩
def CN{j:Nat}(he:WE X e (lift K td))(ho:WE X e1 (jQ K (.inl j)))(hi:WE X e2 (jQ K a))(hs:swapsWithSole [.Subscript e1 e2 pos'] e pos.line X.env=pure false:=by rfl)(hw:swappedStores [.Subscript e1 e2 pos'] e X.env=pure none:=by rfl)
  (ha:∀v,assign (.Subscript e1 e2 pos') X.env v=(do
    let ov<-holding [v] (eval e1 X.env)
    let iv<-holding [v,ov] (eval e2 X.env)
    standAt pos'
    holding [v,ov,iv] (setItem ov iv v)
    release [v,ov,iv] []):=by intro _;rfl) (h1:(assignEach [.Subscript e1 e2 pos'] X.env).map (·.2)=[assign (.Subscript e1 e2 pos') X.env]:=by rfl):WS X (.Assign [.Subscript e1 e2 pos'] e pos) (oQ K (nG j a td)):=⟨aL (Jz he.h (Y9 ho.h hi.h Tz ha) hs hw h1)⟩
def Vj{j:Nat}(hu:X.A.units+1<cLine)(ho:WE X e1 (jQ K (.inl j)))(hi:WE X e2 (jQ K a))(hv:WE X e (lift K td))(hs:cJ e=true:=by rfl):WS X (.Assign [.Subscript e1 e2 pos'] e pos) (oQ K (iU j a td)):=⟨wC (Ww hu ho.h hi.h hv.h (BJ hs))⟩
def lU{g:jJ}(he:WE X e (lift K td))(hg:WG X tg (YQ K g))(hs:swapsWithSole [tg] e pos.line X.env=pure false:=by rfl)(hw:swappedStores [tg] e X.env=pure none:=by rfl)(h1:(assignEach [tg] X.env).map (·.2)=[assign tg X.env]:=by rfl):WS X (.Assign [tg] e pos) (oQ K (Pj g td)):=⟨Pv (Jz he.h hg.h hs hw h1)⟩
end
section
variable {P:Program}{w:World}{K:Fg}{mg:Str->Option Value}{base:Heap}
def DN{st:Stmt}{ts:mJ}(F:Fun K x qual st f fd)(S:FnScope N ps (cQ st))(hb:∀(cdv:Value) (A:Around) (outer:List Env) (s:Shared) (H:Hp) (E:XK),Room k (A.deeper (envOfC qual (cQ st) s.heap.objs.size f cdv))->WSs (YY DX P w K mg base N qual (cQ st) f cdv A outer s H E).nox (aX st) (oQ K ts))(hl:∀args Qd,con args Qd->args.length=ps.length) (hc:∀args Qd,con args Qd->(∀s∈args,∀d,s≠.ow d)/\ts (jY args Qd) (AJ N.length args)):FnOk P w K mg base DX (k+1) f fd ps (dQ K con):=
 FO F S (λcdv A outer s H E hr=>(hb cdv A outer s H E hr).h) hl hc
theorem nJ{x:Str}{st:Stmt}{f:Addr}{ps:List Str}{k:Nat}{con:Con}{ts:mJ}(F:Fun K x qual st f fd)(S:FnScope N ps (cQ st))
  (hb:∀(cdv:Value) (A:Around) (outer:List Env) (s:Shared) (H:Hp) (E:XK),Room k (A.deeper (envOfC qual (cQ st) s.heap.objs.size f cdv))->WSs (YY DX P w K mg base N qual (cQ st) f cdv A outer s H E).nox (aX st) (oQ K ts))
  (hc:∀args Qd,con args Qd->ts (jY args Qd) (AJ N.length args)) (hn:∀args Qd,con args Qd->args.length=ps.length/\∀s∈args,∀d,s≠.ow d:=by intro a q h;repeat first|exact ⟨rfl,RJ rfl⟩|(obtain⟨rfl,_⟩:=h)|(obtain⟨_,h⟩:=h)):FnOk P w K mg base DX (k+1) f fd ps (dQ K con):=DN F S hb (λa q h=>(hn a q h).1) λa q h=>⟨(hn a q h).2,hc a q h⟩
end
end L3
variable {ρ:L3.Ev}
namespace L2
def TX:plainId "dict.update.loop"=true:=by decide +kernel
def CJ:entryFor table "dict.update.loop"=some Builtin.«dict.update.loop»:=entryFor_of_tree (by kernel_rfl)
section
variable {w:World}
end
section
variable {w:World}{R:Result->Shared->Prop}{I:Addr}{wr:List Addr}{P:Nat->Value->Prop}{St:Nat->Heap->Prop}
end
theorem Vals.getV:∀{xs:List V}{us:List Value}{i:Nat}{u:Value},Vals xs us->us[i]?=some u->∃x,xs[i]?=some x/\RelV x u
 |_,_,0,_,.cons r _,e=>⟨_,rfl,by cases e;exact r⟩
 |_,_,i+1,_,.cons _ t,e=>Vals.getV (i:=i) t e
abbrev kK(h:Heap)(z TI TO T:Addr)(fl:Bool):Prop:=h.get? z=some {cls:=.type "zip",dict:=none,data:=.fields #[rawInt T,.bool fl,.bool false,.ref TI,.ref TO],slots:=#[]}
section
variable {w:World}
def mL{Q:Option Obj->Shared->Prop}(ho:s.heap.get? a=some o)(h:Q (some o) s):wpAny (model prog w) A (loadIfAlive a) Q E s:=λΓ p _=>by show Sem.wp _ Γ (.loadIfAlive a λx=>.pure x) _ _ p s;rw[Sem.wp_loadIfAlive,ho];exact h
def XF{TI TO:Addr}{Q:Bool->Shared->Prop}(hz:kK s.heap z TI TO T fl)(hT:s.heap.get? T=some ot)(h:∀h₁,kK h₁ z TI TO T true->B3 z s.heap h₁->Q false {s with heap:=h₁}):wpAny (model prog w) A (W0 (.ref z)) Q E s:=by
 unfold W0;refine wpAny_bind (wpAny_field hz rfl (x:=rawInt T) rfl ?_);show wpAny _ _ (loadIfAlive T >>= _) _ _ _;refine wpAny_bind (mL hT ?_);rw[if_neg (show ¬((some ot).isNone=true) from X0)];refine wpAny_bind (wpAny_field hz rfl (x:=.bool fl) rfl ?_);cases fl with
 |true=>rw[if_neg (by decide)];exact wpAny_pure (h s.heap hz ⟨rfl,λ_ _=>rfl⟩)
 |false=>rw[if_pos (by decide)];exact wpAny_bind (wpAny_setField_rec hz (by simp) λh₁ hz₁ hs₁=>wpAny_pure (h h₁ hz₁ hs₁))
def vW{TI TO:Addr}(D:ZAp2 z TI TO i1 i2 l1 l2)(hz:kK s.heap z TI TO T fl) (hTI:lQ s.heap TI (.ref i1) (.ref i2)) (hT:s.heap.get? T=some ot)(h1:ItAt k1 s.heap i1 l1 k) (h2:ItAt k2 s.heap i2 l2 k) (hl1:SqAt k1 s.heap l1 xs1) (hl2:SqAt k2 s.heap l2 xs2) (hx1:xs1[k]?=some x1) (hx2:xs2[k]?=some x2)(hQ:∀h',kK h' z TI TO T true->ItAt k1 h' i1 l1 (k+1)->ItAt k2 h' i2 l2 (k+1)->lQ h' s.heap.objs.size x1 x2->h'.objs.size=s.heap.objs.size+1 ->(∀c o,c≠z->c≠i1->c≠i2->s.heap.get? c=some o->h'.get? c=some o)->Q (.ref s.heap.objs.size) {s with heap:=h'}):wpAny (model prog w) A (Builtin.«zip.__next__» ⟨[.ref z],[]⟩) (λfin s'=>∃v,fin=.done (.ret v)/\Q v s') E s:=by
 show wpAny _ _ (field (.ref z) 2 >>= _) _ _ _;refine wpAny_bind (wpAny_field hz rfl (x:=.bool false) rfl ?_);show wpAny _ _ (field (.ref z) 3 >>= _) _ _ _;refine wpAny_bind (wpAny_field hz rfl (x:=.ref TI) rfl ?_);refine wpAny_bind (wpAny_seqItems hTI rfl ?_);show wpAny _ _ (W0 (.ref z) >>= _) _ _ _;refine wpAny_bind (XF hz hT λh₁ hz₁ hs₁=>?_);simp only[T1,if_false];rw[W8];simp only[U4,i5];refine wpAny_bind (wpAny_bind (wpAny_bind (wpAny_holding ?_)));show wpAny _ _ (T0 (.ref i1) >>= _) _ _ _;refine wpAny_bind (TQ (h1.at λo e=>hs₁.extBut _ o D.i1z e) (hl1.at λo e=>hs₁.extBut _ o D.l1z e) hx1 λha1 hi1 hsa1=>wpAny_pure (wpAny_pure ?_));refine wpAny_bind (wpAny_bind (wpAny_holding ?_));show wpAny _ _ (T0 (.ref i2) >>= _) _ _ _;refine wpAny_bind (TQ ((h2.at λo e=>hs₁.extBut _ o D.i2z e).at λo e=>hsa1.extBut _ o D.i2i1 e) ((hl2.at λo e=>hs₁.extBut _ o D.l2z e).at λo e=>hsa1.extBut _ o D.l2i1 e) hx2 λha2 hi2 hsa2=>wpAny_pure (wpAny_pure (wpAny_pure ?_)));refine wpAny_bind (wpAny_newTuple (hsz:=by show 2<=sizeLine;decide) ?_);have hsz:ha2.objs.size=s.heap.objs.size:=by rw[hsa2.1,hsa1.1,hs₁.1]
 have hzG:kK ha2 z TI TO T true:=hsa2.extBut _ _ D.i2z.symm (hsa1.extBut _ _ D.i1z.symm hz₁);refine wpAny_pure ⟨_,rfl,?_⟩;show Q (.ref ha2.objs.size) _;rw[hsz];refine hQ _ (i0 _ hzG) ((hi1.at λo e=>hsa2.extBut _ o D.i2i1.symm e).at λo e=>i0 _ e) (hi2.at λo e=>i0 _ e) ?_ ?_ λc o c1 d1 d2 e=>i0 _ (hsa2.extBut _ _ d2 (hsa1.extBut _ _ d1 (hs₁.extBut _ _ c1 e)))
 .rw[<-hsz];exact v0 _ rfl
 .rw[Z0,hsz]
def eK{TI TO:Addr}{Q:Fin->Shared->Prop}(hh:A.handled=none)(D:ZAp2 z TI TO i1 i2 l1 l2)(hz:kK s.heap z TI TO T fl) (hTI:lQ s.heap TI (.ref i1) (.ref i2)) (hT:s.heap.get? T=some ot)(h1:ItAt k1 s.heap i1 l1 k) (h2:ItAt k2 s.heap i2 l2 k) (hl1:SqAt k1 s.heap l1 xs1) (hl2:SqAt k2 s.heap l2 xs2) (hend:xs1[k]?=none\/xs2[k]?=none)(hE:∀h' e,(∀c o,c≠z->c≠i1->c≠i2->s.heap.get? c=some o->h'.get? c=some o)->(∃o,h'.get? e=some o/\o.cls=.type "StopIteration")->E (.ref e) {s with heap:=h'}):wpAny (model prog w) A (Builtin.«zip.__next__» ⟨[.ref z],[]⟩) Q E s:=by
 show wpAny _ _ (field (.ref z) 2 >>= _) _ _ _;refine wpAny_bind (wpAny_field hz rfl (x:=.bool false) rfl ?_);show wpAny _ _ (field (.ref z) 3 >>= _) _ _ _;refine wpAny_bind (wpAny_field hz rfl (x:=.ref TI) rfl ?_);refine wpAny_bind (wpAny_seqItems hTI rfl ?_);show wpAny _ _ (W0 (.ref z) >>= _) _ _ _;refine wpAny_bind (XF hz hT λh₁ hz₁ hs₁=>?_);simp only[T1,if_false];rw[W8];simp only[U4,i5];refine wpAny_bind (wpAny_bind (wpAny_bind (wpAny_holding ?_)));show wpAny _ _ (T0 (.ref i1) >>= _) _ _ _;cases hx1:xs1[k]? with
 |none=>exact wpAny_bind (sX hh (h1.at λo e=>hs₁.extBut _ o D.i1z e) (hl1.at λo e=>hs₁.extBut _ o D.l1z e) hx1 λhq e hsq he=>hE hq e (λc o c1 d1 d2 x=>hsq _ _ d1 (hs₁.extBut _ _ c1 x)) he)
 |some x1 =>
  have hx2:xs2[k]?=none:=by
   rcases hend with h|h
   .rw[hx1]at h;cases h
   .exact h
  refine wpAny_bind (TQ (h1.at λo e=>hs₁.extBut _ o D.i1z e) (hl1.at λo e=>hs₁.extBut _ o D.l1z e) hx1 λha1 hi1 hsa1=>wpAny_pure (wpAny_pure ?_));refine wpAny_bind (wpAny_bind (wpAny_holding ?_));show wpAny _ _ (T0 (.ref i2) >>= _) _ _ _;exact wpAny_bind (sX hh ((h2.at λo e=>hs₁.extBut _ o D.i2z e).at λo e=>hsa1.extBut _ o D.i2i1 e) ((hl2.at λo e=>hs₁.extBut _ o D.l2z e).at λo e=>hsa1.extBut _ o D.l2i1 e) hx2 λhq e hsq he=>hE hq e (λc o c1 d1 d2 x=>hsq _ _ d2 (hsa1.extBut _ _ d1 (hs₁.extBut _ _ c1 x))) he)
end
section
variable {w:World}
def ZSt(h:Heap)(z TI TO S i1 i2 l1 l2:Addr)(k1 k2:Kd)(i:Nat):Prop :=
 lQ h TI (.ref i1) (.ref i2)/\ItAt k1 h i1 l1 i/\ItAt k2 h i2 l2 i /\
  ((IsZip h z TI TO .none/\∃a1 a2,lQ h TO a1 a2)\/∃T fl ot,kK h z TI TO T fl/\h.get? T=some ot/\T≠z/\T≠i1/\T≠i2/\T≠S)
def wW{TI TO:Addr}{Q:Option Value->Shared->Prop}(D:ZAp2 z TI TO i1 i2 l1 l2)(hS:S<s.heap.objs.size)(st:ZSt s.heap z TI TO S i1 i2 l1 l2 k1 k2 k) (hl1:SqAt k1 s.heap l1 xs1) (hl2:SqAt k2 s.heap l2 xs2) (hx1:xs1[k]?=some x1) (hx2:xs2[k]?=some x2)(hQ:∀h',ZSt h' z TI TO S i1 i2 l1 l2 k1 k2 (k+1)->lQ h' s.heap.objs.size x1 x2->h'.objs.size=s.heap.objs.size+1 ->(∀c o,c≠z->c≠TO->c≠i1->c≠i2->s.heap.get? c=some o->h'.get? c=some o)->Q (some (.ref s.heap.objs.size)) {s with heap:=h'}):wpAny (model prog w) A (pyNext (.ref z)) Q E s:=by
 obtain⟨hTI,h1,h2,hz⟩:=st;have gz:∀{b:Addr}{o:Obj},s.heap.get? b=some o->s.heap.objs.size≠b:=λe=>N1 (u0 e);obtain⟨o1,g1,_⟩:=h1.obj;obtain⟨o2,g2,_⟩:=h2.obj;rcases hz with⟨hz,a1,a2,hTO⟩|⟨T,fl,ot,hz,hT,t1,t2,t3,t4⟩
 .refine vJ D hz hTI hTO h1 h2 hl1 hl2 hx1 hx2 λh' b1 b2 c1 c2 b5 b6 b7=>hQ h' ⟨b7 TI _ D.TIz (Y1 D.TOTI) (Y1 D.i1TI) (Y1 D.i2TI) hTI,c1,c2,.inr ⟨s.heap.objs.size,false,_,b1,b5,gz hz,gz g1,gz g2,N1 hS⟩⟩ b5 b6 b7
 .have hTy:s.TypeIs (.ref z) "zip":=⟨_,hz,rfl⟩;unfold pyNext;exact wpAny_bind (wpAny_attempt (wpAny_callSpecial?_slot (name:=Str.ofString "__next__") hTy F.slot_zip_next
    (wpAny_call_entry F.slot_zip_next hTy F.entry_zip_next (wpAny_mono (vW (Q:=λv s'=>Q (some v) s') D hz hTI hT h1 h2 hl1 hl2 hx1 hx2 λh' b1 c1 c2 b5 b6 b7=>hQ h' ⟨b7 TI _ D.TIz (Y1 D.i1TI) (Y1 D.i2TI) hTI,c1,c2,.inr ⟨T,true,ot,b1,b7 T _ t1 t2 t3 hT,t1,t2,t3,t4⟩⟩ b5 b6 λc o d1 _ d3 d4 e=>b7 c o d1 d3 d4 e) (λfin s' z=>by obtain⟨v,rfl,z⟩:=z;exact ⟨_,rfl,wpAny_pure z⟩) λ_ _ z=>z) (F.args_zip_next_1 _))))
def fK{TI TO:Addr}{Q:Option Value->Shared->Prop}(hh:A.handled=none)(D:ZAp2 z TI TO i1 i2 l1 l2)(st:ZSt s.heap z TI TO S i1 i2 l1 l2 k1 k2 k) (hl1:SqAt k1 s.heap l1 xs1) (hl2:SqAt k2 s.heap l2 xs2) (hend:xs1[k]?=none\/xs2[k]?=none)(hQ:∀h',(∀c o,c≠z->c≠TO->c≠i1->c≠i2->s.heap.get? c=some o->h'.get? c=some o)->Q none {s with heap:=h'}):wpAny (model prog w) A (pyNext (.ref z)) Q E s:=by
 obtain⟨hTI,h1,h2,hz⟩:=st;rcases hz with⟨hz,a1,a2,hTO⟩|⟨T,fl,ot,hz,hT,t1,t2,t3,t4⟩
 .exact aK hh D hz hTI hTO h1 h2 hl1 hl2 hend hQ
 .have hTy:s.TypeIs (.ref z) "zip":=⟨_,hz,rfl⟩;unfold pyNext;refine wpAny_bind (wpAny_attempt (wpAny_callSpecial?_slot (name:=Str.ofString "__next__") hTy F.slot_zip_next
    (wpAny_call_entry F.slot_zip_next hTy F.entry_zip_next (eK hh D hz hTI hT h1 h2 hl1 hl2 hend λh' e hk he=>?_) (F.args_zip_next_1 _))));obtain⟨o,ho,hc⟩:=he;refine wpAny_bind (wpAny_isInstance (T:="StopIteration") (b:=true) ⟨o,ho,hc⟩ isSubtype_stop ?_);exact wpAny_pure (hQ _ λc o d1 _ d3 d4 e=>hk c o d1 d3 d4 e)
def ZSt.keep{TI TO:Addr}(x:ZSt h z TI TO S i1 i2 l1 l2 k1 k2 i)(hk:∀b o,b≠S->h.get? b=some o->h'.get? b=some o)(n1:z≠S)(n2:TI≠S)(n3:TO≠S)(n4:i1≠S)(n5:i2≠S):ZSt h' z TI TO S i1 i2 l1 l2 k1 k2 i:=by
 obtain⟨hTI,h1,h2,hz⟩:=x;refine ⟨hk _ _ n2 hTI,h1.at λo e=>hk _ _ n4 e,h2.at λo e=>hk _ _ n5 e,?_⟩;rcases hz with⟨hz,a1,a2,hTO⟩|⟨T,fl,ot,hz,hT,t1,t2,t3,t4⟩
 .exact .inl ⟨hk _ _ n1 hz,a1,a2,hk _ _ n3 hTO⟩
 .exact .inr ⟨T,fl,ot,hk _ _ n1 hz,hk _ _ t4 hT,t1,t2,t3,t4⟩
end
structure ZG(xs1 xs2:Array Value)(lo:Addr)(h:Heap)(as:List Addr):Prop where
 rise:as.Pairwise (· < ·)
 above:∀a∈as,lo<a
 pairs:∀(j:Nat) (a:Addr),as[j]?=some a->∃x y,xs1[j]?=some x/\xs2[j]?=some y/\lQ h a x y
def ZG.there{lo:Addr}(g:ZG xs1 xs2 lo h as){a:Addr}(ha:a∈as):a<h.objs.size:=by obtain⟨j,hj⟩:=Z3.mp ha;obtain⟨_,_,_,_,e⟩:=g.pairs j a hj;exact u0 e
section
variable {w:World}{R:Result->Shared->Prop}
def Wj{TI TO:Addr}(hh:A.handled=none)(D:ZAp2 z TI TO i1 i2 l1 l2)(n1:z<S)(n2:TI<S)(n3:TO<S)(n4:i1<S)(n5:i2<S)(n6:l1≠S)(n7:l2≠S)(hn1:n<=xs1.size) (hn2:n<=xs2.size) (hend:xs1[n]?=none\/xs2[n]?=none) (hn:n<=sizeLine) (res:Value) {h₁:Heap}(hR:∀h' tk acc c as,(∀b o,b≠S->b≠z->b≠TO->b≠i1->b≠i2->h₁.get? b=some o->h'.get? b=some o)->h'.get? S=some {cls:=.type "list",dict:=none,data:=.seq acc c,slots:=#[]}->as.length=n->ZG xs1 xs2 S h' as -> acc.toList=as.map Q2->R (.ok (.ret res)) {s with heap:=h',toks:=tk}):∀(k i:Nat) (h:Heap) (tk c:Nat) (acc:Array Value) (as:List Addr),n-i=k->i<=n->ZSt h z TI TO S i1 i2 l1 l2 k1 k2 i->SqAt k1 h l1 xs1->SqAt k2 h l2 xs2->(∀b o,b≠S->b≠z->b≠TO->b≠i1->b≠i2->h₁.get? b=some o->h.get? b=some o) -> h.get? S=some {cls:=.type "list",dict:=none,data:=.seq acc c,slots:=#[]}->acc.toList=as.map Q2->as.length=i->ZG xs1 xs2 S h as -> codeAny (model prog w) A (.builtin "list.extend.loop" ⟨[.ref S,.ref z,res],[]⟩) R {s with heap:=h,toks:=tk}:=by
 have m1:z≠S:=N0 n1;have m2:TI≠S:=N0 n2;have m3:TO≠S:=N0 n3;have m4:i1≠S:=N0 n4;have m5:i2≠S:=N0 n5;have far:∀{a:Addr},S<a->a≠S/\a≠z/\a≠TO/\a≠i1/\a≠i2:=λh=>⟨N1 h,N1 (e6 n1 h),N1 (e6 n3 h),N1 (e6 n4 h),N1 (e6 n5 h)⟩;intro k;induction k with
 |zero =>
  intro i h tk c acc as hk hi hst q1 q2 hkeep hS hacc hal hG;have hin:i=n:=by lia
  subst hin;refine codeAny_builtin PySem.F.entry_extend_loop ?_;rw[Around.under_plainId PySem.F.plain_extend_loop _];show wpAny _ A.in1 (pyNext (.ref z) >>= _) _ _ _;refine wpAny_bind (fK (s:={s with heap:=h,toks:=tk}) (A:=A.in1) hh D hst q1 q2 hend λh' he=>?_);refine wpAny_pure (hR h' tk acc c as (λb o c1 c2 c3 c4 c5 e=>he b o c2 c3 c4 c5 (hkeep b o c1 c2 c3 c4 c5 e)) (he S _ (Y1 m1) (Y1 m3) (Y1 m4) (Y1 m5) hS) hal ⟨hG.rise,hG.above,λj a hj=>?_⟩ hacc);obtain⟨x,y,e1,e2,e3⟩:=hG.pairs j a hj;obtain⟨_,f2,f3,f4,f5⟩:=far (hG.above a (B1 hj));exact ⟨x,y,e1,e2,he a _ f2 f3 f4 f5 e3⟩
 |succ k ih =>
  intro i h tk c acc as hk hi hst q1 q2 hkeep hS hacc hal hG;have hlt:i<n:=by lia
  obtain⟨x,hx⟩:∃p,xs1[i]?=some p:=⟨xs1[i],v3 (by lia)⟩;obtain⟨y,hy⟩:∃p,xs2[i]?=some p:=⟨xs2[i],v3 (by lia)⟩;have hsz:acc.size=i:=by rw[<-P0,hacc,q0,hal]
  have hSl:S<h.objs.size:=u0 hS;refine codeAny_builtin PySem.F.entry_extend_loop ?_;rw[Around.under_plainId PySem.F.plain_extend_loop _];show wpAny _ A.in1 (pyNext (.ref z) >>= _) _ _ _;refine wpAny_bind (wW (s:={s with heap:=h,toks:=tk}) (S:=S) D hSl hst q1 q2 hx hy λh' hst' ht hz hkp=>?_);dsimp only at ht hz hkp ⊢;have hS':=hkp S _ (Y1 m1) (Y1 m3) (Y1 m4) (Y1 m5) hS;have up:∀b o,b≠S->h'.get? b=some o->(h'.update S (W2 (·.push (Q2 h.objs.size)))).get? b=some o:=λb o hb e=>(K1 _ _ (Y1 hb)).trans e;show wpAny _ A.in1 (updateSeq S (·.push (Q2 h.objs.size)) >>= _) _ _ _;refine wpAny_bind ?_;refine wpAny_updateSeq hS' rfl (wpAny_pure ⟨plainId_quiet PySem.F.plain_extend_loop _,ih (i+1) _ tk _ (acc.push (Q2 h.objs.size)) (as++[h.objs.size]) (by lia) hlt (hst'.keep up m1 m2 m3 m4 m5)
    (q1.at λo e=>up _ o n6 (hkp _ o D.l1z D.l1TO D.l1i1 D.l1i2 e)) (q2.at λo e=>up _ o n7 (hkp _ o D.l2z D.l2TO D.l2i1 D.l2i2 e))
    (λb o c1 c2 c3 c4 c5 e=>up b o c1 (hkp b o c2 c3 c4 c5 (hkeep b o c1 c2 c3 c4 c5 e))) (X1 _ hS' rfl) (by rw[M6,hacc,U3];rfl) (by rw[U0,hal];rfl) ⟨?_,?_,?_⟩⟩) (by rw[hsz];lia) (by show (acc.push (Q2 h.objs.size)).size<=sizeLine+1;rw[Array.size_push,hsz];lia)
  .refine A5.mpr ⟨hG.rise,E6 _ _,λa ha b hb=>?_⟩;rw[G1.mp hb];exact hG.there ha
  .intro a ha;rcases A3.mp ha with ha|ha
   .exact hG.above a ha
   .rw[G1.mp ha];exact hSl
  .intro j b hj;rcases Nat.lt_trichotomy j as.length with g|g|g
   .rw[J2 g]at hj;obtain⟨x',y',e1,e2,e3⟩:=hG.pairs j b hj;obtain⟨f1,f2,f3,f4,f5⟩:=far (hG.above b (B1 hj));exact ⟨x',y',e1,e2,up b _ f1 (hkp b _ f2 f3 f4 f5 e3)⟩
   .subst g;have hb:h.objs.size=b:=by simpa using hj
    subst hb;exact ⟨x,y,by rw[hal];exact hx,by rw[hal];exact hy,up _ _ (N1 hSl) ht⟩
   .have hnone:(as++[h.objs.size])[j]?=none:=List.getElem?_eq_none (by rw[U0,Z2];lia);rw[hnone]at hj;cases hj
end
def wG:typeLookup (.type "zip") "__len__"=pure none:=by rw[typeLookup_type,builtinLookup_eq_fast];kernel_rfl
def jH:typeLookup (.type "zip") "__length_hint__"=pure none:=by rw[typeLookup_type,builtinLookup_eq_fast];kernel_rfl
section
variable {w:World}{R:Result->Shared->Prop}
theorem xG{TI TO:Addr}(hh:A.handled=none)(D:ZAp2 z TI TO i1 i2 l1 l2)(n1:z<S)(n2:TI<S)(n3:TO<S)(n4:i1<S)(n5:i2<S)(n6:l1≠S)(n7:l2≠S)
  (hn1:n<=xs1.size) (hn2:n<=xs2.size) (hend:xs1[n]?=none\/xs2[n]?=none) (hn:n<=sizeLine) (res:Value) (c₀:Nat) {a1 a2:Value}
  (hz:IsZip s.heap z TI TO .none) (hTI:lQ s.heap TI (.ref i1) (.ref i2)) (hTO:lQ s.heap TO a1 a2) (h1:ItAt k1 s.heap i1 l1 0) (h2:ItAt k2 s.heap i2 l2 0) (hl1:SqAt k1 s.heap l1 xs1) (hl2:SqAt k2 s.heap l2 xs2)
  (hS:s.heap.get? S=some {cls:=.type "list",data:=.seq #[] c₀})
  (hR:∀h' tk acc c as,(∀b o,b≠S->b≠z->b≠TO->b≠i1->b≠i2->s.heap.get? b=some o->h'.get? b=some o)->h'.get? S=some {cls:=.type "list",dict:=none,data:=.seq acc c,slots:=#[]}->as.length=n->ZG xs1 xs2 S h' as ->
    acc.toList=as.map Q2->R (.ok (.ret res)) {s with heap:=h',toks:=tk}) :
  wpAny (model prog w) A.in1 (W3 (.ref S) (.ref z) res)
   (λfin s'=>match fin with | .done f=>R (.ok f) s' | .again c'=>c'.quiet=true/\codeAny (model prog w) A c' R s') (λe s'=>R (.error e) s') s:=by
 have m1:z≠S:=N0 n1;have hTy:s.TypeIs (.ref z) "zip":=⟨_,hz,rfl⟩;unfold W3;refine wpAny_bind (wpAny_typeOf hTy ?_);have e1:Q7 (.ref S) (.ref z)=false:=by simp[Q7,Y1 m1]
 have e2:(B5 "zip"==B5 "list")=false:=by decide
 have e3:(B5 "zip"==B5 "tuple")=false:=by decide
 simp only[e1,e2,e3,Bool.or_false,T1,if_false];refine wpAny_bind (wpAny_pyIter_zip hz ?_);refine wpAny_bind (wpAny_holding ?_);unfold Builtin.List.listLengthHint;refine wpAny_bind (wpAny_specialOf hTy wG ?_);show wpAny _ A.in1 (specialOf (Q2 z) (Str.ofString "__length_hint__") >>= _) _ _ _;refine wpAny_bind (wpAny_specialOf hTy jH ?_);refine wpAny_pure ?_;show wpAny _ A.in1 (rule "list.extend.makes-room" >>= λ_=>Builtin.List.listTouch (.ref S) >>= λ_ =>
   again (.builtin "list.extend.loop" ⟨[.ref S,.ref z,res],[]⟩)) _ _ _;refine wpAny_bind (wpAny_rule ?_);refine wpAny_bind ?_;show wpAny _ A.in1 (updateSeq S (·.push .none) >>= λ_=>updateSeq S (·.pop)) _ _ _;refine wpAny_bind (wpAny_updateSeq hS rfl ?_);have hS₂:=X1 (W2 (·.push T4)) hS rfl;refine wpAny_updateSeq (hz:=by seq_fits) hS₂ rfl ?_;have hS₃:=X1 (W2 (·.pop)) hS₂ rfl;have oth:∀b o,b≠S->s.heap.get? b=some o->((s.heap.update S (W2 (·.push T4))).update S (W2 (·.pop))).get? b=some o :=
  λb o hb e=>(K1 _ _ (Y1 hb)).trans ((K1 _ _ (Y1 hb)).trans e);refine wpAny_pure ⟨plainId_quiet F.plain_extend_loop _,Wj (s:=s) (h₁:=s.heap) hh D n1 n2 n3 n4 n5 n6 n7 hn1 hn2 hend hn res hR n 0 _ s.toks _ #[] [] rfl (P3 _)
   ⟨oth _ _ (N0 n2) hTI,h1.at λo e=>oth _ _ (N0 n4) e,h2.at λo e=>oth _ _ (N0 n5) e,.inl ⟨oth _ _ m1 hz,a1,a2,oth _ _ (N0 n3) hTO⟩⟩
   (hl1.at λo e=>oth _ _ n6 e) (hl2.at λo e=>oth _ _ n7 e) (λb o c1 _ _ _ _ e=>oth b o c1 e) hS₃ rfl rfl ⟨List.Pairwise.nil,(λ_ ha=>nomatch ha),(λj a hj=>by simp at hj)⟩⟩
end
section
variable {w:World}
def xW{TI TO:Addr}(hh:A.handled=none)(D:ZAp2 z TI TO i1 i2 l1 l2)(hn1:n<=xs1.size) (hn2:n<=xs2.size) (hend:xs1[n]?=none\/xs2[n]?=none) (hn:n<=sizeLine) {a1 a2:Value}(hz:IsZip s.heap z TI TO .none) (hTI:lQ s.heap TI (.ref i1) (.ref i2)) (hTO:lQ s.heap TO a1 a2) (h1:ItAt k1 s.heap i1 l1 0) (h2:ItAt k2 s.heap i2 l2 0) (hl1:SqAt k1 s.heap l1 xs1) (hl2:SqAt k2 s.heap l2 xs2)(b1:l1<s.heap.objs.size) (b2:l2<s.heap.objs.size)(hQ:∀h' tk acc c as,(∀b o,b≠z->b≠TO->b≠i1->b≠i2->s.heap.get? b=some o->h'.get? b=some o)->h'.get? s.heap.objs.size=some {cls:=.type "list",dict:=none,data:=.seq acc c,slots:=#[]}->as.length=n->ZG xs1 xs2 s.heap.objs.size h' as -> acc.toList=as.map Q2->Q (.ref s.heap.objs.size) {s with heap:=h',toks:=tk}):wpAny (model prog w) A (call (.type "list") [.ref z]) Q E s:=by
 refine callType_codes (Q₁:=λobj s₁=>obj=.ref s.heap.objs.size/\s₁={s with heap:=s.heap.push {cls:=.type "list",data:=.seq #[]}}) PySem.F.called_list (PySem.F.typeCall_list_1 _) PySem.F.entry_list_init
  (code_list_new _ ⟨rfl,rfl⟩) λobj s₁ h₁=>?_;obtain⟨rfl,rfl⟩:=h₁;have hS:(s.heap.push {cls:=.type "list",data:=.seq #[]}).get? s.heap.objs.size=some {cls:=.type "list",data:=.seq #[]}:=v0 _ rfl;refine ⟨⟨_,hS,rfl⟩,PySem.F.args_list_init_2 _ _,?_⟩;show wpAny _ _ (do let old<-h8 (.ref s.heap.objs.size);Builtin.List.listUpdate (.ref s.heap.objs.size) (λ_=>#[]);letGo old.toList.reverse;W3 (.ref s.heap.objs.size) (.ref z) .none) _ _ _;refine wpAny_bind ?_;unfold h8;refine wpAny_bind (wpAny_seqItems hS rfl (wpAny_pure ?_));show wpAny _ _ (updateSeq s.heap.objs.size (λ_=>#[]) >>= λ_=>letGo (#[]:Array Value).toList.reverse >>= λ_=>W3 (.ref s.heap.objs.size) (.ref z) .none) _ _ _;refine wpAny_bind (wpAny_updateSeq hS rfl ?_);have hS₂:=X1 (W2 (λ_=>(#[]:Array Value))) hS rfl;have oth:∀b o,s.heap.get? b=some o->((s.heap.push {cls:=.type "list",data:=.seq #[]}).update s.heap.objs.size (W2 (λ_=>(#[]:Array Value)))).get? b=some o :=
  λb o e=>(K1 _ _ (N1 (u0 e))).trans (i0 _ e);refine wpAny_bind (wpAny_letGo ?_);obtain⟨o1,g1,_⟩:=h1.obj;obtain⟨o2,g2,_⟩:=h2.obj;refine xG (A:=A.in1) hh D (u0 hz) (u0 hTI) (u0 hTO) (u0 g1) (u0 g2) (N0 b1) (N0 b2) hn1 hn2 hend hn .none _ (oth _ _ hz) (oth _ _ hTI) (oth _ _ hTO) (h1.at λo e=>oth _ _ e) (h2.at λo e=>oth _ _ e) (hl1.at λo e=>oth _ _ e) (hl2.at λo e=>oth _ _ e) hS₂ λh' tk acc c as hk hS' hl hG hacc=>?_;exact ⟨rfl,hQ h' tk acc c as (λb o c2 c3 c4 c5 e=>hk b o (N0 (u0 e)) c2 c3 c4 c5 (oth b o e)) hS' hl hG hacc⟩
end
noncomputable def HY:Hp->List (Addr×List V)->Hp
 |H,[]=>H
 |H,(a,xs)::r=>HY (DQ H a (.tup xs)) r
theorem kH:∀{ps:List (Addr×List V)}{H:Hp}{b:Addr}{o:HO},(ps.map (·.1)).Nodup->(∀p∈ps,H p.1=none)->H b=some o->HY H ps b=some o
 |[],_,_,_,_,_,e=>e
 |(a,xs)::r,H,b,o,nd,hn,e=>by
  have nd:=T3.mp nd;show HY (DQ H a (.tup xs)) r b=some o;refine kH nd.2 (λp hp=>?_) ?_
  .rw[eQ (λq=>nd.1 (J0.mpr ⟨p,hp,q⟩))];exact hn p (K0 _ hp)
  .rw[eQ (gQ e (hn _ (.head _)))];exact e
theorem FK:∀{ps:List (Addr×List V)}{H:Hp}{b:Addr}{o:HO},HY H ps b=some o->H b=some o\/∃xs,(b,xs)∈ps/\o=.tup xs
 |[],_,_,_,e=>.inl e
 |(a,xs)::r,H,b,o,e=>by
  rcases FK (ps:=r) e with e|⟨ys,m,q⟩
  .by_cases hb:b=a
   .subst hb;rw[kQ]at e;cases e;exact .inr ⟨xs,.head _,rfl⟩
   .rw[eQ hb]at e;exact .inl e
  .exact .inr ⟨ys,K0 _ m,q⟩
def Inv.lays(I:Inv X pins σ H s)(k:∀b u,s.heap.get? b=some u->h'.get? b=some u)(sub:∀b o,H b=some o->H' b=some o)(new:∀b o,H' b=some o->H b=some o\/(s.heap.objs.size<=b/\ObjOk X.prog X.w H' h' b o)):Inv X pins σ H' {s with heap:=h',toks:=t'}:=by
 refine I.un ⟨λb u q _ _ _=>k b u q,λb u q _ _ _=>⟨u.slots,k b u q⟩,λb u q n _=>?_,λb u q _=>⟨u,k b u q⟩,λb xs q=>sub _ _ q,λb u xs q=>sub _ _ q,λb ps q=>⟨#[],by rw[sub _ _ q];simp⟩⟩ λb o e=>?_
 .cases e:H' b with
  |none=>rfl
  |some o =>
   rcases new b o e with z|⟨z,_⟩
   .rw[n]at z;cases z
   .exact absurd (L0 (u0 q) z) (U2 _)
 .rcases new b o e with z|⟨_,z⟩
  .exact (I.hok b o z).stay (λc v _ q=>k c v q) (λc q=>sub _ _ q) λc xs q=>sub _ _ q
  .exact z
noncomputable def gX:List V->List V->List (List V)
 |x::xs,y::ys=>[x,y]::gX xs ys
 |_,_=>[]
theorem AV:∀(xs ys:List V),(gX xs ys).length=min xs.length ys.length
 |[],_=>by simp[gX]
 |_::_,[]=>by simp[gX]
 |_::xs,_::ys=>by simp only[gX,Y2,AV xs ys];lia
theorem BV:∀{xs ys:List V}{j:Nat}{x y:V},xs[j]?=some x->ys[j]?=some y->(gX xs ys)[j]?=some [x,y]
 |_::_,_::_,0,_,_,e,q=>by cases e;cases q;rfl
 |_::xs,_::ys,j+1,_,_,e,q=>BV (xs:=xs) (ys:=ys) (j:=j) e q
 |[],_,_,_,_,e,_=>by simp at e
 |_::_,[],_,_,_,_,q=>by simp at q
def GO(K:B0)(ta:TA):TE:=λσ H Q=>ta σ H λvs H1=>∃(k1:Kd) (l1:Addr) (ys1:List V) (k2:Kd) (l2:Addr) (ys2:List V),vs=[.ref l1,.ref l2]/\Sq k1 K H1 l1 ys1/\Sq k2 K H1 l2 ys2 /\
 ∀(ps:List (Addr×List V)) (S:Addr),(ps.map (·.1)).Nodup->(∀p∈ps,H1 p.1=none)->H1 S=none->S∉ps.map (·.1)->ps.map (·.2)=gX ys1 ys2->Q (.ref S) (DQ (HY H1 ps) S (.lst (ps.map λp=>V.ref p.1)))
def nL{a b:Expr}{ta:TA}{p pos p0 pos0:Pos}(hcm:X.calm=true)(hg0:Gl X "list")(hm0:X.mg "list"=none)(hg:Gl X "zip")(hm:X.mg "zip"=none)(ha:PA X [a,b] ta)
  (hs:starEach [a,b] X.env=(false,eval a X.env)::starEach [b] X.env:=by rfl) (hpl:(backTo pos (starEach [b] X.env)).any (·.1)=false:=by rfl)
  (hs0:starEach [.Call (.Name "zip" p) [a,b] [] pos] X.env=(false,eval (.Call (.Name "zip" p) [a,b] [] pos) X.env)::starEach [] X.env:=by rfl) (hpl0:(backTo pos0 (starEach [] X.env)).any (·.1)=false:=by rfl) :
  PE X (.Call (.Name "list" p0) [.Call (.Name "zip" p) [a,b] [] pos] [] pos0) (GO X.K ta):=by
 intro pins s σ H Q I h;refine wpAny_Call_Name_kw (UX I hg0 hm0 boot_list ?_ (by decide) (by decide));refine S1 ?_ hs0 hpl0;rw[hs0];show wpAny _ _ (spliced ((false,eval (.Call (.Name "zip" p) [a,b] [] pos) X.env)::backTo pos0 (starEach [] X.env))) _ _ s;refine Calls.spliced_cons ?_;refine Call_ (UX I hg hm boot_zip (S1 (eX (ha pos pins s σ H _ I h) λus s1 ⟨vs,H1,I1,r1,q1⟩=>?_) hs hpl));obtain⟨k1,l1,ys1,k2,l2,ys2,e,q1,q2,q⟩:=q1;subst e;obtain rfl:us=[.ref l1,.ref l2]:=by cases r1 with|cons r rr=>cases r;cases rr with|cons r rr=>cases r;cases rr;rfl
 obtain⟨its1,rv1,p1,z1⟩:=I1.sq q1;obtain⟨its2,rv2,p2,z2⟩:=I1.sq q2;have lt:∀{k:Kd}{l:Addr}{xs:Array Value},SqAt k s1.heap l xs->l<s1.heap.objs.size:=λ{k l xs} p=>by
  cases k with
  |l=>obtain⟨o,e,_⟩:=p;exact u0 e
  |t=>obtain⟨o,e,_⟩:=p;exact u0 e
 refine callType_new F.called_zip (by decide) (F.typeCall_zip_2 _ _) (F.newCall_zip_2 _ _) (λobj=>F.args_object_init_3 obj _ _) F.entry_zip_new (wK k1 k2 l1 l2 its1.toArray its2.toArray) ⟨p1,p2,?_⟩;have zI:(SW s1.heap k1 k2 l1 l2).objs.size=s1.heap.objs.size+2:=by simp[Z0]
 have zT:(TW s1.heap k1 k2 l1 l2).objs.size=s1.heap.objs.size+3:=by simp[Z0]
 have zO:(UW s1.heap k1 k2 l1 l2).objs.size=s1.heap.objs.size+4:=by simp[Z0]
 have zZ:(jX s1.heap k1 k2 l1 l2).objs.size=s1.heap.objs.size+5:=by simp[Z0]
 have gZ:(jX s1.heap k1 k2 l1 l2).get? (UW s1.heap k1 k2 l1 l2).objs.size=some _:=v0 _ rfl;have gO:(jX s1.heap k1 k2 l1 l2).get? (TW s1.heap k1 k2 l1 l2).objs.size=some _:=i0 _ (v0 _ rfl);have gT:(jX s1.heap k1 k2 l1 l2).get? (SW s1.heap k1 k2 l1 l2).objs.size=some _:=i0 _ (i0 _ (v0 _ rfl));have g1:(jX s1.heap k1 k2 l1 l2).get? s1.heap.objs.size=some (iX k1 l1):=i0 _ (i0 _ (i0 _ (i0 _ (v0 _ (by cases k1<;>rfl)))));have g2:(jX s1.heap k1 k2 l1 l2).get? (s1.heap.push (iX k1 l1)).objs.size=some (iX k2 l2):=i0 _ (i0 _ (i0 _ (v0 _ (by cases k2<;>rfl))));have zz2:(s1.heap.push (iX k1 l1)).objs.size=s1.heap.objs.size+1:=by simp[Z0]
 rw[zO,zT,zI]at gZ;rw[zI,zz2]at gT;rw[zT]at gO;rw[zz2]at g2;show _/\_;rw[zO];have kp:∀b o,s1.heap.get? b=some o->(jX s1.heap k1 k2 l1 l2).get? b=some o:=λb o e=>i0 _ (i0 _ (i0 _ (i0 _ (i0 _ (e)))));refine ⟨⟨_,gZ,rfl⟩,Calls.spliced_nil ?_⟩;have len1:=rv1.length;have len2:=rv2.length;have D:=bv s1.heap.objs.size l1 l2 (lt p1) (lt p2);refine xW (s:={s1 with heap:=jX s1.heap k1 k2 l1 l2}) (xs1:=its1.toArray) (xs2:=its2.toArray) (n:=min ys1.length ys2.length) (I1.ok.hd hcm) D (by simp only[V0];lia) (by simp only[V0];lia) ?_ (by lia) gZ gT gO (ItAt.new k1 g1) (ItAt.new k2 g2)
  (p1.at λo e=>kp _ _ e) (p2.at λo e=>kp _ _ e) (by show l1<(jX s1.heap k1 k2 l1 l2).objs.size;rw[zZ];exact L0 (lt p1) (E2 _ _)) (by show l2<(jX s1.heap k1 k2 l1 l2).objs.size;rw[zZ];exact L0 (lt p2) (E2 _ _)) ?_
 .rcases Nat.le_total ys1.length ys2.length with g|g
  .exact .inl (by rw[Nat.min_eq_left g];simp;lia)
  .exact .inr (by rw[Nat.min_eq_right g];simp;lia)
 intro h' tk acc c as hk hS hl hG hacc;dsimp only at hk hS hG ⊢;rw[zZ]at hS hG ⊢;have hk':∀b o,s1.heap.get? b=some o->h'.get? b=some o:=λb o e=>by have hb:=u0 e;exact hk b o (N0 (L0 hb (E2 _ _))) (N0 (L0 hb (E2 _ _))) (N0 hb) (N0 (L0 hb (E2 _ _))) (kp b o e)
 have hps:as.length=(gX ys1 ys2).length:=by rw[AV];exact hl
 have ps1:(as.zip (gX ys1 ys2)).map (·.1)=as:=T7 (by lia);have ps2:(as.zip (gX ys1 ys2)).map (·.2)=gX ys1 ys2:=U7 (by lia);have nd:as.Nodup:=hG.rise.imp λh=>N0 h;have ab:∀a∈as,s1.heap.objs.size<=a:=λa m=>B4 (o4 (E2 _ 5) (hG.above a m));have hn:∀p∈as.zip (gX ys1 ys2),H1 p.1=none:=λp m=>I1.hok.fresh (ab _ (o5 (a:=p.1) (b:=p.2) m).1);have nd':((as.zip (gX ys1 ys2)).map (·.1)).Nodup:=by rw[ps1];exact nd
 have hSn:H1 (s1.heap.objs.size+5)=none:=I1.hok.fresh (E2 _ _);have hSa:s1.heap.objs.size+5∉(as.zip (gX ys1 ys2)).map (·.1):=by rw[ps1];exact λm=>U2 _ (hG.above _ m)
 refine ⟨.ref (s1.heap.objs.size+5),_,?_,rfl,q (as.zip (gX ys1 ys2)) _ nd' hn hSn hSa ps2⟩;have hLS:HY H1 (as.zip (gX ys1 ys2)) (s1.heap.objs.size+5)=none:=by
  cases e:HY H1 (as.zip (gX ys1 ys2)) (s1.heap.objs.size+5) with
  |none=>rfl
  |some o =>
   rcases FK e with z|⟨xs,m,_⟩
   .rw[hSn]at z;cases z
   .exact absurd (J0.mpr ⟨_,m,rfl⟩) hSa
 have sub:∀b o,H1 b=some o->DQ (HY H1 (as.zip (gX ys1 ys2))) (s1.heap.objs.size+5) (.lst ((as.zip (gX ys1 ys2)).map λp=>V.ref p.1)) b=some o:=λb o e=>by rw[eQ (gQ e hSn)];exact kH nd' hn e
 refine I1.lays (t':=tk) hk' sub λb o e=>?_;by_cases hb:b=s1.heap.objs.size+5
 .subst hb;rw[kQ]at e;cases e;refine .inr ⟨E2 _ _,?_,acc.toList,c,?_,by simpa using hS⟩
  .rw[q0,<-q0 (f:=(·.1)),ps1];lia
  .have hV:((as.zip (gX ys1 ys2)).map λp=>V.ref p.1)=as.map V.ref:=by
    have e:((as.zip (gX ys1 ys2)).map λp=>V.ref p.1)=((as.zip (gX ys1 ys2)).map (·.1)).map V.ref:=by rw[O0];rfl
    rw[e,ps1]
   rw[hacc,hV];have:∀l:List Addr,Vals (l.map V.ref) (l.map Q2):=λl=>by
    induction l with
    |nil=>exact .nil
    |cons a l ih=>exact .cons rfl ih
   exact this as
 .rw[eQ hb]at e;rcases FK e with z|⟨xs,m,rfl⟩
  .exact .inl z
  .obtain⟨j,hj⟩:=Z3.mp m;obtain⟨ha',hp'⟩:=o6.mp hj;obtain⟨x,y,e1,e2,e3⟩:=hG.pairs j b ha';obtain⟨x',f1,r1'⟩:=rv1.getV (by simpa using e1);obtain⟨y',f2,r2'⟩:=rv2.getV (by simpa using e2);have:=BV f1 f2;rw[hp']at this;cases this;exact .inr ⟨ab _ (B1 ha'),by show 2<=sizeLine;decide,[x,y],.cons r1' (.cons r2' .nil),_,e3,rfl,_,rfl,rfl⟩
end L2
namespace L3
open L2
def yG(hr:Room k A):A.units+2<cLine:=o4 (m7 (by decide:2<=64) _) hr.units
noncomputable def pL:D->Option (List D)
 | .list ds=>some ds
 | .tuple ds=>some ds
 |_=>none
section
variable {K:Fg}{F:Hp}
def At.seq(s:Sub F H)(h:At K F H v d)(e:pL d=some ds):∃k a xs,v=.ref a/\Sq k K H a xs/\DaAll K F xs ds:=by
 cases d<;>first|cases e|skip
 .obtain⟨a,xs,rfl,e1,d1⟩:=h.list s;exact ⟨.l,a,xs,rfl,SqL.of e1,d1⟩
 .obtain⟨a,xs,rfl,_,e1,d1⟩:=h.tuple s;exact ⟨.t,a,xs,rfl,SqT.of e1,d1⟩
theorem lH{G:Gh}{σ:L2.St}{ρ:Ev}:∀{ps:List (Addr×List V)}{ys1 ys2:List V}{ds es:List D}{F H:Hp},Rel K G F σ H ρ->(ps.map (·.1)).Nodup->(∀p∈ps,H p.1=none)->ps.map (·.2)=gX ys1 ys2->DaAll K F ys1 ds->DaAll K F ys2 es -> ∃F',Sub F F'/\Rel K G F' σ (HY H ps) ρ/\DaAll K F' (ps.map λp=>V.ref p.1) ((ds.zip es).map λp=>A1 [p.1,p.2])
 |[],ys1,ys2,ds,es,F,H,R,_,_,e,d1,d2=>by
  refine ⟨F,Sub.refl _,R,?_⟩;have:(ds.zip es)=[]:=by
   cases d1 with
   |nil=>rfl
   |cons _ _=>cases d2 with
    |nil=>simp
    |cons _ _=>simp[gX]at e
  rw[this];exact .nil
 |(a,xs)::r,ys1,ys2,ds,es,F,H,R,nd,hn,e,d1,d2=>by
  cases d1 with
  |nil=>simp[gX]at e
  |@cons x ys1 d ds h1 t1 =>
   cases d2 with
   |nil=>simp[gX]at e
   |@cons y ys2 d' es h2 t2 =>
    simp only[gX,E1,List.cons.injEq]at e;obtain⟨e0,e⟩:=e;have e0:xs=[x,y]:=e0;subst e0;have nd:=T3.mp nd;obtain⟨sb,R1,da⟩:=R.newTup (a:=a) (xs:=[x,y]) (ds:=[d,d']) (hn _ (.head _)) (.cons h1 (.cons h2 .nil));obtain⟨F',sb',R',da'⟩:=lH (ps:=r) R1 nd.2 (λp hp=>by rw[eQ (λq=>nd.1 (J0.mpr ⟨p,hp,q⟩))];exact hn p (K0 _ hp)) e (t1.mono sb) (t2.mono sb);exact ⟨F',sb.trans sb',R',.cons (da.mono sb') da'⟩
end
def JO(K:Fg):List V->Hp->VK->Prop:=λvs H1 Q=>∃(k1:Kd) (l1:Addr) (ys1:List V) (k2:Kd) (l2:Addr) (ys2:List V),vs=[.ref l1,.ref l2]/\Sq k1 K H1 l1 ys1/\Sq k2 K H1 l2 ys2 /\
 ∀(ps:List (Addr×List V)) (S:Addr),(ps.map (·.1)).Nodup->(∀p∈ps,H1 p.1=none)->H1 S=none->S∉ps.map (·.1)->ps.map (·.2)=gX ys1 ys2->Q (.ref S) (DQ (HY H1 ps) S (.lst (ps.map λp=>V.ref p.1)))
def rO:D->D->(Sl->Prop)->Prop:=λd e Q=>∃ds es,pL d=some ds/\pL e=some es/\Q (.ow (.list ((ds.zip es).map λp=>A1 [p.1,p.2])))
def qL{K:Fg}:UQ K (JO K) (o2 rO):=by
 intro G F σ H ρ vs ds Q Qd R ha w k;rcases ds with _|⟨d,_|⟨e,_|⟨e3,ds⟩⟩⟩<;>first|exact w.elim|skip
 .obtain⟨v1,v2,rfl,h1,h2⟩:=ha.two;obtain⟨ds,es,e1,e2,w⟩:=w;obtain⟨k1,l1,ys1,rfl,q1,d1⟩:=h1.seq R.sub e1;obtain⟨k2,l2,ys2,rfl,q2,d2⟩:=h2.seq R.sub e2;refine ⟨k1,l1,ys1,k2,l2,ys2,rfl,q1,q2,λps S nd hn hS hSp hp=>?_⟩;obtain⟨F',sb,R',da⟩:=lH R nd hn hp d1 d2;have hS':HY H ps S=none:=by
   cases e:HY H ps S with
   |none=>rfl
   |some o =>
    rcases FK e with z|⟨xs,m,_⟩
    .rw[hS]at z;cases z
    .exact absurd (J0.mpr ⟨_,m,rfl⟩) hSp
  obtain⟨R2,r2⟩:=R'.newOw (o:=.lst _) (d:=.list _) hS' da;exact k _ _ F' _ sb R2 r2 w
section
variable {K:Fg}{e e1 e2:Expr}{a b:AD}{p pos p2:Pos}
def EN(hK:X.K=K)(hc:X.calm=true)(hm:X.mg "list"=none)(hm2:X.mg "zip"=none)(ha:WA X [e1,e2] (rQ ([a,b].map (jQ K))))(hg:Gl X "list":=by rfl)(hg2:Gl X "zip":=by rfl)(he:notStar e1=true:=by rfl)(he2:notStar e2=true:=by rfl) :
  WE X (.Call (.Name "list" p) [.Call (.Name "zip" p2) [e1,e2] [] pos'] [] pos) (lift K (eY [a,b] (o2 rO))):=by
 subst hK;exact ⟨yY (nL hc hg hm hg2 hm2 ha.h (starEach_of he) (AQ (by simp[he2])) (starEach_of rfl) (AQ rfl)) λq=>XW qL q⟩
end
noncomputable def Xj(ρ:Ev)(fr:List Nat):Bool:=fr.all λj=>match ρ[j]? with|some (some t)=>!PQ t|_=>true
def Oq(h:Xj ρ fr=true){k i:Nat}{s:Sl}(e:fr[k]?=some i)(e2:ρ[i]?=some (some s)):PQ s=false:=by have:=u4.mp h i (B1 e);simpa [e2]using this
def zG(i:Nat)(own:List Str)(fr:List Nat)(g:jJ)(tc:RK)(te:TD):TD:=λρ Q=>match ρ[i]? with
 |some (some s)=>match s.d with
  | .list ds=>Xj ρ fr=true/\ds.length<=sizeLine/\EX own.length g tc te ds [] (ZZ own fr ρ) λys _=>noMutAll ys=true/\Q (.ow (.list ys)) ρ
  |_=>False
 |_=>False
section
variable {K:Fg}{G:Gh}{F F':Hp}{σ τ:L2.St}{μ:Ev}{own:List Str}{xs:List wV}
def Rel.innerL(R:Rel K G F σ H ρ)(hn:Xj ρ fr=true):Rel K ⟨H,PX σ ρ xs F H,λ_=>none⟩ (PX σ ρ xs F H) (Zw own σ fr) H (ZZ own fr ρ):=by
 have no:∀{j:Nat}{s:Sl},(ZZ own fr ρ)[j]?=some (some s)->∃k i d,j=own.length+k/\fr[k]?=some i/\ρ[i]?=some (some (Sl.fz d))/\s=.fz d:=λ{j s} e=>by
  obtain⟨k,i,s0,rfl,h2,h3,h4⟩:=GX e;rcases h4 with⟨d0,rfl,z⟩|⟨w0,_⟩
  .exact ⟨k,i,d0,rfl,h2,h3,z⟩
  .rw[Oq hn h2 h3]at w0;cases w0
 exact {
   len:=by simp[Zw,yB,ZZ]
   sub:=PY R
   sub0:=Sub.refl _
   fn:=λ_ _ e=>.inl e
   keep:=λ_ _ e _ _=>e
   tb:=fU R
   fz:=λj d e=>by obtain⟨k,i,d0,rfl,h2,h3,z⟩:=no e;cases z;obtain⟨v,e1,e2⟩:=R.fz i d h3;exact ⟨v,by rw[gY h2,e1];rfl,e2.mono (aZ R)⟩
   ow:=λj s e w=>by obtain⟨k,i,d0,rfl,h2,h3,z⟩:=no e;subst z;cases w
   new:=λj d a e _=>by obtain⟨k,i,d0,rfl,h2,h3,z⟩:=no e;cases z
   io:=λj a e=>by cases e
   ioi:=λj d e=>by obtain⟨k,i,d0,rfl,h2,h3,z⟩:=no e;cases z
   ap:=λj l s t a e1 w1 _ _ _ _=>by obtain⟨k,i,d0,rfl,h2,h3,z⟩:=no e1;subst z;cases w1}
def AG(R:Rel K G F σ H ρ){σ1:L2.St}{ρ1:Ev}(R':Rel K ⟨H,PX σ ρ xs F H,λ_=>none⟩ F' σ1 H' ρ1):∀b ys,F' b=some (.tup ys)->zX σ ρ xs F' b=some (.tup ys):=λb ys e=>by
 have n:¬LentA σ ρ xs b:=λz=>by obtain⟨_,_,o,_,_,_,_,h,w⟩:=z.own R;have e2:=R'.sub0 b o (by show PX σ ρ xs F H b=some o;rw[OJ z];exact h);rw[e]at e2;cases e2;exact w
 rw[HX n];exact e
end
def dy{K:Fg}{g:jJ}{Q:VK}(h:lift K (zG i own fr g tc te) σ H Q):dY (XB K (jQ K (.inl i))) own fr (YQ K g) (wQ K tc) (lift K te) σ H Q:=by
 obtain⟨G,F,ρ,Qd,R,w,k⟩:=h;unfold zG at w;split at w
 case h_2=>exact w.elim
 rename_i s es;split at w
 case h_2=>exact w.elim
 rename_i ds ed;obtain⟨hno,hz,w1⟩:=w;have hv:∃a xs,σ[i]?=some (some (V.ref a))/\PX σ ρ [.inl i] F H a=some (.lst xs)/\DaAll K (PX σ ρ [.inl i] F H) xs ds:=by
  have own:PQ s=true->∃a xs,σ[i]?=some (some (V.ref a))/\PX σ ρ [.inl i] F H a=some (.lst xs)/\DaAll K (PX σ ρ [.inl i] F H) xs ds:=λws=>by
   obtain⟨b,u,h1,h2,h3,h4⟩:=R.ow i s es ws;have l:LentA σ ρ [.inl i] b:=⟨i,s,G1.mpr rfl,es,ws,h1⟩;rw[ed]at h4;cases u with
   |lst xs=>exact ⟨b,xs,h1,by rw[OJ l];exact h3,DaAll.mono (aZ R) h4⟩
   |_=>exact h4.elim
  cases s with
  |fz d =>
   obtain⟨v,e1,e2⟩:=R.fz i d es;have ed:d=.list ds:=ed;rw[ed]at e2;cases e2 with
   |lst q t=>exact ⟨_,_,e1,aZ R _ _ q,t.mono (aZ R)⟩
  |ow d=>exact own rfl
  |io d=>exact own rfl
 obtain⟨a,xs,ha,hl,da0⟩:=hv;have wk:=nW (K:=K) hl da0;have Ri:=R.innerL (xs:=[.inl i]) (own:=own) hno;refine ⟨_,ha,a,rfl,.inl ⟨⟨xs,SqL.of (PY R _ _ hl)⟩,?_⟩⟩;refine ⟨λi' m ys τ H2=>m=ds.length-i'/\i'<=ds.length/\∃F' ρ' acc,Rel K ⟨H,PX σ ρ [.inl i] F H,λ_=>none⟩ F' τ H2 ρ'/\DaAll K F' ys acc/\acc.length<=i'/\EX own.length g tc te (ds.drop i') acc ρ' (λys _=>noMutAll ys=true/\Qd (.ow (.list ys)) ρ),
   ⟨ds.length,rfl,P3 _,_,_,[],Ri,.nil,P3 _,w1⟩,?_⟩;rintro j m ys τ H' ⟨rfl,hi,F',ρ',acc,R',da,hl,w'⟩;obtain⟨hgo,hst⟩:=wk j H' F' R'.sub0 R'.sub;cases e:ds[j]? with
 |none=>have hl':ds.length<=j:=N4.mp e;refine .inl ⟨hst (by lia),λDd hD=>?_⟩;rw[S3 hl']at w';obtain⟨hm,w'⟩:=w';obtain⟨sb,Ro⟩:=R.called R';obtain⟨Rn,rn⟩:=Ro.newOw (o:=.lst ys) (d:=.list acc) hD (DaAll.noMut (AG R R') da hm);exact k _ _ _ _ _ sb Rn rn w'
 |some d =>
  obtain⟨go,yl⟩:=hgo d e;have hlt:=pX e;rw[kW e]at w';refine .inr ⟨go,by rw[da.length];lia,λys2 τ2 H2=>∃F2 ρ2 acc2,Rel K ⟨H,PX σ ρ [.inl i] F H,λ_=>none⟩ F2 τ2 H2 ρ2/\DaAll K F2 ys2 acc2/\acc2.length<=j+1/\EX own.length g tc te (ds.drop (j+1)) acc2 ρ2 (λys _=>noMutAll ys=true/\Qd (.ow (.list ys)) ρ),
    λys2 τ2 H2 ⟨F2,ρ2,acc2,z1,z2,z3,z4⟩=>⟨ds.length-(j+1),by lia,rfl,hlt,F2,ρ2,acc2,z1,z2,z3,z4⟩,λx H2 y=>?_⟩;obtain⟨F2,t1,t2,t3,t4,t5⟩:=yl x H2 y;have R2:=R'.turn t1 t2 t3 t4;refine ⟨_,F2,ρ',d,_,R2,t5,w',λτ3 ρ3 R3 w3=>?_⟩;refine ⟨_,F2,ρ3,_,R3,w3,λb H4 F4 ρ4 s4 R4 w4=>?_⟩;cases b with
  |false=>exact ⟨F4,_,acc,R4.clean _,da.mono (t1.trans s4),by lia,w4⟩
  |true=>refine ⟨_,F4,ρ4,_,R4,w4,λv H5 F5 r ρ5 s5 R5 r5 w5=>?_⟩;obtain⟨F6,s6,R6,d6⟩:=r5.frz R5;exact ⟨F6,_,acc++[r.d],R6.clean _,(da.mono (t1.trans (s4.trans (s5.trans s6)))).append (.cons d6 .nil),by simp;lia,w5⟩
section
variable {K:Fg}{e:Expr}{pos:Pos}{tc:RK}{te:TD}
def gy{own:List Str}{i:Nat}{g:jJ}(hK:X.K=K)(hc:X.calm=true)(S:jW X.env.scope X.N fr sc=true)(hi:WE X iter (jQ K (.inl i)))(hg:∀C s H ex,WG (xQ X own fr sc C s H ex) tg (YQ K g))
  (hif:∀C s H ex,WIf (xQ X own fr sc C s H ex) ifs (wQ K tc)) (he:∀C s H ex,WE (xQ X own fr sc C s H ex) elt (lift K te)) (hs:oW iter=true:=by rfl):WE X (.ListComp elt [⟨tg,iter,ifs,0⟩] sc pos) (lift K (zG i own fr g tc te)) :=
 ⟨yY (QU hc (cY S) (RF hK hi.h) (λC s H ex=>(hg C s H ex).h) (λC s H ex=>(hif C s H ex).h) (λC s H ex=>(he C s H ex).h) (QJ hs)) dy⟩
end
mutual
theorem uZ:∀d:D,tX d=true->SeqAt.noMix d d=true
 | .none,_=>by simp[SeqAt.noMix]
 | .bool _,_=>by simp[SeqAt.noMix]
 | .int _,_=>by simp[SeqAt.noMix]
 | .str _,_=>by simp[SeqAt.noMix]
 | .list xs,h=>by simp[SeqAt.noMix];exact noMixAll_self xs (by simpa [tX]using h)
 | .tuple xs,h=>by simp[SeqAt.noMix];exact noMixAll_self xs (by simpa [tX]using h)
 | .dict _,h=>by simp[tX]at h
theorem noMixAll_self:∀xs:List D,plainAll xs=true->SeqAt.noMixAll xs xs=true
 |[],_=>by simp[SeqAt.noMixAll]
 |x::xs,h=>by simp[plainAll]at h;simp[SeqAt.noMixAll];exact ⟨uZ x h.1,noMixAll_self xs h.2⟩
end
structure Nice(n:Nat)(d:D):Prop where
 p:tX d=true
 c:d.canLay0=true
 d:d.depth<=n
def Nice.int(n:Nat)(i:Int):Nice n (.int i):=⟨rfl,by simp[A7],by simp[e8]⟩
def Nice.bool(n:Nat)(i:Bool):Nice n (.bool i):=⟨rfl,by simp[A7],by simp[e8]⟩
theorem yW{n:Nat}:∀{l:List D},(∀d∈l,Nice n d)->plainAll l=true/\N7 l=true/\j8 l<=n
 |[],_=>⟨rfl,by simp[N7],by simp[j8]⟩
 |x::l,h=>by have h1:=h x R0;have h2:=yW (l:=l) λd hd=>h d (K0 _ hd);refine ⟨by simp[plainAll,h1.p,h2.1],by simp[N7,h1.c,h2.2.1],?_⟩;have:=h1.d;have:=h2.2.2;simp[j8];lia
def Nice.list{l:List D}(h:∀d∈l,Nice n d):Nice (n+1) (.list l):=by obtain⟨a,b,c⟩:=yW h;exact ⟨by simp[tX,a],by simp[A7,b],by simp[e8];lia⟩
def Nice.tuple{l:List D}(h:∀d∈l,Nice n d):Nice (n+1) (.tuple l):=by obtain⟨a,b,c⟩:=yW h;exact ⟨by simp[tX,a],by simp[A7,b],by simp[e8];lia⟩
def Nice.sh{d:D}(h:Nice n d)(k:n<=64):SeqAt.shaped d=true:=by have:=h.d;unfold SeqAt.shaped;rw[h.c];simp;lia
end L3
namespace L2
def YF(K:B0):List V->Hp->VK->Prop:=λxs H Q=>∃(x:V) (k:Ki) (T:Ki),xs=[x,.ty T.nm]/\(KiOf K H x k\/∃a,x=.ref a/\k=.dct/\cN H a)/\Q (.bl (k.sub T)) H
def Pq:fX X (.builtin "isinstance") (YF X.K):=by
 intro pins s σ H xs us Q I r h;obtain⟨x,k,T,rfl,hk,q⟩:=h;rcases hk with hk|⟨a,rfl,rfl,hd⟩
 .exact OU pins s σ H _ us Q I r ⟨x,k,T,rfl,hk,q⟩
 .obtain⟨u,w',rfl,ru,rw'⟩:=vY r;obtain rfl:w'=.type T.nm:=rw';cases ru;have ht:s.TypeIs (.ref a) Ki.dct.nm:=(wB I hd).1;cases hs:Ki.dct.sub T with
  |true=>rw[hs]at q;exact call_isinstance (isinstance_true (Tx:=Ki.dct.nm) (MQ T) (by rw[OX,hs])) ⟨ht,.bl true,H,I,rfl,q⟩
  |false =>
   rw[hs]at q;have hsub:isSubtype (.type Ki.dct.nm) (.type T.nm)=pure false:=by rw[OX,hs]
   have hne:=bK Ki.dct T hs;have fin:EP X pins σ Q (.bool false) {s with toks:=s.toks+1}:=⟨.bl false,H,I.tok _,rfl,q⟩;exact call_isinstance (isinstance_false_dict hne (MQ T) hsub) ⟨ht,fin⟩
inductive PrsT (H:Hp):List (V×V)->List (List OQ×V)->Prop
 |nil:PrsT H [] []
 |cons {b ks v ps kvs}:H b=some (.tup (ks.map kV))->PrsT H ps kvs->PrsT H ((.ref b,v)::ps) ((ks,v)::kvs)
section
variable {a:Addr}
end
end L2
namespace L3
open L2
noncomputable def GZ:List (D×D)->Bool
 |(.none,_)::_=>false
 |(.bool _,_)::_=>false
 |_=>true
noncomputable def FC:mJ:=λ_ _=>False
noncomputable def Eu(T:Ki):D->(Sl->Prop)->Prop
 | .dict es,Q=>GZ es=true/\Q (.fz (.bool (Ki.dct.sub T)))
 |d,Q=>Q (.fz (.bool ((jO d).sub T)))
def At.isD{K:Fg}{es:List (D×D)}(s:Sub F H)(h:At K F H v (.dict es))(hn:GZ es=true):∃a,v=.ref a/\cN H a:=by
 rcases h with h|⟨a,o,rfl,_,e,h⟩
 .cases h with
  |dk r t=>exact ⟨_,rfl,.inl ⟨_,s.rd r⟩⟩
  |dt r t=>exact ⟨_,rfl,.inr ⟨_,s.rd r⟩⟩
  |scr q=>simp[GZ]at hn
  |exc q=>simp[GZ]at hn
  |lam q _=>simp[GZ]at hn
  |opq q=>simp[GZ]at hn
  |pd q t=>simp[GZ]at hn
  |bd q t=>simp[GZ]at hn
 .cases o with
  |ext φ=>rcases h.ext with⟨a',ep,xs,ps,z,z2,t⟩|⟨a',ep,xs,ps,z,z2,t⟩<;>(injection z2 with z2;rw[z2]at hn;simp[GZ]at hn)
  |_=>first|exact h.elim|exact ⟨_,rfl,.inl ⟨_,.inl e⟩⟩|exact ⟨_,rfl,.inr ⟨_,.inl e⟩⟩
def iy{K:Fg}{T:Ki}:UQ K (λvs H Q=>∃x,vs=[x]/\YF K [x,.ty T.nm] H Q) (o1 (Eu T)):=NF λG F σ H ρ x d Q Qd R h1 w k=>by
 have go:∀(ki:Ki),KiOf K H x ki->Qd (.fz (.bool (ki.sub T)))->∃x',[x]=[x']/\YF K [x',.ty T.nm] H Q:=λki h w=>⟨x,rfl,x,ki,T,rfl,.inl h,k _ H F (.fz _) (Sub.refl _) R (Da.bl _) w⟩;match d,h1,w with
 | .none,h1,w=>cases h1.none;exact go .non rfl w
 | .bool b,h1,w=>cases h1.bool;exact go .bl rfl w
 | .int i,h1,w=>cases h1.int;exact go .int rfl w
 | .str z,h1,w=>cases h1.str;exact go .str rfl w
 | .list ds,h1,w=>obtain⟨a,us,rfl,e1,d1⟩:=h1.list R.sub;exact go .lst (.inl ⟨rfl,us,SqL.of e1⟩) w
 | .tuple ds,h1,w=>obtain⟨a,us,rfl,_,e1,d1⟩:=h1.tuple R.sub;exact go .tup (.inr (.inl ⟨rfl,us,SqT.of e1⟩)) w
 | .dict es,h1,w=>obtain⟨a,rfl,hd⟩:=h1.isD R.sub w.1;exact ⟨_,rfl,_,.dct,T,rfl,.inr ⟨a,rfl,rfl,hd⟩,k _ H F (.fz _) (Sub.refl _) R (Da.bl _) w.2⟩
noncomputable def rL(i j:Nat)(ta tb:TD):mJ:=λE ρ=>ta ρ λr ρ1=>tb ρ1 λq ρ2=>match ρ2[i]? with
 |some (some (.io _))=>False
 | some _=>(match (ρ2.set i (some (.fz r.d)))[j]? with
   |some (some (.io _))=>False
   |some _=>E.nx ((ρ2.set i (some (.fz r.d))).set j (some (.fz q.d)))
   |none=>False)
 |none=>False
def sL{K:Fg}{E:Ends}(h:oQ K (rL i j ta tb) E σ H):jI i j (rQ ([Sum.inr ta,Sum.inr tb].map (jQ K))) E σ H:=by obtain⟨G,F,ρ,D,R,w,n,_⟩:=h;refine ⟨G,F,ρ,_,R,w,λv H1 F1 r ρ1 s1 R1 r1 w1=>?_⟩;obtain⟨F2,s2,R2,d2⟩:=r1.frz R1;refine ⟨G,F2,ρ1,_,R2,w1,λu H3 F3 q ρ3 s3 R3 r3 w3=>?_⟩;obtain⟨F4,s4,R4,d4⟩:=r3.frz R3;obtain⟨hi,w3⟩:=NJ w3;obtain⟨hj,w3⟩:=NJ w3;have R5:=R4.asg (s:=.fz r.d) hi (d2.mono (s3.trans s4));have R6:=R5.asg (s:=.fz q.d) hj d4;exact ⟨v,u,rfl,n _ H3 F4 _ (s1.trans (s2.trans (s3.trans s4))) R6 w3⟩
section
variable {K:Fg}{e e1 e2:Expr}{a b:AD}{ta tb:TD}{st:Stmt}{p pos p2 px py pt:Pos}{x:Str}
def GK:WS X st (oQ K FC):=⟨λpins s σ H D I h=>by obtain⟨G,F,ρ,E,R,w,_⟩:=h;exact w.elim⟩
def mU(T:Ki)(hK:X.K=K)(hm:X.mg "isinstance"=none){y:Str}(hm2:X.mg y=none)(hv2:bootBuiltins y=some (.type T.nm))(ha:WE X e1 (jQ K a))(hg:Gl X "isinstance":=by rfl)(hg2:Gl X y:=by rfl)(hy:y ≠ "__name__":=by decide)(hy2:(y==("__debug__":Str))=false:=by decide)(he:notStar e1=true:=by rfl) :
  WE X (.Call (.Name "isinstance" p) [e1,.Name y p2] [] pos) (lift K (eY [a] (o1 (Eu T)))):=by
 subst hK;exact ⟨yY (sK Pq hg hm boot_isinstance (WQ ha.h (WQ (JY hg2 hm2 hv2 (v:=.ty T.nm) rfl hy hy2) DZ (starEach_of rfl)) (starEach_of he)) (by decide) (by decide) (starEach_of he) (AQ rfl)) λq=>TU (P:=λx H1=>YF X.K [x,.ty T.nm] H1 _) (XW iy q)⟩
theorem tL{i j:Nat}{kt k2 pt2}(hc:X.calm=true)(hN:X.N.Nodup)(hi:X.N[i]?=some x)(hj:X.N[j]?=some y)(hij:i≠j)
  (hx:X.env.scope.names.lookup x=some .local) (hy:X.env.scope.names.lookup y=some .local) (ha:WE X e1 (lift K ta)) (hb:WE X e2 (lift K tb))
  (hw:swappedStores [.Tuple [.Name x px,.Name y py] kt pt] (.Tuple [e1,e2] k2 pt2) X.env=pure (some [x,y]):=by rfl)
  (hs:swapsWithSole [.Tuple [.Name x px,.Name y py] kt pt] (.Tuple [e1,e2] k2 pt2) pos.line X.env=pure false:=by rfl) (h1:notStar e1=true:=by rfl) (h2:notStar e2=true:=by rfl) :
  WS X (.Assign [.Tuple [.Name x px,.Name y py] kt pt] (.Tuple [e1,e2] k2 pt2) pos) (oQ K (rL i j ta tb)) :=
 ⟨Mq (Z9 hc hN hi hj hij hx hy (aQ (wx ha) (aQ (wx hb) bQ h2) h1).h hw hs) sL⟩
end
end L3
namespace L2
end L2
namespace L3
open L2
section
variable {K:Fg}{x:Str}{pos:Pos}
def GC{n:Int}(hm:∃t,X.mg x=some (.int n t))(hg:Gl X x:=by rfl)(hd:(x==("__debug__":Str))=false:=by decide):WE X (.Name x pos) (lift K (dC (.int n))):=by obtain⟨t,hm⟩:=hm;exact ⟨Jv (λ_=>.int _) (Ew hg hm ⟨t,rfl⟩ hd)⟩
end
end L3
namespace L2
noncomputable def mH:Obj:={cls:=.type "tuple",data:=.seq #[.type "list",.type "tuple"]}
def FN:TE:=λ_ H Q=>∀p,H p=none->Q (.ref p) (DQ H p (.frz mH (.tup [.ty "list",.ty "tuple"])))
def HC(hm1:X.mg "list"=none)(hm2:X.mg "tuple"=none)(hg1:Gl X "list")(hg2:Gl X "tuple"):PE X (.Tuple [.Name "list" p2,.Name "tuple" p3] k pos) FN:=by
 intro pins s σ H Q I hq;have h:PA X [.Name "list" p2,.Name "tuple" p3] (qK (tC (.ty "list")) (qK (tC (.ty "tuple")) bq)):=WQ (JY hg1 hm1 boot_list (v:=.ty "list") rfl) (WQ (JY hg2 hm2 boot_tuple (v:=.ty "tuple") rfl) DZ (L3.starEach_of rfl)) (L3.starEach_of rfl);refine wpAny_Tuple_spliced (eX (h pos pins s σ H (λxs H1=>xs=[.ty "list",.ty "tuple"]/\H1=H) I ⟨rfl,rfl⟩) λus s1 ⟨xs,H1,I1,r,ex,eH⟩=>?_);subst ex eH;have r0:=r;obtain⟨u1,u2,rfl,r1,r2⟩:=vY r;obtain rfl:u1=.type "list":=r1;obtain rfl:u2=.type "tuple":=r2;have z:([V.ty "list",V.ty "tuple"]:List V).length<=sizeLine:=by show 2<=sizeLine;decide
 refine ⟨by show 2<=sizeLine;decide,?_⟩;have hf:=I1.hok.fresh (M0 s1.heap.objs.size);exact ⟨.ref s1.heap.objs.size,DQ H1 s1.heap.objs.size (.frz mH (.tup [.ty "list",.ty "tuple"])),I1.laid (t':=s1.toks) (λb u e=>i0 _ e) (M0 _) ⟨v0 _ rfl,z,_,r0,⟨_,v0 _ rfl,rfl,_,rfl,rfl⟩⟩,rfl,hq _ hf⟩
end L2
namespace L3
open L2
section
variable {K:Fg}{e1:Expr}{a:AD}{p pos p2 p3 p4:Pos}
end
end L3
namespace L2
noncomputable def AM:V->Int
 | .int i=>i
 |_=>0
def nH(l:Qa):(l.map V.int).map AM=l:=by rw[O0];exact w8 l
noncomputable def PO(H:Hp)(p:Qa)(y:Value):Bool:=@decide (∃c,y=.ref c/\H c=some (.tup (p.map V.int))) (Classical.propDecidable _)
end L2
namespace L3
open L2
def DaAll.ints_of{K:Fg}(h:DaAll K F ys (p.map j0)):ys=p.map V.int:=by
 have e:p.map j0=(p.map λn=>(.inl n:OQ)).map xK:=by rw[O0];rfl
 rw[e]at h;have:=h.keys;rw[this,O0];rfl
end L3
namespace L2
theorem HK:∀{vs:List Value}{ns:Qa},IntsAre vs ns->Vals (ns.map V.int) vs
 |_,_,.nil=>.nil
 |_,_,.cons n t r=>.cons ⟨t,rfl⟩ (HK r)
end L2
namespace L3
open L2
end L3
namespace L2
section
variable {w:World}
def Yj(hh:A.handled=none)(ht:s.heap.IsTuple l (intItems xs))(hne:0<xs.size)(h:∀v h' tk,(intItems xs)[argBest (λi j=>decide (numAt xs i<numAt xs j)) (xs.size-1)]?=some v->(∀b o,s.heap.get? b=some o->h'.get? b=some o)->Q v {s with heap:=h',toks:=tk}):wpAny (model prog w) A (call (.builtin "min") [.ref l]) Q E s:=by
 obtain⟨o,ho,hc,n,hd⟩:=id ht;have hn:l≠s.heap.objs.size:=N0 (u0 ho);refine call_min_walk (wpAny_pyIter_tuple ht ?_);refine ⟨s.heap.objs.size,_,_,_,_,_,_,rfl,Walks.tuple (A:=A.in1) hh _ l hn (intItems xs),⟨⟨_,v0 _ rfl,rfl,rfl⟩,ht.push _⟩,λb hb=>?_,by simpa [intItems]using hne,CmpOf.ints_lt (numAt xs) (λ_ _=>intItems_at),λv h' tk hP hk=>?_⟩
 .rcases Y0.mp hb with rfl|hb
  .exact u0 (v0 _ rfl)
  .obtain rfl:=G1.mp hb;exact u0 (i0 _ ho)
 .exact h v h' tk (by simpa [intItems]using hP) λb o e=>hk b o (λhb=>absurd (u0 e) ((G1.mp hb) ▸ U2 _)) (i0 _ e)
def Zj(hh:A.handled=none)(ht:s.heap.IsTuple l (intItems xs))(hne:0<xs.size)(h:∀v h' tk,(intItems xs)[argBest (λi j=>decide (numAt xs i > numAt xs j)) (xs.size-1)]?=some v->(∀b o,s.heap.get? b=some o->h'.get? b=some o)->Q v {s with heap:=h',toks:=tk}):wpAny (model prog w) A (call (.builtin "max") [.ref l]) Q E s:=by
 obtain⟨o,ho,hc,n,hd⟩:=id ht;have hn:l≠s.heap.objs.size:=N0 (u0 ho);refine call_max_walk (wpAny_pyIter_tuple ht ?_);refine ⟨s.heap.objs.size,_,_,_,_,_,_,rfl,Walks.tuple (A:=A.in1) hh _ l hn (intItems xs),⟨⟨_,v0 _ rfl,rfl,rfl⟩,ht.push _⟩,λb hb=>?_,by simpa [intItems]using hne,CmpOf.ints_gt (numAt xs) (λ_ _=>intItems_at),λv h' tk hP hk=>?_⟩
 .rcases Y0.mp hb with rfl|hb
  .exact u0 (v0 _ rfl)
  .obtain rfl:=G1.mp hb;exact u0 (i0 _ ho)
 .exact h v h' tk (by simpa [intItems]using hP) λb o e=>hk b o (λhb=>absurd (u0 e) ((G1.mp hb) ▸ U2 _)) (i0 _ e)
end
def uL(K:B0):List V->Hp->VK->Prop:=λxs H Q=>∃(a:Addr) (ns:Qa),xs=[.ref a]/\(SqL K H a (ns.map V.int)\/SqT K H a (ns.map V.int))/\0<ns.length/\∀M,M∈ns->(∀y∈ns,M<=y)->Q (.int M) H
def vL(K:B0):List V->Hp->VK->Prop:=λxs H Q=>∃(a:Addr) (ns:Qa),xs=[.ref a]/\(SqL K H a (ns.map V.int)\/SqT K H a (ns.map V.int))/\0<ns.length/\∀M,M∈ns->(∀y∈ns,y<=M)->Q (.int M) H
def ax{K:B0}(hK:X.K=K)(hc:X.calm=true):fX X (.builtin "min") (uL K):=by
 subst hK;intro pins s σ H xs us Q I r h;obtain⟨a,ns,rfl,hq,hp,q⟩:=h;obtain⟨u,rfl,ru⟩:=iZ r;cases ru;have hh:=I.ok.hd hc;have fin:∀{its:List Value}{zs:Array (Int×Tok)},Vals (ns.map V.int) its->its.toArray=intItems zs->0<zs.size/\∀(v:Value) (h':Heap) (tk:Nat),(intItems zs)[argBest (λi j=>decide (numAt zs i<numAt zs j)) (zs.size-1)]?=some v->(∀b o,s.heap.get? b=some o->h'.get? b=some o)->EP X pins σ Q v {s with heap:=h',toks:=tk}:=by
  intro its zs rv e;have hi:IntsAre its ns:=FQ rv;have hns:ns=zs.toList.map (·.1):=by rw[<-nums_intItems,<-e];exact (show numsOf its.toArray.toList=ns from hi.numsOf).symm
  have hsz:0<zs.size:=by have h3:=hp;rw[hns,q0,P0]at h3;exact h3
  refine ⟨hsz,λv h' tk hv hk=>?_⟩;obtain⟨t,rfl⟩:=intItems_at hv;obtain⟨h1,h2⟩:=argBest_lt (numAt zs) (zs.size-1);refine ⟨.int _,H,I.kept hk,⟨t,rfl⟩,q _ ?_ λy hy=>?_⟩
  .rw[hns,numAt_eq];exact getD_mem (by rw[q0,P0];lia)
  .rw[hns]at hy;obtain⟨j,hj,rfl⟩:=mem_getD hy;rw[q0,P0]at hj;rw[<-numAt_eq];exact h2 j (by lia)
 rcases hq with hq|hq
 .obtain⟨its,rv,p,hz⟩:=I.list hq;obtain⟨zs,hx⟩:=(FQ rv).allInts.items;obtain⟨hs,f⟩:=fin rv hx;exact min_intList hh (hx ▸ p.isList) hs f
 .obtain⟨its,rv,p,hz⟩:=I.tuple hq;obtain⟨zs,hx⟩:=(FQ rv).allInts.items;obtain⟨hs,f⟩:=fin rv hx;exact Yj hh (show s.heap.IsTuple a (intItems zs) from hx ▸ p) hs f
def bx{K:B0}(hK:X.K=K)(hc:X.calm=true):fX X (.builtin "max") (vL K):=by
 subst hK;intro pins s σ H xs us Q I r h;obtain⟨a,ns,rfl,hq,hp,q⟩:=h;obtain⟨u,rfl,ru⟩:=iZ r;cases ru;have hh:=I.ok.hd hc;have fin:∀{its:List Value}{zs:Array (Int×Tok)},Vals (ns.map V.int) its->its.toArray=intItems zs->0<zs.size/\∀(v:Value) (h':Heap) (tk:Nat),(intItems zs)[argBest (λi j=>decide (numAt zs i > numAt zs j)) (zs.size-1)]?=some v->(∀b o,s.heap.get? b=some o->h'.get? b=some o)->EP X pins σ Q v {s with heap:=h',toks:=tk}:=by
  intro its zs rv e;have hi:IntsAre its ns:=FQ rv;have hns:ns=zs.toList.map (·.1):=by rw[<-nums_intItems,<-e];exact (show numsOf its.toArray.toList=ns from hi.numsOf).symm
  have hsz:0<zs.size:=by have h3:=hp;rw[hns,q0,P0]at h3;exact h3
  refine ⟨hsz,λv h' tk hv hk=>?_⟩;obtain⟨t,rfl⟩:=intItems_at hv;obtain⟨h1,h2⟩:=argBest_gt (numAt zs) (zs.size-1);refine ⟨.int _,H,I.kept hk,⟨t,rfl⟩,q _ ?_ λy hy=>?_⟩
  .rw[hns,numAt_eq];exact getD_mem (by rw[q0,P0];lia)
  .rw[hns]at hy;obtain⟨j,hj,rfl⟩:=mem_getD hy;rw[q0,P0]at hj;rw[<-numAt_eq];exact h2 j (by lia)
 rcases hq with hq|hq
 .obtain⟨its,rv,p,hz⟩:=I.list hq;obtain⟨zs,hx⟩:=(FQ rv).allInts.items;obtain⟨hs,f⟩:=fin rv hx;exact max_intList hh (hx ▸ p.isList) hs f
 .obtain⟨its,rv,p,hz⟩:=I.tuple hq;obtain⟨zs,hx⟩:=(FQ rv).allInts.items;obtain⟨hs,f⟩:=fin rv hx;exact Zj hh (show s.heap.IsTuple a (intItems zs) from hx ▸ p) hs f
end L2
namespace L3
open L2
section
variable {K:Fg}{σ:L2.St}{v:V}{Q:L2.St->Hp->Prop}
end
noncomputable def GN:D->(Sl->Prop)->Prop
 | .list ds,Q=>∃ns:Qa,ds=ns.map j0/\0<ns.length/\∀M,M∈ns->(∀y∈ns,M<=y)->Q (.fz (.int M))
 | .tuple ds,Q=>∃ns:Qa,ds=ns.map j0/\0<ns.length/\∀M,M∈ns->(∀y∈ns,M<=y)->Q (.fz (.int M))
 |_,_=>False
noncomputable def HN:D->(Sl->Prop)->Prop
 | .list ds,Q=>∃ns:Qa,ds=ns.map j0/\0<ns.length/\∀M,M∈ns->(∀y∈ns,y<=M)->Q (.fz (.int M))
 | .tuple ds,Q=>∃ns:Qa,ds=ns.map j0/\0<ns.length/\∀M,M∈ns->(∀y∈ns,y<=M)->Q (.fz (.int M))
 |_,_=>False
def IC{K:Fg}:UQ K (uL K) (o1 GN):=NF λG F σ H ρ x d Q Qd R h1 w k=>by
 match d,h1,w with
 | .list ds,h1,⟨ns,e,hp,w⟩=>subst e;obtain⟨a,us,rfl,e1,d1⟩:=h1.list R.sub;have:=d1.intsV;subst this;exact ⟨a,ns,rfl,.inl (SqL.of e1),hp,λM m1 m2=>k _ H F (.fz _) (Sub.refl _) R (Da.int _) (w M m1 m2)⟩
 | .tuple ds,h1,⟨ns,e,hp,w⟩=>subst e;obtain⟨a,us,rfl,_,e1,d1⟩:=h1.tuple R.sub;have:=d1.intsV;subst this;exact ⟨a,ns,rfl,.inr (SqT.of e1),hp,λM m1 m2=>k _ H F (.fz _) (Sub.refl _) R (Da.int _) (w M m1 m2)⟩
def JC{K:Fg}:UQ K (vL K) (o1 HN):=NF λG F σ H ρ x d Q Qd R h1 w k=>by
 match d,h1,w with
 | .list ds,h1,⟨ns,e,hp,w⟩=>subst e;obtain⟨a,us,rfl,e1,d1⟩:=h1.list R.sub;have:=d1.intsV;subst this;exact ⟨a,ns,rfl,.inl (SqL.of e1),hp,λM m1 m2=>k _ H F (.fz _) (Sub.refl _) R (Da.int _) (w M m1 m2)⟩
 | .tuple ds,h1,⟨ns,e,hp,w⟩=>subst e;obtain⟨a,us,rfl,_,e1,d1⟩:=h1.tuple R.sub;have:=d1.intsV;subst this;exact ⟨a,ns,rfl,.inr (SqT.of e1),hp,λM m1 m2=>k _ H F (.fz _) (Sub.refl _) R (Da.int _) (w M m1 m2)⟩
open L2
section
variable {K:Fg}{G:Gh}{F F':Hp}{σ:L2.St}
def Rel.grown(R:Rel K G F σ H ρ)(sb:Sub F F')(su:Sub F' H')(fn:∀b o,F' b=some o->F b=some o\/H b=none)(kp:∀b o,(∀z∈TB K,z.1≠b)->H b=some o->H' b=some o)(tb:TabOk K F' H'):Rel K G F' σ H' ρ:=by
 refine ⟨R.len,su,R.sub0.trans sb,λb o e=>?_,λa o e n t=>kp _ _ t (R.keep a o e n t),tb,λi d e=>?_,λi s e w=>?_,R.new,R.io,R.ioi,R.ap⟩
 .rcases fn b o e with q|q
  .exact R.fn b o q
  .exact .inr (R.h0 q)
 .obtain⟨v,h1,h2⟩:=R.fz i d e;exact ⟨v,h1,h2.mono sb⟩
 .obtain⟨a,o,h1,h2,h3,h4⟩:=R.ow i s e w;refine ⟨a,o,h1,?_,kp _ _ (R.tb.ne λu z=>by rw[h3]at z;cases z;exact h4.stk) h3,h4.mono sb⟩;cases q:F' a with
  |none=>rfl
  |some u =>
   rcases fn a u q with z|z
   .rw[h2]at z;cases z
   .rw[h3]at z;cases z
noncomputable def Fu:Sl->Bool
 | .fz d=>noMut d
 | .ow (.list ds)=>noMutAll ds
 |_=>false
def cx(con:Con)(as:List AD):TD:=λρ Q=>nX as ρ λxs ρ1=>JQ ρ1 xs λds=>con (ds.map Sl.fz) λr _=>Fu r=true/\Q r ρ1
def Res.calledL(R:Rel K G F σ H ρ){σ1:L2.St}{ρ1:Ev}{v:V}{r:Sl}(R':Rel K ⟨H,PX σ ρ xs F H,λ_=>none⟩ F' σ1 H' ρ1)(q:Res K ⟨H,PX σ ρ xs F H,λ_=>none⟩ F' H' σ1 ρ1 v r)(hl:Fu r=true):Res K G (zX σ ρ xs F') H' σ ρ v r:=by
 have tp:∀b ys,F' b=some (.tup ys)->zX σ ρ xs F' b=some (.tup ys):=λb ys e=>by
  have n:¬LentA σ ρ xs b:=λz=>by obtain⟨_,_,o,_,_,_,_,h,w⟩:=z.own R;have e2:=R'.sub0 b o (by show PX σ ρ xs F H b=some o;rw[OJ z];exact h);rw[e]at e2;cases e2;exact w
  rw[HX n];exact e
 cases r with
 |fz d=>exact Da.noMut tp q hl
 |io d=>exact q.elim
 |ow d =>
  obtain⟨a,o,h1,h2,h3,h4,h5,_⟩:=q;have h5:H a=none:=h5;have nl:¬LentA σ ρ xs a:=λz=>by obtain⟨_,_,o,_,_,_,_,h,w⟩:=z.own R;rw[h5]at h;cases h
  refine ⟨a,o,h1,by rw[HX nl];exact h2,h3,?_,R.h0 h5,λi s es w z=>?_⟩
  .cases d with
   |list ds =>
    cases o with
    |lst ys=>exact DaAll.noMut tp h4 hl
    |_=>exact h4.elim
   |_=>cases hl
  .obtain⟨a',o',g1,_,g3,_⟩:=R.ow i s es w;rw[z]at g1;cases g1;rw[h5]at g3;cases g3
def jy{E:XK}{Q:VK}(h:lift K (cx con as) σ H Q):wY (dQ K con) [] E (rQ (as.map (jQ K))) σ H Q:=by obtain⟨G,F,ρ,Qd,R,w,k⟩:=h;refine bX R w λvs H1 F1 xs ρ1 s1 R1 o w1=>?_;obtain⟨ds,da,w1⟩:=jK (xs:=xs) R1 (λy hy=>hy) o w1;rw[O2];refine ⟨_,_,ds.map Sl.fz,_,zJ (PY R1) (fU R1) da,w1,λv H' F' r ρ' s' R' r' q=>?_⟩;obtain⟨sb,R2⟩:=R1.called R';exact k v H' _ r ρ1 (s1.trans sb) R2 (Res.calledL R1 R' r' q.1) q.2
end
section
variable {K:Fg}{e:Expr}{es:List Expr}{as:List AD}{x:Str}{p pos:Pos}
def wL{k:Nat}{ps:List Str}{con:Con}(C:Cal X.prog X.w X.K X.mg X.base k x ps (dQ K con))(hr:Room k X.A)(ha:WA X (e::es) (rQ (as.map (jQ K))))(hg:Gl X x:=by rfl)(hdb:(x==("__debug__":Str))=false:=by decide)
  (he:notStar e=true:=by rfl) (hpl:es.all notStar=true:=by rfl):WE X (.Call (.Name x p) (e::es) [] pos) (lift K (cx con as)):=⟨yY (ij C hr ha.h hg hdb (starEach_of he) (AQ hpl)) jy⟩
end
end L3
namespace SG
noncomputable def Qq:Bool->Keyed->Array Keyed->Nat->Nat->Nat->StateT SortSt Sem (Option Nat):=sortPriv% PySem.Builtin.gallop
noncomputable def BM:Array Keyed->Array Keyed->StateT SortSt Sem (Array Keyed):=sortPriv% PySem.Builtin.mergeLo
noncomputable def CM:Array Keyed->Array Keyed->StateT SortSt Sem (Array Keyed):=sortPriv% PySem.Builtin.mergeHi
noncomputable abbrev IK(z:SortSt)(g:Nat):SortSt:=SortSt.mk' (kindOf z) (arrOf z) (pendingOf z) g (failedOf z)
def KC(lf:Bool)(ky:Keyed)(xs:Array Keyed)(bs n ht:Nat):Qq lf ky xs bs n ht=(do
    let ov (i:Nat):StateT SortSt Sem (Option Bool):=do
      let z<-elem' xs (bs+i)
      if lf then lt' z ky else return (<-lt' ky z).map (!·)
    let mut la:=0
    let mut o:=1
    let mut l:=0
    let mut h:=0
    let some rt<-ov ht|return none
    if rt then
      let mx:=n-ht
      for _ in [0:n] do
        if o ≥ mx then break
        let some mo<-ov (ht+o)|return none
        if !mo then break
        la:=o
        o:=2*o+1
      l:=ht+la+1
      h:=ht+min o mx
    else
      let mx:=ht+1
      for _ in [0:n] do
        if o ≥ mx then break
        let some fo<-ov (ht-o)|return none
        if fo then break
        la:=o
        o:=2*o+1
      l:=ht+1-min o mx
      h:=ht-la
    for _ in [0:n] do
      if l ≥ h then break
      let m:=l+(h-l) / 2
      let some mo<-ov m|return none
      if mo then l:=m+1 else h:=m
    return some h):=rfl
section
variable {w:World}{κ:SortKind}{rk:Keyed->Nat}{S:Keyed->Prop}
def lZ(prog:Program)(w:World)(A:Around)(s:Shared)(κ:SortKind)(rk:Keyed->Nat)(S:Keyed->Prop):Prop:=∀x y:Keyed,S x->S y->∀Q:Bool->Shared->Prop,Q (decide (rk x<rk y)) s->wpAny (model prog w) A (keyLt' κ x.1 y.1) Q (λ_ _=>False) s
def w_lt(q:lZ prog w A s κ rk S){x y:Keyed}{st:SortSt}{Q:Option Bool->SortSt->Prop}(hk:kindOf st=κ)(hx:S x)(hy:S y)(h:Q (some (decide (rk x<rk y))) st):wpS (model prog w) A E s (lt' x y) Q st:=by
 rw[lt'_eq];refine wpS_bind (wpS_get ?_);rw[hk];refine wpS_bind (wpS_lift (wpAny_attempt (wpAny_mono (q x y hx hy (λb s'=>b=decide (rk x<rk y)/\s'=s) ⟨rfl,rfl⟩) (λb s' e=>?_) λ_ _ e=>e.elim)));obtain⟨rfl,rfl⟩:=e;exact ⟨rfl,wpS_pure h⟩
def VQ{st:SortSt}{Q:Keyed->SortSt->Prop}(hi:i<xs.size)(h:Q xs[i] st):wpS (model prog w) A E s (elem' xs i) Q st:=by rw[elem'_eq,getElem?_pos xs i hi];exact wpS_pure h
def Ov(prog:Program)(w:World)(A:Around)(E:Value->Shared->Prop)(s:Shared)(n:Nat)(b:Nat->Bool)(st:SortSt)(ov:Nat->StateT SortSt Sem (Option Bool)):Prop:=∀i,i<n->∀Q:Option Bool->SortSt->Prop,Q (some (b i)) st->wpS (model prog w) A E s (ov i) Q st
noncomputable def xL(ov:Nat->StateT SortSt Sem (Option Bool))(n l₀ h₀:Nat):StateT SortSt Sem (Option Nat):=do
 let mut l:=l₀
 let mut h:=h₀
 for _ in [0:n] do
  if l ≥ h then break
  let m:=l+(h-l) / 2
  let some mo<-ov m|return none
  if mo then l:=m+1 else h:=m
 return some h
def w_bin{l h':Nat}{st:SortSt}{Q:Option Nat->SortSt->Prop}(hO:Ov prog w A E s n b st ov)(hm:∀i j,i<=j->j<n->b j=true->b i=true) (h1:l<=h') (h2:h'<=n) (h3:∀i,i<l->b i=true) (h4:∀i,h'<=i->i<n->b i=false)(h:∀k,k<=n->(∀i,i<k->b i=true)->(∀i,k<=i->i<n->b i=false)->Q (some k) st):wpS (model prog w) A E s (xL ov n l h') Q st:=by
 unfold xL;refine wpS_bind (wpS_mono (wpS_forRange (I:=λx c st'=>st'=st/\∃l h',c=(none,l,h')/\l<=h'/\h'<=n/\h'-l<=n-x/\(∀i,i<l->b i=true)/\∀i,h'<=i->i<n->b i=false)
   (Q:=λc st'=>st'=st/\∃k,c=(none,k,k)/\k<=n/\(∀i,i<k->b i=true)/\∀i,k<=i->i<n->b i=false) ?step ?fin ⟨rfl,l,h',rfl,h1,h2,by lia,h3,h4⟩) ?post)
 case fin =>
  rintro c st' ⟨rfl,l,h',rfl,a1,a2,a3,a4,a5⟩;have:l=h':=by lia
  subst this;exact ⟨rfl,l,rfl,a2,a4,a5⟩
 case post=>rintro c st' ⟨rfl,k,rfl,a1,a2,a3⟩;exact wpS_pure (h k a1 a2 a3)
 case step =>
  rintro x c st' _ hx ⟨rfl,l,h',rfl,a1,a2,a3,a4,a5⟩;dsimp only;by_cases hge:l ≥ h'
  .rw[if_pos hge];have:l=h':=by lia
   subst this;exact wpS_pure ⟨rfl,l,rfl,a2,a4,a5⟩
  .rw[if_neg hge];refine wpS_bind (hO _ (by lia) _ ?_);cases hb:b (l+(h'-l) / 2) with
   |true=>refine wpS_pure ⟨rfl,_,_,rfl,by lia,a2,by lia,λi hi=>hm _ _ (by lia) (by lia) hb,a5⟩
   |false =>
    refine wpS_pure ⟨rfl,_,_,rfl,by lia,by lia,by lia,a4,λi i1 i2=>?_⟩;cases hbi:b i with
    |false=>rfl
    |true=>rw[hm _ _ i1 i2 hbi]at hb;cases hb
theorem yL{lf:Bool}{st:SortSt}{Q:Option Nat->SortSt->Prop}
  (hO:Ov prog w A E s n b st (λi=>do
    let z<-elem' xs (bs+i)
    if lf then lt' z ky else return (<-lt' ky z).map (!·)))
  (hm:∀i j,i<=j->j<n->b j=true->b i=true) (hh:ht<n)
  (h:∀k,k<=n->(∀i,i<k->b i=true)->(∀i,k<=i->i<n->b i=false)->Q (some k) st):wpS (model prog w) A E s (Qq lf ky xs bs n ht) Q st:=by
 rw[KC];generalize hov:(λi=>(do
     let z<-elem' xs (bs+i)
     if lf then lt' z ky else return (<-lt' ky z).map (!·):StateT SortSt Sem (Option Bool)))=ov at hO;dsimp only;clear hov;refine wpS_bind (hO ht hh _ ?_);cases hb:b ht with
 |true =>
  dsimp only;rw[if_pos rfl];refine wpS_bind (wpS_mono (wpS_forRange (I:=λx c st'=>st'=st/\∃la o:Nat,c=(none,la,o)/\la<o/\x+1<=o/\ht+la<n/\b (ht+la)=true)
    (Q:=λc st'=>st'=st/\∃la o:Nat,c=(none,la,o)/\la<o/\ht+la<n/\b (ht+la)=true/\(n-ht<=o\/b (ht+o)=false)) ?step ?fin ⟨rfl,0,1,rfl,by lia,by lia,by lia,hb⟩) ?post)
  case fin=>rintro c st' ⟨rfl,la,o,rfl,a1,a2,a3,a4⟩;exact ⟨rfl,la,o,rfl,a1,a3,a4,.inl (by lia)⟩
  case step =>
   rintro x c st' _ hx ⟨rfl,la,o,rfl,a1,a2,a3,a4⟩;dsimp only;by_cases hge:o ≥ n-ht
   .rw[if_pos hge];exact wpS_pure ⟨rfl,la,o,rfl,a1,a3,a4,.inl hge⟩
   .rw[if_neg hge];refine wpS_bind (hO _ (by lia) _ ?_);cases hbo:b (ht+o) with
    |true=>exact wpS_pure ⟨rfl,o,2*o+1,rfl,by lia,by lia,by lia,hbo⟩
    |false=>exact wpS_pure ⟨rfl,la,o,rfl,a1,a3,a4,.inr hbo⟩
  case post =>
   rintro c st' ⟨rfl,la,o,rfl,a1,a3,a4,a5⟩;refine w_bin hO hm (l:=ht+la+1) (h':=ht+min o (n-ht)) (by lia) (by lia) (λi hi=>hm _ _ (by lia) a3 a4) (λi i1 i2=>?_) h;rcases a5 with a5|a5
   .omega
   .cases hbi:b i with
    |false=>rfl
    |true=>rw[hm (ht+o) i (by lia) i2 hbi]at a5;cases a5
 |false =>
  dsimp only;rw[if_neg (by decide)];refine wpS_bind (wpS_mono (wpS_forRange (I:=λx c st'=>st'=st/\∃la o:Nat,c=(none,la,o)/\la<o/\x+1<=o/\la<=ht/\b (ht-la)=false)
    (Q:=λc st'=>st'=st/\∃la o:Nat,c=(none,la,o)/\la<o/\la<=ht/\b (ht-la)=false/\(ht+1<=o\/b (ht-o)=true)) ?step2 ?fin2 ⟨rfl,0,1,rfl,by lia,by lia,by lia,hb⟩) ?post2)
  case fin2=>rintro c st' ⟨rfl,la,o,rfl,a1,a2,a3,a4⟩;exact ⟨rfl,la,o,rfl,a1,a3,a4,.inl (by lia)⟩
  case step2 =>
   rintro x c st' _ hx ⟨rfl,la,o,rfl,a1,a2,a3,a4⟩;dsimp only;by_cases hge:o ≥ ht+1
   .rw[if_pos hge];exact wpS_pure ⟨rfl,la,o,rfl,a1,a3,a4,.inl hge⟩
   .rw[if_neg hge];refine wpS_bind (hO _ (by lia) _ ?_);cases hbo:b (ht-o) with
    |false=>exact wpS_pure ⟨rfl,o,2*o+1,rfl,by lia,by lia,by lia,hbo⟩
    |true=>exact wpS_pure ⟨rfl,la,o,rfl,a1,a3,a4,.inr hbo⟩
  case post2 =>
   rintro c st' ⟨rfl,la,o,rfl,a1,a3,a4,a5⟩;have up:∀i,ht-la<=i->i<n->b i=false:=λi i1 i2=>by
    cases hbi:b i with
    |false=>rfl
    |true=>rw[hm (ht-la) i i1 i2 hbi]at a4;cases a4
   refine w_bin hO hm (l:=ht+1-min o (ht+1)) (h':=ht-la) (by lia) (by lia) (λi hi=>?_) up h;rcases a5 with a5|a5
   .omega
   .exact hm _ (ht-o) (by lia) (by lia) a5
theorem NZ(q:lZ prog w A s κ rk S){lf:Bool}{ky:Keyed}{xs:Array Keyed}{bs n ht:Nat}{st:SortSt}{Q:Option Nat->SortSt->Prop}(hk:kindOf st=κ)(hy:S ky)(hS:∀i (h:i<xs.size),S xs[i])
  (hn:bs+n<=xs.size) (hs:∀i j (h:j<xs.size) (h2:i<=j),bs<=i->j<bs+n->rk (xs[i]'(by lia))<=rk xs[j]) (hh:ht<n)
  (h:∀k,k<=n->(∀i (h:i<xs.size),bs<=i->i<bs+k->if lf=true then rk xs[i]<rk ky else rk xs[i]<=rk ky)->(∀i (h:i<xs.size),bs+k<=i->i<bs+n->if lf=true then rk ky<=rk xs[i] else rk ky<rk xs[i])->Q (some k) st) :
  wpS (model prog w) A E s (Qq lf ky xs bs n ht) Q st:=by
 refine yL (b:=λi=>if hi:bs+i<xs.size then (if lf=true then decide (rk xs[bs+i]<rk ky) else !decide (rk ky<rk xs[bs+i])) else false) ?_ ?_ hh ?_
 .intro i hi Q hQ;have hi':bs+i<xs.size:=by lia
  simp only[dif_pos hi']at hQ;refine wpS_bind (VQ hi' ?_);cases lf with
  |true=>exact w_lt q hk (hS _ _) hy hQ
  |false=>exact wpS_bind (w_lt q hk hy (hS _ _) (wpS_pure hQ))
 .intro i j hij hj hb;have hj':bs+j<xs.size:=by lia
  have hi':bs+i<xs.size:=by lia
  have hle:=hs (bs+i) (bs+j) hj' (by lia) (by lia) (by lia);simp only[dif_pos hj']at hb;simp only[dif_pos hi'];cases lf with
  |true=>simp at hb ⊢;lia
  |false=>simp at hb ⊢;lia
 .intro k hk h1 h2;refine h k hk (λi hi i1 i2=>?_) (λi hi i1 i2=>?_)
  .have:=h1 (i-bs) (by lia);have e:bs+(i-bs)=i:=by lia
   simp only[e,dif_pos hi]at this;cases lf with
   |true=>simpa using this
   |false=>simpa using this
  .have:=h2 (i-bs) (by lia) (by lia);have e:bs+(i-bs)=i:=by lia
   simp only[e,dif_pos hi]at this;cases lf with
   |true=>simpa using this
   |false=>simpa using this
end
section
variable {le:α->α->Prop}{a b out:List α}{i j:Nat}
structure Mg(le:α->α->Prop)(a b out:List α)(i j:Nat):Prop where
 perm:out.Perm (a.take i++b.take j)
 srt:out.Pairwise le
 la:∀x∈out,∀y∈a.drop i,le x y
 lb:∀x∈out,∀y∈b.drop j,le x y
def Mg.comm(h:Mg le a b out i j):Mg le b a out j i:=⟨h.perm.trans T6,h.srt,h.lb,h.la⟩
def Mg.takeA(h:Mg le a b out i j)(ha:a.Pairwise le)(k:Nat)(hk:∀x∈(a.drop i).take k,∀y∈b.drop j,le x y):Mg le a b (out++(a.drop i).take k) (i+k) j where
 perm:=by rw[List.take_add];refine (h.perm.append_right _).trans ?_;rw[S2,S2];exact List.Perm.append_left _ T6
 srt:=A5.mpr ⟨h.srt,(ha.sublist (N6 _ _)).sublist (M7 _ _),λx hx y hy=>h.la x hx y (F8 hy)⟩
 la:=λx hx y hy=>by
  rw[<-y8]at hy;rcases A3.mp hx with hx|hx
  .exact h.la x hx y (List.mem_of_mem_drop hy)
  .have p:=ha.sublist (N6 i _);rw[<-i4 k (a.drop i)]at p;exact (A5.mp p).2.2 x hx y hy
 lb:=λx hx y hy=>by
  rcases A3.mp hx with hx|hx
  .exact h.lb x hx y hy
  .exact hk x hx y hy
def Mg.oneA(h:Mg le a b out i j)(ha:a.Pairwise le)(hi:i<a.length)(hk:∀y∈b.drop j,le a[i] y):Mg le a b (out++[a[i]]) (i+1) j:=by
 have e:(a.drop i).take 1=[a[i]]:=by rw[W1 hi];rfl
 have:=h.takeA ha 1 (by rw[e];simpa using hk);rwa [e]at this
def Mg.fin(h:Mg le a b out i j)(ha:a.Pairwise le)(hb:b.Pairwise le)(hx:∀x∈a.drop i,∀y∈b.drop j,le x y):(out++a.drop i++b.drop j).Perm (a++b)/\(out++a.drop i++b.drop j).Pairwise le:=by
 constructor
 .have e:(a.take i++b.take j++a.drop i++b.drop j).Perm (a.take i++a.drop i++(b.take j++b.drop j)):=by
   simp only[S2];refine List.Perm.append_left _ ?_;rw[<-S2,<-S2];exact T6.append_right _
  rw[i4,i4]at e;exact ((h.perm.append_right _).append_right _).trans e
 .rw[S2];refine A5.mpr ⟨h.srt,A5.mpr ⟨ha.sublist (N6 _ _),hb.sublist (N6 _ _),hx⟩,λx hx y hy=>?_⟩;rcases A3.mp hy with hy|hy
  .exact h.la x hx y hy
  .exact h.lb x hx y hy
def Mg.finC(h:Mg le a b out i j)(ha:a.Pairwise le)(hb:b.Pairwise le)(hx:∀x∈b.drop j,∀y∈a.drop i,le x y):(out++b.drop j++a.drop i).Perm (a++b)/\(out++b.drop j++a.drop i).Pairwise le:=by obtain⟨h1,h2⟩:=h.comm.fin hb ha hx;exact ⟨h1.trans T6,h2⟩
end
noncomputable abbrev ly:=Option (Array Keyed)×Array Keyed×Nat×Nat×Nat×Nat×Nat
noncomputable abbrev DM:=Option (Array Keyed)×Array Keyed×Nat×Nat×Nat×Nat
noncomputable abbrev EM:=Option (Array Keyed)×Array Keyed×Nat×Nat×Nat
section
variable (x y:Array Keyed)
noncomputable def dn(o:Array Keyed)(i j:Nat):Array Keyed:=o++x.extract i x.size++y.extract j y.size
noncomputable def ls(o:Array Keyed)(i j:Nat):Array Keyed:=o++y.extract j y.size++x.extract i x.size
noncomputable def FM(o:Array Keyed)(i j g ac bc:Nat):StateT SortSt Sem (ForInStep ly):=do
 let z<-elem' x i
 if (i+1+1==x.size)=true then pure (.done (some (ls x y (o.push z) (i+1) j),o.push z,i+1,j,g,ac,bc))
 else if (decide (ac<7)&&decide (bc<7))=true then pure (.done (none,o.push z,i+1,j,g,ac,bc))
 else pure (.yield (none,o.push z,i+1,j,g,ac,bc))
noncomputable def GM(o:Array Keyed)(i j g ac bc:Nat):StateT SortSt Sem (ForInStep ly):=do
 let z<-elem' y j
 if (j+1==y.size)=true then pure (.done (some (dn x y (o.push z) i (j+1)),o.push z,i,j+1,g,ac,bc))
 else do
  let u<-elem' x i
  let some k<-Qq true u y (j+1) (y.size-(j+1)) 0|pure (.done (some (dn x y (o.push z) i (j+1)),o.push z,i,j+1,g,ac,bc))
  if k > 0 then
   if (j+1+k==y.size)=true then pure (.done (some (dn x y (o.push z++y.extract (j+1) (j+1+k)) i (j+1+k)),o.push z++y.extract (j+1) (j+1+k),i,j+1+k,g,ac,k))
   else FM x y (o.push z++y.extract (j+1) (j+1+k)) i (j+1+k) g ac k
  else FM x y (o.push z) i (j+1) g ac k
noncomputable def HM(o:Array Keyed)(i j g ac bc:Nat):StateT SortSt Sem (ForInStep ly):=do
 modify λv=>IK v g
 let z<-elem' y j
 let some k<-Qq false z x i (x.size-i) 0|pure (.done (some (dn x y o i j),o,i,j,g,ac,bc))
 if k > 0 then
   if (i+k+1==x.size)=true then pure (.done (some (ls x y (o++x.extract i (i+k)) (i+k) j),o++x.extract i (i+k),i+k,j,g,k,bc))
   else if (i+k==x.size)=true then pure (.done (some (dn x y (o++x.extract i (i+k)) (i+k) j),o++x.extract i (i+k),i+k,j,g,k,bc))
   else GM x y (o++x.extract i (i+k)) (i+k) j g k bc
 else GM x y o i j g k bc
noncomputable def IN(t:ly):StateT SortSt Sem (ForInStep ly) :=
 if t.2.2.2.2.1 > 1 then HM x y t.2.1 t.2.2.1 t.2.2.2.1 (t.2.2.2.2.1-1) t.2.2.2.2.2.1 t.2.2.2.2.2.2
 else HM x y t.2.1 t.2.2.1 t.2.2.2.1 t.2.2.2.2.1 t.2.2.2.2.2.1 t.2.2.2.2.2.2
noncomputable def JN(g:Nat)(t:DM):StateT SortSt Sem (ForInStep DM):=do
 let z<-elem' y t.2.2.2.1
 let u<-elem' x t.2.2.1
 let some yw<-lt' z u|pure (.done (some (dn x y t.2.1 t.2.2.1 t.2.2.2.1),t.2.1,t.2.2.1,t.2.2.2.1,t.2.2.2.2.1,t.2.2.2.2.2))
 if yw=true then do
   let z<-elem' y t.2.2.2.1
   if (t.2.2.2.1+1==y.size)=true then pure (.done (some (dn x y (t.2.1.push z) t.2.2.1 (t.2.2.2.1+1)),t.2.1.push z,t.2.2.1,t.2.2.2.1+1,0,t.2.2.2.2.2+1))
   else if t.2.2.2.2.2+1 ≥ g then pure (.done (none,t.2.1.push z,t.2.2.1,t.2.2.2.1+1,0,t.2.2.2.2.2+1))
   else pure (.yield (none,t.2.1.push z,t.2.2.1,t.2.2.2.1+1,0,t.2.2.2.2.2+1))
 else do
   let z<-elem' x t.2.2.1
   if (t.2.2.1+1+1==x.size)=true then pure (.done (some (ls x y (t.2.1.push z) (t.2.2.1+1) t.2.2.2.1),t.2.1.push z,t.2.2.1+1,t.2.2.2.1,t.2.2.2.2.1+1,0))
   else if t.2.2.2.2.1+1 ≥ g then pure (.done (none,t.2.1.push z,t.2.2.1+1,t.2.2.2.1,t.2.2.2.2.1+1,0))
   else pure (.yield (none,t.2.1.push z,t.2.2.1+1,t.2.2.2.1,t.2.2.2.2.1+1,0))
noncomputable def IM(t:EM):StateT SortSt Sem (ForInStep EM):=do
 let v<-forIn [:x.size+y.size] ((none,t.2.1,t.2.2.1,t.2.2.2.1,0,0):DM) λ_ v=>JN x y t.2.2.2.2 v
 match v.1 with
 |some r=>pure (.done (some r,v.2.1,v.2.2.1,v.2.2.2.1,t.2.2.2.2))
 |none=>do
  liftM (rule "list.sort.gallop")
  let u<-forIn [:x.size+y.size] ((none,v.2.1,v.2.2.1,v.2.2.2.1,t.2.2.2.2+1,v.2.2.2.2.1,v.2.2.2.2.2):ly) λ_ u=>IN x y u
  match u.1 with
  |some r=>pure (.done (some r,u.2.1,u.2.2.1,u.2.2.2.1,u.2.2.2.2.1))
  |none=>do
   modify λz=>IK z (u.2.2.2.2.1+1)
   pure (.yield (none,u.2.1,u.2.2.1,u.2.2.2.1,u.2.2.2.2.1+1))
end
theorem my(x y:Array Keyed):BM x y=(do
    rule "list.sort.merge-lo"
    let tt:=x.size+y.size
    let dn (o:Array Keyed) (i j:Nat):=o++x.extract i x.size++y.extract j y.size
    let ls (o:Array Keyed) (i j:Nat):=o++y.extract j y.size++x.extract i x.size
    let mut o:Array Keyed:=#[<-elem' y 0]
    let mut i:=0
    let mut j:=1
    if j==y.size then return dn o i j
    if i+1==x.size then return ls o i j
    let mut g:=gallopOf (<-get)
    for _ in [0:tt] do
      let mut ac:=0
      let mut bc:=0
      for _ in [0:tt] do
        let some yw<-lt' (<-elem' y j) (<-elem' x i)|return dn o i j
        if yw then
          o:=o.push (<-elem' y j);j:=j+1;bc:=bc+1;ac:=0
          if j==y.size then return dn o i j
          if bc ≥ g then break
        else
          o:=o.push (<-elem' x i);i:=i+1;ac:=ac+1;bc:=0
          if i+1==x.size then return ls o i j
          if ac ≥ g then break
      rule "list.sort.gallop"
      g:=g+1
      for _ in [0:tt] do
        if g > 1 then g:=g-1
        modify (IK · g)
        let some k<-Qq false (<-elem' y j) x i (x.size-i) 0|return dn o i j
        ac:=k
        if k > 0 then
          o:=o++x.extract i (i+k);i:=i+k
          if i+1==x.size then return ls o i j
          if i==x.size then return dn o i j
        o:=o.push (<-elem' y j);j:=j+1
        if j==y.size then return dn o i j
        let some k<-Qq true (<-elem' x i) y j (y.size-j) 0|return dn o i j
        bc:=k
        if k > 0 then
          o:=o++y.extract j (j+k);j:=j+k
          if j==y.size then return dn o i j
        o:=o.push (<-elem' x i);i:=i+1
        if i+1==x.size then return ls o i j
        if ac<7&&bc<7 then break
      g:=g+1
      modify (IK · g)
    unsupported "internal:list.sort.merge-bound"):=rfl
theorem LC(x y:Array Keyed):BM x y=(do
    liftM (rule "list.sort.merge-lo")
    let z<-elem' y 0
    if (1==y.size)=true then pure (dn x y #[z] 0 1)
    else if (0+1==x.size)=true then pure (ls x y #[z] 0 1)
    else do
      let s<-get
      let v<-forIn [:x.size+y.size] ((none,#[z],0,1,gallopOf s):EM) λ_ v=>IM x y v
      match v.1 with
      |some r=>pure r
      |none=>unsupported "internal:list.sort.merge-bound"):=by
 rw[my];dsimp only;refine congrArg (bind _) (funext λ_=>?_);refine congrArg (bind _) (funext λz=>?_);refine congr (congrArg _ rfl) ?_;refine congr (congrArg _ rfl) ?_;refine congrArg (bind _) (funext λs=>?_);refine congr (congrArg bind ?A) (funext λv=>by obtain⟨r,v⟩:=v;cases r<;>rfl);refine congrArg _ (funext λ_=>funext λv=>?_);unfold IM;refine congr (congrArg bind rfl) (funext λv=>?_);obtain⟨r,v⟩:=v;cases r with
 |some r=>rfl
 |none=>refine congrArg (bind _) (funext λ_=>?_);refine congr (congrArg bind ?A2) (funext λv=>by obtain⟨r,v⟩:=v;cases r<;>rfl);rfl
section
variable {x y o:Array α}{i j k:Nat}
def SY:(x.extract i x.size).toList=x.toList.drop i:=by rw[A4,u3,Q6 (by simp)]
def Gu:(x.extract i (i+k)).toList=(x.toList.drop i).take k:=by rw[A4,u3,L5]
def MX(h:v∈x.toList.drop i):∃(n:Nat) (hn:n<x.size),i<=n/\v=x[n]:=by obtain⟨n,hn,e⟩:=K3 h;rw[j6,P0]at hn;refine ⟨i+n,by lia,by lia,?_⟩;rw[<-e,List.getElem_drop,E3]
def lK(h:v∈(x.toList.drop i).take k):∃(n:Nat) (hn:n<x.size),i<=n/\n<i+k/\v=x[n]:=by obtain⟨n,hn,e⟩:=K3 h;rw[P4,j6,P0]at hn;refine ⟨i+n,by lia,by lia,by lia,?_⟩;rw[<-e,List.getElem_take,List.getElem_drop,E3]
end
def oy(x y o:Array Keyed)(i j:Nat):(dn x y o i j).toList=o.toList++x.toList.drop i++y.toList.drop j:=by unfold dn;rw[G2,G2,SY,SY]
def qy(x y o:Array Keyed)(i j:Nat):(ls x y o i j).toList=o.toList++y.toList.drop j++x.toList.drop i:=by unfold ls;rw[G2,G2,SY,SY]
section
variable {w:World}{κ:SortKind}{rk:Keyed->Nat}{S:Keyed->Prop}{x y:Array Keyed}
abbrev ZW(rk:Keyed->Nat):Keyed->Keyed->Prop:=λa b=>rk a<=rk b
structure Hy(rk:Keyed->Nat)(S:Keyed->Prop)(x y:Array Keyed):Prop where
 hx:x.toList.Pairwise (ZW rk)
 hy:y.toList.Pairwise (ZW rk)
 Sx:∀i (h:i<x.size),S x[i]
 Sy:∀i (h:i<y.size),S y[i]
 x0:0<x.size
 y0:0<y.size
 hl:∀i (h:i<y.size),rk y[i]<=rk x[x.size-1]
 hf:∀i (h:i<x.size),rk y[0]<=rk x[i]
def hZ(h:x.toList.Pairwise (ZW rk)){i j:Nat}(hj:j<x.size)(hij:i<=j):rk (x[i]'(by lia))<=rk x[j]:=by
 rcases g6 i j with h1|h1
 .have:=Q3.mp h i j (by simpa using (by lia:i<x.size)) (by simpa using hj) h1;simpa using this
 .have:i=j:=by lia
  subst this;exact M0 _
def Po(rk:Keyed->Nat)(x y r:Array Keyed):Prop:=r.toList.Perm (x.toList++y.toList)/\r.toList.Pairwise (ZW rk)
def oH(H:Hy rk S x y){o:Array Keyed}{i j:Nat}(m:Mg (ZW rk) x.toList y.toList o.toList i j)(h:y.size<=j\/x.size<=i):Po rk x y (dn x y o i j):=by unfold Po;rw[oy];refine m.fin H.hx H.hy λv hv u hu=>?_;obtain⟨n,hn,n1,_⟩:=MX hv;obtain⟨k,hk,k1,_⟩:=MX hu;lia
def ZF(H:Hy rk S x y){o:Array Keyed}{i j:Nat}(m:Mg (ZW rk) x.toList y.toList o.toList i j)(h:i+1=x.size):Po rk x y (ls x y o i j):=by
 unfold Po;rw[qy];refine m.finC H.hx H.hy λv hv u hu=>?_;obtain⟨n,hn,n1,rfl⟩:=MX hv;obtain⟨k,hk,k1,rfl⟩:=MX hu;have:k=x.size-1:=by lia
 subst this;exact H.hl n hn
def DV(o:Array α)(z:α):(o.push z).toList=o.toList++[z]:=M6
structure J(rk:Keyed->Nat)(x y:Array Keyed)(N:Nat)(o:Array Keyed)(i j:Nat):Prop where
 m:Mg (ZW rk) x.toList y.toList o.toList i j
 hi:i+1<x.size
 hj:j<y.size
 hN:N<=i+j
def J.pushX(H:Hy rk S x y){N:Nat}{o:Array Keyed}{i j:Nat}(m:Mg (ZW rk) x.toList y.toList o.toList i j)(hi:i<x.size)(h:∀n (hn:n<y.size),j<=n->rk x[i]<=rk y[n]):Mg (ZW rk) x.toList y.toList (o.push x[i]).toList (i+1) j:=by
 rw[DV];have:=m.oneA H.hx (by simpa using hi) λv hv=>by obtain⟨n,hn,n1,rfl⟩:=MX hv;simpa using h n hn n1
 simpa using this
def J.pushY(H:Hy rk S x y){N:Nat}{o:Array Keyed}{i j:Nat}(m:Mg (ZW rk) x.toList y.toList o.toList i j)(hj:j<y.size)(h:∀n (hn:n<x.size),i<=n->rk y[j]<=rk x[n]):Mg (ZW rk) x.toList y.toList (o.push y[j]).toList i (j+1):=by
 rw[DV];have:=m.comm.oneA H.hy (by simpa using hj) λv hv=>by obtain⟨n,hn,n1,rfl⟩:=MX hv;simpa using h n hn n1
 have:=this.comm;simpa using this
def RT(rk:Keyed->Nat)(x y:Array Keyed)(N:Nat)(c:ly):Prop:=(∃t,c.1=some t/\Po rk x y t)\/(c.1=none/\J rk x y N c.2.1 c.2.2.1 c.2.2.2.1)
def Gs(z z':SortSt):Prop:=∃g,z'=IK z g
def Gs.refl(z:SortSt):Gs z z:=⟨gallopOf z,rfl⟩
def Gs.set{z:SortSt}(h:Gs z z')(g:Nat):Gs z (IK z' g):=by obtain⟨_,rfl⟩:=h;exact ⟨g,rfl⟩
def Gs.kind{z:SortSt}(h:Gs z z'):kindOf z'=kindOf z:=by obtain⟨_,rfl⟩:=h;rfl
def JM(rk:Keyed->Nat)(x y:Array Keyed)(N:Nat)(st:SortSt)(r:ForInStep ly)(st':SortSt):Prop :=
 Gs st st'/\match r with
  | .done c=>RT rk x y N c
  | .yield c=>c.1=none/\J rk x y N c.2.1 c.2.2.1 c.2.2.2.1
def Hu(H:Hy rk S x y){N:Nat}{o:Array Keyed}{i j g ac bc:Nat}{st st':SortSt}(hg:Gs st st')(m:Mg (ZW rk) x.toList y.toList o.toList i j)(hi:i+1<x.size)(hj:j<y.size)(hN:N<=i+j+1)
  (h:∀n (hn:n<y.size),j<=n->rk (x[i]'(by lia))<=rk y[n]):wpS (model prog w) A E s (FM x y o i j g ac bc) (JM rk x y N st) st':=by
 unfold FM;have m':=J.pushX H (N:=N) m (by lia) h;refine wpS_bind (VQ (by lia) ?_);by_cases h1:i+1+1=x.size
 .rw[if_pos (by simpa using h1)];exact wpS_pure ⟨hg,.inl ⟨_,rfl,ZF H m' h1⟩⟩
 .rw[if_neg (by simpa using h1)];have jj:J rk x y N (o.push (x[i]'(by lia))) (i+1) j:=⟨m',by lia,hj,by lia⟩;by_cases h2:(decide (ac<7)&&decide (bc<7))=true
  .rw[if_pos h2];exact wpS_pure ⟨hg,.inr ⟨rfl,jj⟩⟩
  .rw[if_neg h2];exact wpS_pure ⟨hg,rfl,jj⟩
def Iu(q:lZ prog w A s κ rk S)(H:Hy rk S x y){N:Nat}{o:Array Keyed}{i j g ac bc:Nat}{st st':SortSt}(hk:kindOf st=κ)(hg:Gs st st')(m:Mg (ZW rk) x.toList y.toList o.toList i j)(hi:i+1<x.size)(hj:j<y.size)(hN:N<=i+j+1)
  (h:∀n (hn:n<x.size),i<=n->rk (y[j]'(by lia))<=rk x[n]):wpS (model prog w) A E s (GM x y o i j g ac bc) (JM rk x y N st) st':=by
 unfold GM;have m':=J.pushY H (N:=N) m hj h;refine wpS_bind (VQ hj ?_);by_cases h1:j+1=y.size
 .rw[if_pos (by simpa using h1)];exact wpS_pure ⟨hg,.inl ⟨_,rfl,oH H m' (.inl (by lia))⟩⟩
 .rw[if_neg (by simpa using h1)];refine wpS_bind (VQ (by lia) ?_);refine wpS_bind (NZ q (hg.kind.trans hk) (H.Sx _ _) H.Sy (by lia) (λa b hb hab _ _=>hZ H.hy hb hab) (by lia) λk kn k1 k2=>?_);dsimp only;by_cases hk0:k > 0
  .rw[if_pos hk0];have m2:Mg (ZW rk) x.toList y.toList (o.push (y[j]'hj)++y.extract (j+1) (j+1+k)).toList i (j+1+k):=by
    rw[G2,Gu];refine (m'.comm.takeA H.hy k λv hv u hu=>?_).comm;obtain⟨n,hn,n1,n2,rfl⟩:=lK hv;obtain⟨p,hp,p1,rfl⟩:=MX hu;have:=k1 n hn n1 n2;rw[if_pos rfl]at this;have:=hZ H.hx hp p1;show rk _<=rk _;lia
   by_cases h2:j+1+k=y.size
   .rw[if_pos (by simpa using h2)];exact wpS_pure ⟨hg,.inl ⟨_,rfl,oH H m2 (.inl (by lia))⟩⟩
   .rw[if_neg (by simpa using h2)];refine Hu H hg m2 hi (by lia) (by lia) λn hn n1=>?_;have:=k2 n hn (by lia) (by lia);rw[if_pos rfl]at this;exact this
  .rw[if_neg hk0];refine Hu H hg m' hi (by lia) (by lia) λn hn n1=>?_;have:=k2 n hn (by lia) (by lia);rw[if_pos rfl]at this;exact this
def Ju(q:lZ prog w A s κ rk S)(H:Hy rk S x y){N:Nat}{o:Array Keyed}{i j g ac bc:Nat}{st st':SortSt}(hk:kindOf st=κ)(hg:Gs st st')(m:Mg (ZW rk) x.toList y.toList o.toList i j)(hi:i+1<x.size)(hj:j<y.size)(hN:N<=i+j+1):wpS (model prog w) A E s (HM x y o i j g ac bc) (JM rk x y N st) st':=by
 unfold HM;refine wpS_bind (wpS_modify ?_);have hg':=hg.set g;refine wpS_bind (VQ hj ?_);refine wpS_bind (NZ q (hg'.kind.trans hk) (H.Sy _ _) H.Sx (by lia) (λa b hb hab _ _=>hZ H.hx hb hab) (by lia) λk kn k1 k2=>?_);dsimp only;by_cases hk0:k > 0
 .rw[if_pos hk0];have m2:Mg (ZW rk) x.toList y.toList (o++x.extract i (i+k)).toList (i+k) j:=by
   rw[G2,Gu];refine m.takeA H.hx k λv hv u hu=>?_;obtain⟨n,hn,n1,n2,rfl⟩:=lK hv;obtain⟨p,hp,p1,rfl⟩:=MX hu;have:=k1 n hn n1 n2;rw[if_neg (by decide)]at this;have:=hZ H.hy hp p1;show rk _<=rk _;lia
  by_cases h2:i+k+1=x.size
  .rw[if_pos (by simpa using h2)];exact wpS_pure ⟨hg',.inl ⟨_,rfl,ZF H m2 h2⟩⟩
  .rw[if_neg (by simpa using h2)];by_cases h3:i+k=x.size
   .rw[if_pos (by simpa using h3)];exact wpS_pure ⟨hg',.inl ⟨_,rfl,oH H m2 (.inr (by lia))⟩⟩
   .rw[if_neg (by simpa using h3)];refine Iu q H hk hg' m2 (by lia) hj (by lia) λn hn n1=>?_;have:=k2 n hn (by lia) (by lia);rw[if_neg (by decide)]at this;lia
 .rw[if_neg hk0];refine Iu q H hk hg' m hi hj (by lia) λn hn n1=>?_;have:=k2 n hn (by lia) (by lia);rw[if_neg (by decide)]at this;lia
def zL(q:lZ prog w A s κ rk S)(H:Hy rk S x y){N:Nat}{c:ly}{st st':SortSt}(hk:kindOf st=κ)(hg:Gs st st')(hJ:J rk x y N c.2.1 c.2.2.1 c.2.2.2.1):wpS (model prog w) A E s (IN x y c) (JM rk x y (N+1) st) st':=by
 unfold IN;have:=hJ.hN;split
 .exact Ju q H hk hg hJ.m hJ.hi hJ.hj (by lia)
 .exact Ju q H hk hg hJ.m hJ.hi hJ.hj (by lia)
theorem AL(q:lZ prog w A s κ rk S)(H:Hy rk S x y){N g:Nat}{c:DM}{st:SortSt}(hk:kindOf st=κ)(hJ:J rk x y N c.2.1 c.2.2.1 c.2.2.2.1) :
  wpS (model prog w) A E s (JN x y g c) (λr st'=>st'=st/\match r with
    | .done c=>(∃t,c.1=some t/\Po rk x y t)\/(c.1=none/\J rk x y (N+1) c.2.1 c.2.2.1 c.2.2.2.1)
    | .yield c=>c.1=none/\J rk x y (N+1) c.2.1 c.2.2.1 c.2.2.2.1) st:=by
 unfold JN;obtain⟨m,hi,hj,hN⟩:=hJ;refine wpS_bind (VQ hj ?_);refine wpS_bind (VQ (by lia) ?_);refine wpS_bind (w_lt q hk (H.Sy _ _) (H.Sx _ _) ?_);dsimp only;by_cases hlt:rk (y[c.2.2.2.1]'hj)<rk (x[c.2.2.1]'(by lia))
 .rw[if_pos (by simpa using hlt)];have m':=J.pushY H (N:=N) m hj λn hn n1=>by have:=hZ H.hx hn n1;lia
  refine wpS_bind (VQ hj ?_);by_cases h1:c.2.2.2.1+1=y.size
  .rw[if_pos (by simpa using h1)];exact wpS_pure ⟨rfl,.inl ⟨_,rfl,oH H m' (.inl (by lia))⟩⟩
  .rw[if_neg (by simpa using h1)];have jj:J rk x y (N+1) (c.2.1.push (y[c.2.2.2.1]'hj)) c.2.2.1 (c.2.2.2.1+1):=⟨m',hi,by lia,by lia⟩;split
   .exact wpS_pure ⟨rfl,.inr ⟨rfl,jj⟩⟩
   .exact wpS_pure ⟨rfl,rfl,jj⟩
 .rw[if_neg (by simpa using hlt)];have m':=J.pushX H (N:=N) m (by lia) λn hn n1=>by have:=hZ H.hy hn n1;lia
  refine wpS_bind (VQ (by lia) ?_);by_cases h1:c.2.2.1+1+1=x.size
  .rw[if_pos (by simpa using h1)];exact wpS_pure ⟨rfl,.inl ⟨_,rfl,ZF H m' h1⟩⟩
  .rw[if_neg (by simpa using h1)];have jj:J rk x y (N+1) (c.2.1.push (x[c.2.2.1]'(by lia))) (c.2.2.1+1) c.2.2.2.1:=⟨m',by lia,hj,by lia⟩;split
   .exact wpS_pure ⟨rfl,.inr ⟨rfl,jj⟩⟩
   .exact wpS_pure ⟨rfl,rfl,jj⟩
theorem BL(q:lZ prog w A s κ rk S)(H:Hy rk S x y){N:Nat}{c:EM}{st st':SortSt}(hk:kindOf st=κ)(hg:Gs st st')(hJ:J rk x y N c.2.1 c.2.2.1 c.2.2.2.1) :
  wpS (model prog w) A E s (IM x y c) (λr st'=>Gs st st'/\match r with
    | .done c=>∃t,c.1=some t/\Po rk x y t
    | .yield c=>c.1=none/\J rk x y (N+1) c.2.1 c.2.2.1 c.2.2.2.1) st':=by
 unfold IM;refine wpS_bind (wpS_mono (wpS_forRange (I:=λn c st''=>st''=st'/\c.1=none/\J rk x y (N+n) c.2.1 c.2.2.1 c.2.2.2.1)
   (Q:=λc st''=>st''=st'/\((∃t,c.1=some t/\Po rk x y t)\/(c.1=none/\J rk x y N c.2.1 c.2.2.1 c.2.2.2.1))) ?step ?fin ⟨rfl,rfl,hJ⟩) ?post)
 case fin=>rintro c st'' ⟨rfl,_,h⟩;have h1:=h.hi;have h2:=h.hj;have h3:=h.hN;lia
 case step =>
  rintro n c st'' _ _ ⟨rfl,_,h⟩;refine wpS_mono (AL q H (hg.kind.trans hk) h) ?_;rintro r st3 ⟨rfl,h⟩;cases r with
  |done c=>refine ⟨rfl,h.imp id λh=>⟨h.1,h.2.m,h.2.hi,h.2.hj,?_⟩⟩;have:=h.2.hN;lia
  |yield c=>exact ⟨rfl,h.1,h.2⟩
 case post =>
  rintro c st'' ⟨rfl,h⟩;obtain⟨r,c⟩:=c;rcases h with⟨t,e,h⟩|⟨e,h⟩
  .cases e;exact wpS_pure ⟨hg,_,rfl,h⟩
  .cases e;dsimp only;refine wpS_bind (wpS_lift (wpAny_rule ⟨rfl,?_⟩));refine wpS_bind (wpS_mono (wpS_forRange (I:=λn c st''=>Gs st st''/\c.1=none/\J rk x y (N+n) c.2.1 c.2.2.1 c.2.2.2.1)
     (Q:=λc st''=>Gs st st''/\RT rk x y (N+1) c) ?step2 ?fin2 ⟨hg,rfl,h⟩) ?post2)
   case fin2=>rintro c st'' ⟨_,_,h⟩;have h1:=h.hi;have h2:=h.hj;have h3:=h.hN;lia
   case step2 =>
    rintro n c st'' _ _ ⟨hg2,_,h⟩;refine wpS_mono (zL q H hk hg2 h) ?_;rintro r st3 ⟨hg3,h⟩;cases r with
    |done c=>refine ⟨hg3,Or.imp id (λh=>⟨h.1,h.2.m,h.2.hi,h.2.hj,?_⟩) h⟩;have:=h.2.hN;lia
    |yield c=>exact ⟨hg3,h.1,h.2⟩
   case post2 =>
    rintro c st'' ⟨hg2,h⟩;obtain⟨r,c⟩:=c;rcases h with⟨t,e,h⟩|⟨e,h⟩
    .cases e;exact wpS_pure ⟨hg2,_,rfl,h⟩
    .cases e;exact wpS_bind (wpS_modify (wpS_pure ⟨hg2.set _,rfl,h⟩))
def CL(q:lZ prog w A s κ rk S)(H:Hy rk S x y){st:SortSt}{Q:Array Keyed->SortSt->Prop}(hk:kindOf st=κ)(h:∀r st',Gs st st'->Po rk x y r->Q r st'):wpS (model prog w) A E s (BM x y) Q st:=by
 rw[LC];refine wpS_bind (wpS_lift (wpAny_rule ⟨rfl,?_⟩));refine wpS_bind (VQ H.y0 ?_);have m0:Mg (ZW rk) x.toList y.toList (#[]:Array Keyed).toList 0 0:=⟨by simp,by simp,by simp,by simp⟩;have m1:=J.pushY H (N:=0) m0 H.y0 λn hn _=>H.hf n hn;have e1:(#[]:Array Keyed).push (y[0]'H.y0)=#[y[0]'H.y0]:=rfl;rw[e1]at m1;have hy0:=H.y0;have hx0:=H.x0;by_cases h1:1=y.size
 .rw[if_pos (by simpa using h1)];exact wpS_pure (h _ _ (Gs.refl _) (oH H m1 (.inl (by lia))))
 .rw[if_neg (by simpa using h1)];by_cases h2:0+1=x.size
  .rw[if_pos (by simpa using h2)];exact wpS_pure (h _ _ (Gs.refl _) (ZF H m1 h2))
  .rw[if_neg (by simpa using h2)];refine wpS_bind (wpS_get ?_);refine wpS_bind (wpS_mono (wpS_forRange (I:=λn c st''=>Gs st st''/\c.1=none/\J rk x y n c.2.1 c.2.2.1 c.2.2.2.1)
     (Q:=λc st''=>Gs st st''/\∃t,c.1=some t/\Po rk x y t) ?step ?fin ⟨Gs.refl _,rfl,m1,by show 0+1<x.size;lia,by show 1<y.size;lia,by lia⟩) ?post)
   case fin=>rintro c st'' ⟨_,_,h⟩;have h1:=h.hi;have h2:=h.hj;have h3:=h.hN;lia
   case step =>
    rintro n c st'' _ _ ⟨hg2,_,h⟩;refine wpS_mono (BL q H hk hg2 h) ?_;rintro r st3 ⟨hg3,h⟩;cases r with
    |done c=>exact ⟨hg3,h⟩
    |yield c=>exact ⟨hg3,h⟩
   case post=>rintro c st'' ⟨hg2,t,e,hP⟩;obtain⟨r,c⟩:=c;cases e;exact wpS_pure (h _ _ hg2 hP)
end
noncomputable abbrev sy:=Option (Array Keyed)×Nat×Nat×Array Keyed×Nat×Nat×Nat
noncomputable abbrev KM:=Option (Array Keyed)×Nat×Nat×Array Keyed×Nat×Nat
noncomputable abbrev LM:=Option (Array Keyed)×Nat×Nat×Array Keyed×Nat
section
variable (x y:Array Keyed)
noncomputable def vw(o:Array Keyed)(i j:Nat):Array Keyed:=x.extract 0 i++y.extract 0 j++o.reverse
noncomputable def XE(o:Array Keyed)(i j:Nat):Array Keyed:=y.extract 0 j++x.extract 0 i++o.reverse
noncomputable def hi2(i j:Nat)(o:Array Keyed)(g ac bc:Nat):StateT SortSt Sem (ForInStep sy):=do
 let z<-elem' x (i-1)
 if (i-1==0)=true then pure (.done (some (vw x y (o.push z) (i-1) j),i-1,j,o.push z,g,ac,bc))
 else if (decide (ac<7)&&decide (bc<7))=true then pure (.done (none,i-1,j,o.push z,g,ac,bc))
 else pure (.yield (none,i-1,j,o.push z,g,ac,bc))
noncomputable def hi1(i j:Nat)(o:Array Keyed)(g ac bc:Nat):StateT SortSt Sem (ForInStep sy):=do
 let z<-elem' y (j-1)
 if (j-1==1)=true then pure (.done (some (XE x y (o.push z) i (j-1)),i,j-1,o.push z,g,ac,bc))
 else do
  let u<-elem' x (i-1)
  let some p<-Qq true u y 0 (j-1) (j-1-1)|pure (.done (some (vw x y (o.push z) i (j-1)),i,j-1,o.push z,g,ac,bc))
  if j-1-p > 0 then
   if (p==1)=true then pure (.done (some (XE x y (o.push z++(y.extract p (j-1)).reverse) i p),i,p,o.push z++(y.extract p (j-1)).reverse,g,ac,j-1-p))
   else if (p==0)=true then pure (.done (some (vw x y (o.push z++(y.extract p (j-1)).reverse) i p),i,p,o.push z++(y.extract p (j-1)).reverse,g,ac,j-1-p))
   else hi2 x y i p (o.push z++(y.extract p (j-1)).reverse) g ac (j-1-p)
  else hi2 x y i (j-1) (o.push z) g ac (j-1-p)
noncomputable def MM(i j:Nat)(o:Array Keyed)(g ac bc:Nat):StateT SortSt Sem (ForInStep sy):=do
 modify λv=>IK v g
 let z<-elem' y (j-1)
 let some p<-Qq false z x 0 i (i-1)|pure (.done (some (vw x y o i j),i,j,o,g,ac,bc))
 if i-p > 0 then
   if (p==0)=true then pure (.done (some (vw x y (o++(x.extract p i).reverse) p j),p,j,o++(x.extract p i).reverse,g,i-p,bc))
   else hi1 x y p j (o++(x.extract p i).reverse) g (i-p) bc
 else hi1 x y i j o g (i-p) bc
noncomputable def KN(t:sy):StateT SortSt Sem (ForInStep sy) :=
 if t.2.2.2.2.1 > 1 then MM x y t.2.1 t.2.2.1 t.2.2.2.1 (t.2.2.2.2.1-1) t.2.2.2.2.2.1 t.2.2.2.2.2.2
 else MM x y t.2.1 t.2.2.1 t.2.2.2.1 t.2.2.2.2.1 t.2.2.2.2.2.1 t.2.2.2.2.2.2
noncomputable def LN(g:Nat)(t:KM):StateT SortSt Sem (ForInStep KM):=do
 let z<-elem' y (t.2.2.1-1)
 let u<-elem' x (t.2.1-1)
 let some xw<-lt' z u|pure (.done (some (vw x y t.2.2.2.1 t.2.1 t.2.2.1),t.2.1,t.2.2.1,t.2.2.2.1,t.2.2.2.2.1,t.2.2.2.2.2))
 if xw=true then do
   let z<-elem' x (t.2.1-1)
   if (t.2.1-1==0)=true then pure (.done (some (vw x y (t.2.2.2.1.push z) (t.2.1-1) t.2.2.1),t.2.1-1,t.2.2.1,t.2.2.2.1.push z,t.2.2.2.2.1+1,0))
   else if t.2.2.2.2.1+1 ≥ g then pure (.done (none,t.2.1-1,t.2.2.1,t.2.2.2.1.push z,t.2.2.2.2.1+1,0))
   else pure (.yield (none,t.2.1-1,t.2.2.1,t.2.2.2.1.push z,t.2.2.2.2.1+1,0))
 else do
   let z<-elem' y (t.2.2.1-1)
   if (t.2.2.1-1==1)=true then pure (.done (some (XE x y (t.2.2.2.1.push z) t.2.1 (t.2.2.1-1)),t.2.1,t.2.2.1-1,t.2.2.2.1.push z,0,t.2.2.2.2.2+1))
   else if t.2.2.2.2.2+1 ≥ g then pure (.done (none,t.2.1,t.2.2.1-1,t.2.2.2.1.push z,0,t.2.2.2.2.2+1))
   else pure (.yield (none,t.2.1,t.2.2.1-1,t.2.2.2.1.push z,0,t.2.2.2.2.2+1))
noncomputable def NM(t:LM):StateT SortSt Sem (ForInStep LM):=do
 let v<-forIn [:x.size+y.size] ((none,t.2.1,t.2.2.1,t.2.2.2.1,0,0):KM) λ_ v=>LN x y t.2.2.2.2 v
 match v.1 with
 |some r=>pure (.done (some r,v.2.1,v.2.2.1,v.2.2.2.1,t.2.2.2.2))
 |none=>do
  liftM (rule "list.sort.gallop")
  let u<-forIn [:x.size+y.size] ((none,v.2.1,v.2.2.1,v.2.2.2.1,t.2.2.2.2+1,v.2.2.2.2.1,v.2.2.2.2.2):sy) λ_ u=>KN x y u
  match u.1 with
  |some r=>pure (.done (some r,u.2.1,u.2.2.1,u.2.2.2.1,u.2.2.2.2.1))
  |none=>do
   modify λz=>IK z (u.2.2.2.2.1+1)
   pure (.yield (none,u.2.1,u.2.2.1,u.2.2.2.1,u.2.2.2.2.1+1))
end
theorem uy(x y:Array Keyed):CM x y=(do
    rule "list.sort.merge-hi"
    let tt:=x.size+y.size
    let dn (o:Array Keyed) (i j:Nat):=x.extract 0 i++y.extract 0 j++o.reverse
    let fs (o:Array Keyed) (i j:Nat):=y.extract 0 j++x.extract 0 i++o.reverse
    let mut i:=x.size-1
    let mut j:=y.size
    let mut o:Array Keyed:=#[<-elem' x i]
    if i==0 then return dn o i j
    if j==1 then return fs o i j
    let mut g:=gallopOf (<-get)
    for _ in [0:tt] do
      let mut ac:=0
      let mut bc:=0
      for _ in [0:tt] do
        let some xw<-lt' (<-elem' y (j-1)) (<-elem' x (i-1))|return dn o i j
        if xw then
          i:=i-1;o:=o.push (<-elem' x i);ac:=ac+1;bc:=0
          if i==0 then return dn o i j
          if ac ≥ g then break
        else
          j:=j-1;o:=o.push (<-elem' y j);bc:=bc+1;ac:=0
          if j==1 then return fs o i j
          if bc ≥ g then break
      rule "list.sort.gallop"
      g:=g+1
      for _ in [0:tt] do
        if g > 1 then g:=g-1
        modify (IK · g)
        let some p<-Qq false (<-elem' y (j-1)) x 0 i (i-1)|return dn o i j
        let k:=i-p
        ac:=k
        if k > 0 then
          o:=o++(x.extract p i).reverse;i:=p
          if i==0 then return dn o i j
        j:=j-1;o:=o.push (<-elem' y j)
        if j==1 then return fs o i j
        let some p<-Qq true (<-elem' x (i-1)) y 0 j (j-1)|return dn o i j
        let k:=j-p
        bc:=k
        if k > 0 then
          o:=o++(y.extract p j).reverse;j:=p
          if j==1 then return fs o i j
          if j==0 then return dn o i j
        i:=i-1;o:=o.push (<-elem' x i)
        if i==0 then return dn o i j
        if ac<7&&bc<7 then break
      g:=g+1
      modify (IK · g)
    unsupported "internal:list.sort.merge-bound"):=rfl
theorem MC(x y:Array Keyed):CM x y=(do
    liftM (rule "list.sort.merge-hi")
    let z<-elem' x (x.size-1)
    if (x.size-1==0)=true then pure (vw x y #[z] (x.size-1) y.size)
    else if (y.size==1)=true then pure (XE x y #[z] (x.size-1) y.size)
    else do
      let s<-get
      let v<-forIn [:x.size+y.size] ((none,x.size-1,y.size,#[z],gallopOf s):LM) λ_ v=>NM x y v
      match v.1 with
      |some r=>pure r
      |none=>unsupported "internal:list.sort.merge-bound"):=by
 rw[uy];dsimp only;refine congrArg (bind _) (funext λ_=>?_);refine congrArg (bind _) (funext λz=>?_);refine congr (congrArg _ rfl) ?_;refine congr (congrArg _ rfl) ?_;refine congrArg (bind _) (funext λs=>?_);refine congr (congrArg bind ?A) (funext λv=>by obtain⟨r,v⟩:=v;cases r<;>rfl);refine congrArg _ (funext λ_=>funext λv=>?_);unfold NM;refine congr (congrArg bind rfl) (funext λv=>?_);obtain⟨r,v⟩:=v;cases r with
 |some r=>rfl
 |none=>refine congrArg (bind _) (funext λ_=>?_);refine congr (congrArg bind ?A2) (funext λv=>by obtain⟨r,v⟩:=v;cases r<;>rfl);rfl
section
variable {x:Array α}{i j k:Nat}
def OZ(hi:i<=x.size):x.toList.reverse.drop (x.size-i)=(x.toList.take i).reverse:=by rw[List.drop_reverse,P0,Nat.sub_sub_self hi]
def DJ(hi:i<=x.size)(h:v∈x.toList.reverse.drop (x.size-i)):∃(n:Nat) (hn:n<x.size),n<i/\v=x[n]:=by rw[OZ hi,V7]at h;obtain⟨n,hn,e⟩:=K3 h;rw[P4,P0]at hn;refine ⟨n,by lia,by lia,?_⟩;rw[<-e,List.getElem_take,E3]
def nU(hk:k<=i)(hi:i<=x.size):(x.extract k i).reverse.toList=(x.toList.reverse.drop (x.size-i)).take (i-k):=by rw[Z5,A4,u3,OZ hi,List.take_reverse,P4,P0,Nat.min_eq_left hi,Nat.sub_sub_self hk,List.drop_take]
def aD:(x.extract 0 i).toList=x.toList.take i:=by rw[A4,u3,A8,Nat.sub_zero]
end
section
variable {w:World}{κ:SortKind}{rk:Keyed->Nat}{S:Keyed->Prop}{x y:Array Keyed}
abbrev sO(rk:Keyed->Nat):Keyed->Keyed->Prop:=λa b=>rk b<=rk a
structure MH(rk:Keyed->Nat)(x y:Array Keyed)(o:Array Keyed)(i j:Nat):Prop where
 m:Mg (sO rk) x.toList.reverse y.toList.reverse o.toList (x.size-i) (y.size-j)
 hi:i<=x.size
 hj:j<=y.size
def MH.comm{o:Array Keyed}(h:MH rk x y o i j):MH rk y x o j i:=⟨h.m.comm,h.hj,h.hi⟩
def MH.chunk(hx:x.toList.Pairwise (ZW rk)){o:Array Keyed}{i j p:Nat}(h:MH rk x y o i j)(hp:p<=i)(hk:∀n (hn:n<x.size) k (hk:k<y.size),p<=n->n<i->k<j->rk y[k]<=rk x[n]):MH rk x y (o++(x.extract p i).reverse) p j:=by
 have hi:=h.hi;refine ⟨?_,by lia,h.hj⟩;rw[G2,nU hp hi];have e:x.size-p=x.size-i+(i-p):=by lia
 rw[e];refine h.m.takeA (O4.mpr hx) (i-p) λv hv u hu=>?_;obtain⟨k,hk1,hk2,rfl⟩:=DJ h.hj hu;rw[<-nU hp hi,Z5,V7,A4,u3]at hv;obtain⟨n,hn,n1,n2,rfl⟩:=lK hv;exact hk n hn k hk1 n1 (by lia) hk2
def MH.push(hx:x.toList.Pairwise (ZW rk)){o:Array Keyed}{i j:Nat}(h:MH rk x y o i j)(h0:0<i)(hk:∀k (hk:k<y.size),k<j->rk y[k]<=rk (x[i-1]'(by have:=h.hi;lia))) :
  MH rk x y (o.push (x[i-1]'(by have:=h.hi;lia))) (i-1) j:=by
 have hi:=h.hi;have e:o.push (x[i-1]'(by lia))=o++(x.extract (i-1) i).reverse:=by apply Array.toList_inj.mp;rw[M6,G2,nU (by lia) hi,show i-(i-1)=1 by lia,W1 (by simp;lia)];simp only[List.take_succ_cons,List.take_zero,List.getElem_reverse,E3,P0];congr 3;lia
 rw[e];refine h.chunk hx (by lia) λn hn k hk1 n1 n2 k2=>?_;have:n=i-1:=by lia
 subst this;exact hk k hk1 k2
def bD{o r:List Keyed}(h:(o++a++b).Perm (x.toList.reverse++y.toList.reverse)/\(o++a++b).Pairwise (sO rk))(e:r=(o++a++b).reverse):r.Perm (x.toList++y.toList)/\r.Pairwise (ZW rk):=by subst e;exact ⟨((O7 _).trans h.1).trans ((O7 _).append (O7 _)),O4.mpr h.2⟩
def zW(H:Hy rk S x y){o:Array Keyed}{i j:Nat}(m:MH rk x y o i j)(h:i=0\/j=0):Po rk x y (vw x y o i j):=by
 refine bD (m.m.finC (O4.mpr H.hx) (O4.mpr H.hy) λv hv u hu=>?_) ?_
 .obtain⟨n,hn,n1,_⟩:=DJ m.hj hv;obtain⟨k,hk,k1,_⟩:=DJ m.hi hu;lia
 .unfold vw;rw[G2,G2,aD,aD,OZ m.hi,OZ m.hj,Z5];simp
def oU(H:Hy rk S x y){o:Array Keyed}{i j:Nat}(m:MH rk x y o i j)(h:j=1):Po rk x y (XE x y o i j):=by
 refine bD (m.m.fin (O4.mpr H.hx) (O4.mpr H.hy) λv hv u hu=>?_) ?_
 .obtain⟨n,hn,n1,rfl⟩:=DJ m.hi hv;obtain⟨k,hk,k1,rfl⟩:=DJ m.hj hu;have:k=0:=by lia
  subst this;exact H.hf n hn
 .unfold XE;rw[G2,G2,aD,aD,OZ m.hi,OZ m.hj,Z5];simp
structure JH(rk:Keyed->Nat)(x y:Array Keyed)(N:Nat)(i j:Nat)(o:Array Keyed):Prop where
 m:MH rk x y o i j
 hi:1<=i
 hj:2<=j
 hN:N+i+j<=x.size+y.size
def RH(rk:Keyed->Nat)(x y:Array Keyed)(N:Nat)(c:sy):Prop:=(∃t,c.1=some t/\Po rk x y t)\/(c.1=none/\JH rk x y N c.2.1 c.2.2.1 c.2.2.2.1)
def OM(rk:Keyed->Nat)(x y:Array Keyed)(N:Nat)(st:SortSt)(r:ForInStep sy)(st':SortSt):Prop :=
 Gs st st'/\match r with
  | .done c=>RH rk x y N c
  | .yield c=>c.1=none/\JH rk x y N c.2.1 c.2.2.1 c.2.2.2.1
def Ku(H:Hy rk S x y){N:Nat}{o:Array Keyed}{i j g ac bc:Nat}{st st':SortSt}(hg:Gs st st')(m:MH rk x y o i j)(hi:1<=i)(hj:2<=j)(hN:N+i+j<=x.size+y.size+1)
  (h:∀n (hn:n<y.size),n<j->rk y[n]<=rk (x[i-1]'(by have:=m.hi;lia))):wpS (model prog w) A E s (hi2 x y i j o g ac bc) (OM rk x y N st) st':=by
 unfold hi2;have hi':=m.hi;have m':=m.push H.hx hi h;refine wpS_bind (VQ (by lia) ?_);by_cases h1:i-1=0
 .rw[if_pos (by simpa using h1)];exact wpS_pure ⟨hg,.inl ⟨_,rfl,zW H m' (.inl h1)⟩⟩
 .rw[if_neg (by simpa using h1)];have jj:JH rk x y N (i-1) j (o.push (x[i-1]'(by lia))):=⟨m',by lia,hj,by lia⟩;by_cases h2:(decide (ac<7)&&decide (bc<7))=true
  .rw[if_pos h2];exact wpS_pure ⟨hg,.inr ⟨rfl,jj⟩⟩
  .rw[if_neg h2];exact wpS_pure ⟨hg,rfl,jj⟩
def Lu(q:lZ prog w A s κ rk S)(H:Hy rk S x y){N:Nat}{o:Array Keyed}{i j g ac bc:Nat}{st st':SortSt}(hk:kindOf st=κ)(hg:Gs st st')(m:MH rk x y o i j)(hi:1<=i)(hj:2<=j)(hN:N+i+j<=x.size+y.size+1)
  (h:∀n (hn:n<x.size),n<i->rk x[n]<=rk (y[j-1]'(by have:=m.hj;lia))):wpS (model prog w) A E s (hi1 x y i j o g ac bc) (OM rk x y N st) st':=by
 unfold hi1;have hi':=m.hi;have hj':=m.hj;have m':=(m.comm.push H.hy (by lia) h).comm;refine wpS_bind (VQ (by lia) ?_);by_cases h1:j-1=1
 .rw[if_pos (by simpa using h1)];exact wpS_pure ⟨hg,.inl ⟨_,rfl,oU H m' h1⟩⟩
 .rw[if_neg (by simpa using h1)];refine wpS_bind (VQ (by lia) ?_);refine wpS_bind (NZ q (hg.kind.trans hk) (H.Sx _ _) H.Sy (by lia) (λa b hb hab _ _=>hZ H.hy hb hab) (by lia) λp pn k1 k2=>?_);dsimp only;have k1':∀n (hn:n<y.size),n<p->rk y[n]<rk (x[i-1]'(by lia)):=λn hn hp=>by
   have:=k1 n hn (P3 _) (by lia);rw[if_pos rfl]at this;exact this
  by_cases hk0:j-1-p > 0
  .rw[if_pos hk0];have m2:=(m'.comm.chunk H.hy (p:=p) pn λn hn k hk1 n1 n2 n3=>by
     have:=k2 n hn (by lia) (by lia);rw[if_pos rfl]at this;have:=hZ H.hx (i:=k) (j:=i-1) (by lia) (by lia);lia).comm;by_cases h2:p=1
   .rw[if_pos (by simpa using h2)];exact wpS_pure ⟨hg,.inl ⟨_,rfl,oU H m2 h2⟩⟩
   .rw[if_neg (by simpa using h2)];by_cases h3:p=0
    .rw[if_pos (by simpa using h3)];exact wpS_pure ⟨hg,.inl ⟨_,rfl,zW H m2 (.inr h3)⟩⟩
    .rw[if_neg (by simpa using h3)];exact Ku H hg m2 hi (by lia) (by lia) λn hn n1=>B4 (k1' n hn n1)
  .rw[if_neg hk0];exact Ku H hg m' hi (by lia) (by lia) λn hn n1=>B4 (k1' n hn (by lia))
def Mu(q:lZ prog w A s κ rk S)(H:Hy rk S x y){N:Nat}{o:Array Keyed}{i j g ac bc:Nat}{st st':SortSt}(hk:kindOf st=κ)(hg:Gs st st')(m:MH rk x y o i j)(hi:1<=i)(hj:2<=j)(hN:N+i+j<=x.size+y.size+1):wpS (model prog w) A E s (MM x y i j o g ac bc) (OM rk x y N st) st':=by
 unfold MM;have hi':=m.hi;have hj':=m.hj;refine wpS_bind (wpS_modify ?_);have hg':=hg.set g;refine wpS_bind (VQ (by lia) ?_);refine wpS_bind (NZ q (hg'.kind.trans hk) (H.Sy _ _) H.Sx (by lia) (λa b hb hab _ _=>hZ H.hx hb hab) (by lia) λp pn k1 k2=>?_);dsimp only;have k1':∀n (hn:n<x.size),n<p->rk x[n]<=rk (y[j-1]'(by lia)):=λn hn hp=>by have:=k1 n hn (P3 _) (by lia);rw[if_neg (by decide)]at this;exact this
 by_cases hk0:i-p > 0
 .rw[if_pos hk0];have m2:=m.chunk H.hx (p:=p) pn λn hn k hk1 n1 n2 n3=>by
   have:=k2 n hn (by lia) (by lia);rw[if_neg (by decide)]at this;have:=hZ H.hy (i:=k) (j:=j-1) (by lia) (by lia);lia
  by_cases h3:p=0
  .rw[if_pos (by simpa using h3)];exact wpS_pure ⟨hg',.inl ⟨_,rfl,zW H m2 (.inl h3)⟩⟩
  .rw[if_neg (by simpa using h3)];exact Lu q H hk hg' m2 (by lia) hj (by lia) k1'
 .rw[if_neg hk0];exact Lu q H hk hg' m hi hj (by lia) λn hn n1=>k1' n hn (by lia)
def DL(q:lZ prog w A s κ rk S)(H:Hy rk S x y){N:Nat}{c:sy}{st st':SortSt}(hk:kindOf st=κ)(hg:Gs st st')(hJ:JH rk x y N c.2.1 c.2.2.1 c.2.2.2.1):wpS (model prog w) A E s (KN x y c) (OM rk x y (N+1) st) st':=by
 unfold KN;have:=hJ.hN;split
 .exact Mu q H hk hg hJ.m hJ.hi hJ.hj (by lia)
 .exact Mu q H hk hg hJ.m hJ.hi hJ.hj (by lia)
theorem EL(q:lZ prog w A s κ rk S)(H:Hy rk S x y){N g:Nat}{c:KM}{st:SortSt}(hk:kindOf st=κ)(hJ:JH rk x y N c.2.1 c.2.2.1 c.2.2.2.1) :
  wpS (model prog w) A E s (LN x y g c) (λr st'=>st'=st/\match r with
    | .done c=>(∃t,c.1=some t/\Po rk x y t)\/(c.1=none/\JH rk x y (N+1) c.2.1 c.2.2.1 c.2.2.2.1)
    | .yield c=>c.1=none/\JH rk x y (N+1) c.2.1 c.2.2.1 c.2.2.2.1) st:=by
 unfold LN;obtain⟨m,hi,hj,hN⟩:=hJ;have hi':=m.hi;have hj':=m.hj;refine wpS_bind (VQ (by lia) ?_);refine wpS_bind (VQ (by lia) ?_);refine wpS_bind (w_lt q hk (H.Sy _ _) (H.Sx _ _) ?_);dsimp only;by_cases hlt:rk (y[c.2.2.1-1]'(by lia))<rk (x[c.2.1-1]'(by lia))
 .rw[if_pos (by simpa using hlt)];have m':=m.push H.hx hi λn hn n1=>by have:=hZ H.hy (i:=n) (j:=c.2.2.1-1) (by lia) (by lia);lia
  refine wpS_bind (VQ (by lia) ?_);by_cases h1:c.2.1-1=0
  .rw[if_pos (by simpa using h1)];exact wpS_pure ⟨rfl,.inl ⟨_,rfl,zW H m' (.inl h1)⟩⟩
  .rw[if_neg (by simpa using h1)];have jj:JH rk x y (N+1) (c.2.1-1) c.2.2.1 (c.2.2.2.1.push (x[c.2.1-1]'(by lia))):=⟨m',by lia,hj,by lia⟩;split
   .exact wpS_pure ⟨rfl,.inr ⟨rfl,jj⟩⟩
   .exact wpS_pure ⟨rfl,rfl,jj⟩
 .rw[if_neg (by simpa using hlt)];have m':=(m.comm.push H.hy (by lia) λn hn n1=>by have:=hZ H.hx (i:=n) (j:=c.2.1-1) (by lia) (by lia);lia).comm;refine wpS_bind (VQ (by lia) ?_);by_cases h1:c.2.2.1-1=1
  .rw[if_pos (by simpa using h1)];exact wpS_pure ⟨rfl,.inl ⟨_,rfl,oU H m' h1⟩⟩
  .rw[if_neg (by simpa using h1)];have jj:JH rk x y (N+1) c.2.1 (c.2.2.1-1) (c.2.2.2.1.push (y[c.2.2.1-1]'(by lia))):=⟨m',by lia,by lia,by lia⟩;split
   .exact wpS_pure ⟨rfl,.inr ⟨rfl,jj⟩⟩
   .exact wpS_pure ⟨rfl,rfl,jj⟩
def JH.false{N:Nat}{o:Array Keyed}(h:JH rk x y N i j o)(hN:x.size+y.size<=N):False:=by have h1:=h.hi;have h2:=h.hj;have h3:=h.hN;lia
theorem FL(q:lZ prog w A s κ rk S)(H:Hy rk S x y){N:Nat}{c:LM}{st st':SortSt}(hk:kindOf st=κ)(hg:Gs st st')(hJ:JH rk x y N c.2.1 c.2.2.1 c.2.2.2.1) :
  wpS (model prog w) A E s (NM x y c) (λr st'=>Gs st st'/\match r with
    | .done c=>∃t,c.1=some t/\Po rk x y t
    | .yield c=>c.1=none/\JH rk x y (N+1) c.2.1 c.2.2.1 c.2.2.2.1) st':=by
 unfold NM;refine wpS_bind (wpS_mono (wpS_forRange (I:=λn c st''=>st''=st'/\c.1=none/\JH rk x y (N+n) c.2.1 c.2.2.1 c.2.2.2.1)
   (Q:=λc st''=>st''=st'/\((∃t,c.1=some t/\Po rk x y t)\/(c.1=none/\JH rk x y N c.2.1 c.2.2.1 c.2.2.2.1))) ?step ?fin ⟨rfl,rfl,hJ⟩) ?post)
 case fin=>rintro c st'' ⟨rfl,_,h⟩;exact (h.false (by lia)).elim
 case step =>
  rintro n c st'' _ _ ⟨rfl,_,h⟩;refine wpS_mono (EL q H (hg.kind.trans hk) h) ?_;rintro r st3 ⟨rfl,h⟩;cases r with
  |done c=>refine ⟨rfl,h.imp id λh=>⟨h.1,h.2.m,h.2.hi,h.2.hj,?_⟩⟩;have:=h.2.hN;lia
  |yield c=>exact ⟨rfl,h.1,h.2⟩
 case post =>
  rintro c st'' ⟨rfl,h⟩;obtain⟨r,c⟩:=c;rcases h with⟨t,e,h⟩|⟨e,h⟩
  .cases e;exact wpS_pure ⟨hg,_,rfl,h⟩
  .cases e;dsimp only;refine wpS_bind (wpS_lift (wpAny_rule ⟨rfl,?_⟩));refine wpS_bind (wpS_mono (wpS_forRange (I:=λn c st''=>Gs st st''/\c.1=none/\JH rk x y (N+n) c.2.1 c.2.2.1 c.2.2.2.1)
     (Q:=λc st''=>Gs st st''/\RH rk x y (N+1) c) ?step2 ?fin2 ⟨hg,rfl,h⟩) ?post2)
   case fin2=>rintro c st'' ⟨_,_,h⟩;exact (h.false (by lia)).elim
   case step2 =>
    rintro n c st'' _ _ ⟨hg2,_,h⟩;refine wpS_mono (DL q H hk hg2 h) ?_;rintro r st3 ⟨hg3,h⟩;cases r with
    |done c=>refine ⟨hg3,Or.imp id (λh=>⟨h.1,h.2.m,h.2.hi,h.2.hj,?_⟩) h⟩;have:=h.2.hN;lia
    |yield c=>exact ⟨hg3,h.1,h.2⟩
   case post2 =>
    rintro c st'' ⟨hg2,h⟩;obtain⟨r,c⟩:=c;rcases h with⟨t,e,h⟩|⟨e,h⟩
    .cases e;exact wpS_pure ⟨hg2,_,rfl,h⟩
    .cases e;exact wpS_bind (wpS_modify (wpS_pure ⟨hg2.set _,rfl,h⟩))
def GL(q:lZ prog w A s κ rk S)(H:Hy rk S x y){st:SortSt}{Q:Array Keyed->SortSt->Prop}(hk:kindOf st=κ)(h:∀r st',Gs st st'->Po rk x y r->Q r st'):wpS (model prog w) A E s (CM x y) Q st:=by
 rw[MC];have hy0:=H.y0;have hx0:=H.x0;refine wpS_bind (wpS_lift (wpAny_rule ⟨rfl,?_⟩));refine wpS_bind (VQ (by lia) ?_);have m0:MH rk x y #[] x.size y.size:=⟨⟨by simp,by simp,by simp,by simp⟩,M0 _,M0 _⟩;have m1:=m0.push H.hx hx0 λn hn _=>H.hl n hn;have e1:(#[]:Array Keyed).push (x[x.size-1]'(by lia))=#[x[x.size-1]'(by lia)]:=rfl;rw[e1]at m1;by_cases h1:x.size-1=0
 .rw[if_pos (by simpa using h1)];exact wpS_pure (h _ _ (Gs.refl _) (zW H m1 (.inl h1)))
 .rw[if_neg (by simpa using h1)];by_cases h2:y.size=1
  .rw[if_pos (by simpa using h2)];exact wpS_pure (h _ _ (Gs.refl _) (oU H m1 h2))
  .rw[if_neg (by simpa using h2)];refine wpS_bind (wpS_get ?_);refine wpS_bind (wpS_mono (wpS_forRange (I:=λn c st''=>Gs st st''/\c.1=none/\JH rk x y n c.2.1 c.2.2.1 c.2.2.2.1)
     (Q:=λc st''=>Gs st st''/\∃t,c.1=some t/\Po rk x y t) ?step ?fin ⟨Gs.refl _,rfl,m1,by show 1<=x.size-1;lia,by show 2<=y.size;lia,by show 0+(x.size-1)+y.size<=_;lia⟩) ?post)
   case fin=>rintro c st'' ⟨_,_,h⟩;exact (h.false (by lia)).elim
   case step =>
    rintro n c st'' _ _ ⟨hg2,_,h⟩;refine wpS_mono (FL q H hk hg2 h) ?_;rintro r st3 ⟨hg3,h⟩;cases r with
    |done c=>exact ⟨hg3,h⟩
    |yield c=>exact ⟨hg3,h⟩
   case post=>rintro c st'' ⟨hg2,t,e,hP⟩;obtain⟨r,c⟩:=c;cases e;exact wpS_pure (h _ _ hg2 hP)
end
noncomputable def KR(rk:Keyed->Nat)(xs:Array Keyed)(i:Nat):Nat:=match xs[i]? with
 |some p=>rk p
 |none=>0
def KR_at(h:i<xs.size):KR rk xs i=rk xs[i]:=by unfold KR;rw[getElem?_pos xs i h]
def uX{ys:Array Keyed}(h:xs[i]?=ys[j]?):KR rk xs i=KR rk ys j:=by unfold KR;rw[h]
def qY(hj:j<=xs.size)(k:Nat):KR rk (mirror xs i j ((j-i) / 2)) k=if i<=k/\k<j then KR rk xs (i+j-1-k) else KR rk xs k:=by
 have e:=getElem?_mirror_all (i:=i) hj k;split
 .rename_i h1;rw[if_pos h1]at e;exact uX e
 .rename_i h1;rw[if_neg h1]at e;exact uX e
def EV(hs:c<xs.size)(hd:d<=c)(k:Nat):KR rk (bubble xs c d) k=if k=c-d then KR rk xs c else if c-d<k/\k<=c then KR rk xs (k-1) else KR rk xs k:=by
 have e:=getElem?_bubble hs d hd k;split
 .rename_i h1;rw[if_pos h1]at e;exact uX e
 .rename_i h1;rw[if_neg h1]at e;split
  .rename_i h2;rw[if_pos h2]at e;exact uX e
  .rename_i h2;rw[if_neg h2]at e;exact uX e
def Sg(rk:Keyed->Nat)(xs:Array Keyed)(lo n:Nat):Prop:=∀i j,lo<=i->i<=j->j<lo+n->KR rk xs i<=KR rk xs j
def Dg(rk:Keyed->Nat)(xs:Array Keyed)(lo n:Nat):Prop:=∀i j,lo<=i->i<=j->j<lo+n->KR rk xs j<=KR rk xs i
structure Bs(κ:SortKind)(st:SortSt)(lo n:Nat)(st':SortSt):Prop where
 perm:(arrOf st').Perm (arrOf st)
 kind:kindOf st'=κ
 failed:failedOf st'=none
 pend:pendingOf st'=pendingOf st
 keep:∀i,i<lo\/lo+n<=i->(arrOf st')[i]?=(arrOf st)[i]?
def Bs.size{st:SortSt}{lo:Nat}(h:Bs κ st lo n st'):(arrOf st').size=(arrOf st).size:=h.perm.size_eq
def Bs.mir{st:SortSt}{lo:Nat}(h:Bs κ st lo n st')(hj:j<=(arrOf st).size)(h1:lo<=i)(h2:j<=lo+n):Bs κ st lo n (setArr st' (mirror (arrOf st') i j ((j-i) / 2))) :=
 ⟨(mirror_perm _ _ _ _).trans h.perm,h.kind,h.failed,h.pend,λk hk=>by show (mirror (arrOf st') i j ((j-i) / 2))[k]?=_;rw[getElem?_mirror_all (by rw[h.size];exact hj),if_neg (by lia)];exact h.keep k hk⟩
section
variable {w:World}{κ:SortKind}{rk:Keyed->Nat}{S:Keyed->Prop}{st:SortSt}
abbrev AllS(S:Keyed->Prop)(xs:Array Keyed):Prop:=∀p,p∈xs.toList->S p
def Bs.inS{lo:Nat}(hS:AllS S (arrOf st))(h:Bs κ st lo n st'){i:Nat}(hi:i<(arrOf st').size):S (arrOf st')[i]:=hS _ ((j5.mp h.perm).mem_iff.mp (by simp))
def AW(q:lZ prog w A s κ rk S){st':SortSt}{lo n i j:Nat}{Q:Option Bool->SortSt->Prop}(hS:AllS S (arrOf st))(hB:Bs κ st lo n st')(hi:i<(arrOf st).size)(hj:j<(arrOf st).size)(h:Q (some (decide (KR rk (arrOf st') i<KR rk (arrOf st') j))) st'):wpS (model prog w) A E s (ltAt' i j) Q st':=by
 have hi':i<(arrOf st').size:=by rw[hB.size];exact hi
 have hj':j<(arrOf st').size:=by rw[hB.size];exact hj
 rw[ltAt'_eq];refine wpS_bind (wpS_get ?_);refine wpS_bind (VQ hi' (wpS_bind (VQ hj' ?_)));refine w_lt q hB.kind (hB.inS hS _) (hB.inS hS _) ?_;rw[KR_at hi',KR_at hj']at h;exact h
noncomputable def Rq(lo a nrem:Nat):StateT SortSt Sem AscSt :=
 forIn [a:nrem] ((none,a):AscSt) λ_ z=>do
  let some sm<-ltAt' (lo+z.2) (lo+z.2-1)|pure (.done (some none,z.2))
  if sm=true then pure (.done (none,z.2)) else pure (.yield (none,z.2+1))
noncomputable def YE(lo n nrem:Nat):StateT SortSt Sem (Option Nat):=do
 reverseSlice' lo (lo+n)
 let z<-Rq lo n nrem
 match z.1 with
 |some r=>pure r
 |none=>pure (some z.2)
noncomputable def dD(lo n nrem:Nat):StateT SortSt Sem DescSt :=
 forIn [n:nrem] ((none,n,0):DescSt) λ_ z=>do
  let some sm<-ltAt' (lo+z.2.1) (lo+z.2.1-1)|pure (.done (some none,z.2.1,z.2.2))
  if sm=true then
   if z.2.2 > 0 then do
    reverseSlice' (lo+z.2.1-(z.2.2+1)) (lo+z.2.1)
    pure (.yield (none,z.2.1+1,0))
   else pure (.yield (none,z.2.1+1,0))
  else do
   let some la<-ltAt' (lo+z.2.1-1) (lo+z.2.1)|pure (.done (some none,z.2.1,z.2.2))
   if la=true then pure (.done (none,z.2.1,z.2.2)) else pure (.yield (none,z.2.1+1,z.2.2+1))
noncomputable def HL(lo n nrem:Nat):StateT SortSt Sem (Option Nat):=do
 liftM (rule "list.sort.descending-run")
 let z<-dD lo (n+1) nrem
 match z.1 with
 |some r=>pure r
 |none =>
  if z.2.2 > 0 then do
   reverseSlice' (lo+z.2.1-(z.2.2+1)) (lo+z.2.1)
   YE lo z.2.1 nrem
  else YE lo z.2.1 nrem
theorem NC(lo nrem:Nat):countRun' lo nrem=(do
    let z<-Rq lo 1 nrem
    match z.1 with
    |some r=>pure r
    | none =>
      if (z.2==nrem)=true then pure (some z.2)
      else if z.2 > 1 then do
        let some ro<-ltAt' lo (lo+z.2-1)|pure none
        if ro=true then pure (some z.2) else do
          reverseSlice' lo (lo+z.2)
          HL lo z.2 nrem
      else HL lo z.2 nrem):=by
 have te:∀m,(do
     reverseSlice' lo (lo+m)
     let z<-Rq lo m nrem
     match z.1 with
     |some r=>pure r
     |none=>pure (some z.2))=YE lo m nrem:=λm=>rfl;rw[countRun'_eq];unfold HL YE dD Rq;refine congr (congrArg bind rfl) (funext λz=>?_);obtain⟨r,n⟩:=z;cases r with
 |some r=>rfl
 |none =>
  dsimp only;have tl:∀z:AscSt,(match z.1 with|some r=>pure r|none=>pure (some z.2):StateT SortSt Sem (Option Nat))=match z.1 with|some r=>pure r|none=>pure (some z.2):=λz=>rfl
  split
  .rfl
  .split
   .congr 1;funext x;cases x with
    |none=>rfl
    |some ro =>
     dsimp only;split
     .rfl
     .congr 1;funext _;congr 1;funext _;congr 1;funext z;obtain⟨r,m,q⟩:=z;cases r with
      |some r=>rfl
      |none =>
       dsimp only;split
       .congr 1;funext _;congr 1;funext _;congr 1;funext z;obtain⟨r,k⟩:=z;cases r<;>rfl
       .congr 1;funext _;congr 1;funext z;obtain⟨r,k⟩:=z;cases r<;>rfl
   .congr 1;funext _;congr 1;funext z;obtain⟨r,m,q⟩:=z;cases r with
    |some r=>rfl
    |none =>
     dsimp only;split
     .congr 1;funext _;congr 1;funext _;congr 1;funext z;obtain⟨r,k⟩:=z;cases r<;>rfl
     .congr 1;funext _;congr 1;funext z;obtain⟨r,k⟩:=z;cases r<;>rfl
def eD{Q:Unit->SortSt->Prop}(h:Q () (setArr st' (mirror (arrOf st') i j ((j-i) / 2)))):wpS (model prog w) A E s (reverseSlice' i j) Q st':=by rw[reverseSlice'_eq];exact wpS_modify h
def Nu(q:lZ prog w A s κ rk S){st':SortSt}{lo N a nrem:Nat}{Q:AscSt->SortSt->Prop}(hS:AllS S (arrOf st))(hn:lo+nrem<=(arrOf st).size)(ha:1<=a)(han:a<=nrem)(hB:Bs κ st lo N st')(hs:Sg rk (arrOf st') lo a)(h:∀n,a<=n->n<=nrem->Sg rk (arrOf st') lo n->(n=nrem\/KR rk (arrOf st') (lo+n)<KR rk (arrOf st') (lo+n-1))->Q (none,n) st'):wpS (model prog w) A E s (Rq lo a nrem) Q st':=by
 unfold Rq;refine wpS_forRange (I:=λx c z=>z=st'/\c=(none,x)/\Sg rk (arrOf st') lo x) ?step ?fin ⟨rfl,rfl,hs⟩
 case fin=>rintro c z ⟨rfl,rfl,h1⟩;rw[show max a nrem=nrem by lia]at h1 ⊢;exact h nrem han (M0 _) h1 (.inl rfl)
 case step =>
  rintro x c z hax hxn ⟨rfl,rfl,h1⟩;dsimp only;refine wpS_bind (AW q hS hB (by lia) (by lia) ?_);dsimp only;by_cases hl:KR rk (arrOf z) (lo+x)<KR rk (arrOf z) (lo+x-1)
  .rw[if_pos (by simpa using hl)];exact wpS_pure (h x hax (by lia) h1 (.inr hl))
  .rw[if_neg (by simpa using hl)];refine wpS_pure ⟨rfl,rfl,λi j hi hij hj=>?_⟩;by_cases hjx:j<lo+x
   .exact h1 i j hi hij hjx
   .have:j=lo+x:=by lia
    subst this;by_cases hi':i=lo+x
    .subst hi';exact M0 _
    .have:=h1 i (lo+x-1) hi (by lia) (by lia);lia
def IL(q:lZ prog w A s κ rk S){st':SortSt}{lo n nrem:Nat}{Q:Option Nat->SortSt->Prop}(hS:AllS S (arrOf st))(hn:lo+nrem<=(arrOf st).size)(h1:1<=n)(hnn:n<=nrem)(hB:Bs κ st lo nrem st')(hs:Dg rk (arrOf st') lo n)(h:∀m z,Bs κ st lo nrem z->1<=m->m<=nrem->Sg rk (arrOf z) lo m->Q (some m) z):wpS (model prog w) A E s (YE lo n nrem) Q st':=by
 unfold YE;refine wpS_bind (eD ?_);have hz:lo+n<=(arrOf st').size:=by rw[hB.size];lia
 have hB':=hB.mir (i:=lo) (j:=lo+n) (by lia) (M0 _) (by lia);refine wpS_bind (Nu q hS hn h1 hnn hB' (λi j hi hij hj=>?_) λm m1 m2 hm _=>wpS_pure (h m _ hB' (by lia) m2 hm));show KR rk (mirror _ _ _ _) i<=KR rk (mirror _ _ _ _) j;rw[qY hz,qY hz,if_pos (by lia),if_pos (by lia)];exact hs _ _ (by lia) (by lia) (by lia)
def EJ(hj:j<=xs.size)(he:∀k,i<=k->k<j->KR rk xs k=KR rk xs (j-1))(k:Nat):KR rk (mirror xs i j ((j-i) / 2)) k=KR rk xs k:=by
 rw[qY hj];split
 .rw[he _ (by lia) (by lia),he k (by lia) (by lia)]
 .rfl
def OC(q:lZ prog w A s κ rk S){st':SortSt}{lo n nrem:Nat}{Q:DescSt->SortSt->Prop}(hS:AllS S (arrOf st))(hn:lo+nrem<=(arrOf st).size)(h1:1<=n)(hnn:n<=nrem)(hB:Bs κ st lo nrem st')(hs:Dg rk (arrOf st') lo n)(h:∀m e z,Bs κ st lo nrem z->n<=m->m<=nrem->Dg rk (arrOf z) lo m->e+1<=m->(∀i,lo+m-(e+1)<=i->i<lo+m->KR rk (arrOf z) i=KR rk (arrOf z) (lo+m-1))->Q (none,m,e) z):wpS (model prog w) A E s (dD lo n nrem) Q st':=by
 unfold dD;refine wpS_forRange (I:=λx c z=>∃e,c=(none,x,e)/\Bs κ st lo nrem z/\Dg rk (arrOf z) lo x/\e+1<=x/\∀i,lo+x-(e+1)<=i->i<lo+x->KR rk (arrOf z) i=KR rk (arrOf z) (lo+x-1)) ?step ?fin
  ⟨0,rfl,hB,hs,by lia,λi i1 i2=>by congr 1;lia⟩
 case fin=>rintro c z ⟨e,rfl,b,d,e1,e2⟩;rw[show max n nrem=nrem by lia]at d e1 e2 ⊢;exact h nrem e z b hnn (M0 _) d e1 e2
 case step =>
  rintro x c z hax hxn ⟨e,rfl,b,d,e1,e2⟩;dsimp only;have hz:lo+x<=(arrOf z).size:=by rw[b.size];lia
  refine wpS_bind (AW q hS b (by lia) (by lia) ?_);dsimp only;by_cases hl:KR rk (arrOf z) (lo+x)<KR rk (arrOf z) (lo+x-1)
  .rw[if_pos (by simpa using hl)];have st1:∀xs:Array Keyed,(∀k,KR rk xs k=KR rk (arrOf z) k)->Dg rk xs lo (x+1):=λxs hk i j hi hij hj=>by
    rw[hk,hk];by_cases hjx:j<lo+x
    .exact d i j hi hij hjx
    .have:j=lo+x:=by lia
     subst this;by_cases hi':i=lo+x
     .subst hi';exact M0 _
     .have:=d i (lo+x-1) hi (by lia) (by lia);lia
   by_cases he:e > 0
   .rw[if_pos he];exact wpS_bind (eD (wpS_pure ⟨0,rfl,b.mir (by lia) (by lia) (by lia),st1 _ (EJ hz e2),by lia,λi i1 i2=>by congr 1;lia⟩))
   .rw[if_neg he];exact wpS_pure ⟨0,rfl,b,st1 _ (λ_=>rfl),by lia,λi i1 i2=>by congr 1;lia⟩
  .rw[if_neg (by simpa using hl)];refine wpS_bind (AW q hS b (by lia) (by lia) ?_);dsimp only;by_cases hg:KR rk (arrOf z) (lo+x-1)<KR rk (arrOf z) (lo+x)
   .rw[if_pos (by simpa using hg)];exact wpS_pure (h x e z b hax (by lia) d e1 e2)
   .rw[if_neg (by simpa using hg)];refine wpS_pure ⟨e+1,rfl,b,λi j hi hij hj=>?_,by lia,λi i1 i2=>?_⟩
    .by_cases hjx:j<lo+x
     .exact d i j hi hij hjx
     .have:j=lo+x:=by lia
      subst this;by_cases hi':i=lo+x
      .subst hi';exact M0 _
      .have:=d i (lo+x-1) hi (by lia) (by lia);lia
    .rw[show lo+(x+1)-1=lo+x by lia];by_cases hix:i=lo+x
     .subst hix;rfl
     .have:=e2 i (by lia) (by lia);lia
def JL(q:lZ prog w A s κ rk S){st':SortSt}{lo n nrem:Nat}{Q:Option Nat->SortSt->Prop}(hS:AllS S (arrOf st))(hn:lo+nrem<=(arrOf st).size)(hnn:n+1<=nrem)(hB:Bs κ st lo nrem st')(hs:Dg rk (arrOf st') lo (n+1))(h:∀m z,Bs κ st lo nrem z->1<=m->m<=nrem->Sg rk (arrOf z) lo m->Q (some m) z):wpS (model prog w) A E s (HL lo n nrem) Q st':=by
 unfold HL;refine wpS_bind (wpS_lift (wpAny_rule ⟨rfl,?_⟩));refine wpS_bind (OC q hS hn (by lia) hnn hB hs λm e z b m1 m2 d e1 e2=>?_);dsimp only;have hz:lo+m<=(arrOf z).size:=by rw[b.size];lia
 by_cases he:e > 0
 .rw[if_pos he];refine wpS_bind (eD (IL q hS hn (by lia) m2 (b.mir (by lia) (by lia) (by lia)) (λi j hi hij hj=>?_) h));show KR rk (mirror _ _ _ _) j<=KR rk (mirror _ _ _ _) i;rw[EJ hz e2,EJ hz e2];exact d i j hi hij hj
 .rw[if_neg he];exact IL q hS hn (by lia) m2 b d h
def MN(q:lZ prog w A s κ rk S){lo nrem:Nat}{Q:Option Nat->SortSt->Prop}(hS:AllS S (arrOf st))(hn:lo+nrem<=(arrOf st).size)(h1:1<=nrem)(hB:Bs κ st lo nrem st)(h:∀m z,Bs κ st lo nrem z->1<=m->m<=nrem->Sg rk (arrOf z) lo m->Q (some m) z):wpS (model prog w) A E s (countRun' lo nrem) Q st:=by
 rw[NC];refine wpS_bind (Nu q hS hn (M0 1) h1 hB (λi j hi hij hj=>by have:i=j:=(by lia);subst this;exact M0 _) λn n1 n2 sn hor=>?_);dsimp only;by_cases hnn:n=nrem
 .rw[if_pos (by simpa using hnn)];exact wpS_pure (h n st hB n1 n2 sn)
 .rw[if_neg (by simpa using hnn)];have hlt:=hor.resolve_left hnn;by_cases hgt:n > 1
  .rw[if_pos hgt];refine wpS_bind (AW q hS hB (by lia) (by lia) ?_);dsimp only;by_cases hr:KR rk (arrOf st) lo<KR rk (arrOf st) (lo+n-1)
   .rw[if_pos (by simpa using hr)];exact wpS_pure (h n st hB n1 n2 sn)
   .rw[if_neg (by simpa using hr)];have hz:lo+n<=(arrOf st).size:=by lia
    have all:∀k,lo<=k->k<lo+n->KR rk (arrOf st) k=KR rk (arrOf st) (lo+n-1):=λk k1 k2=>by have a1:=sn lo k (by lia) k1 k2;have a2:=sn k (lo+n-1) k1 (by lia) (by lia);lia
    refine wpS_bind (eD (JL q hS hn (by lia) (hB.mir (by lia) (by lia) (by lia)) (λi j hi hij hj=>?_) h));show KR rk (mirror _ _ _ _) j<=KR rk (mirror _ _ _ _) i;rw[EJ hz all,EJ hz all];by_cases hjn:j<lo+n
    .have:=all i hi (by lia);have:=all j (by lia) hjn;lia
    .have:j=lo+n:=by lia
     subst this;by_cases hi':i=lo+n
     .subst hi';exact M0 _
     .have:=all i hi (by lia);lia
  .rw[if_neg hgt];have:n=1:=by lia
   subst this;refine JL q hS hn (by lia) hB (λi j hi hij hj=>?_) h;by_cases hi':i=j
   .subst hi';exact M0 _
   .have e1:i=lo:=by lia
    have e2:j=lo+1:=by lia
    subst e1;subst e2;exact B4 hlt
def PC(q:lZ prog w A s κ rk S){st':SortSt}{lo N n ok:Nat}{Q:Bool->SortSt->Prop}(hS:AllS S (arrOf st))(hn:lo+n<=(arrOf st).size)(hnN:n<=N)(hok:ok<=n)(hB:Bs κ st lo N st')(hs:Sg rk (arrOf st') lo ok)(h:∀z,Bs κ st lo N z->Sg rk (arrOf z) lo n->Q true z):wpS (model prog w) A E s (binarySort' lo n ok) Q st':=by
 rw[binarySort'_eq];refine wpS_bind (wpS_mono (wpS_forRange (I:=λk c z=>c=(none,())/\Bs κ st lo N z/\Sg rk (arrOf z) lo (min k n)) (Q:=λc z=>c=(none,())/\Bs κ st lo N z/\Sg rk (arrOf z) lo n) ?step ?fin ?init) ?post)
 case post=>rintro c z ⟨rfl,b,hs'⟩;exact wpS_pure (h z b hs')
 case init =>
  refine ⟨rfl,hB,λi j hi hij hj=>?_⟩;by_cases h1:ok=0
  .have:i=j:=by lia
   subst this;exact M0 _
  .exact hs i j hi hij (by lia)
 case fin=>rintro c z ⟨hc,b,hs'⟩;refine ⟨hc,b,?_⟩;rwa [show min (max (max ok 1) n) n=n by lia]at hs'
 case step =>
  rintro k c z hak hkn ⟨rfl,b,hs'⟩;rw[show min k n=k by lia]at hs';refine wpS_bind (wpS_mono (wpS_forRange (I:=λx c z'=>z'=z/\∃l r,c=(none,l,r)/\l<=r/\r<=k/\r-l<=k-x/\(∀i,i<l->KR rk (arrOf z) (lo+i)<=KR rk (arrOf z) (lo+k))/\(∀i,r<=i->i<k->KR rk (arrOf z) (lo+k)<KR rk (arrOf z) (lo+i)))
    (Q:=λc z'=>z'=z/\∃l r,c=(none,l,r)/\l<=k/\(∀i,i<l->KR rk (arrOf z) (lo+i)<=KR rk (arrOf z) (lo+k))/\(∀i,l<=i->i<k->KR rk (arrOf z) (lo+k)<KR rk (arrOf z) (lo+i))) ?istep ?ifin ?iinit) ?ipost)
  case iinit=>exact ⟨rfl,0,k,rfl,by lia,by lia,by lia,λi hi=>by lia,λi h1 h2=>by lia⟩
  case ifin =>
   rintro c z' ⟨rfl,l,r,rfl,hlr,hrk,hm,hlo,hhi⟩;have:l=r:=by lia
   subst this;exact ⟨rfl,l,l,rfl,hrk,hlo,hhi⟩
  case istep =>
   rintro x c z' _ hxk ⟨rfl,l,r,rfl,hlr,hrk,hm,hlo,hhi⟩;dsimp only;by_cases hge:l ≥ r
   .rw[if_pos hge];have:l=r:=by lia
    subst this;exact wpS_pure ⟨rfl,l,l,rfl,hrk,hlo,hhi⟩
   .rw[if_neg hge];refine wpS_bind (AW q hS b (by lia) (by lia) ?_);dsimp only;by_cases hl:KR rk (arrOf z') (lo+k)<KR rk (arrOf z') (lo+(l+r) / 2)
    .rw[if_pos (by simpa using hl)];refine wpS_pure ⟨rfl,l,(l+r) / 2,rfl,by lia,by lia,by lia,hlo,λi h1 h2=>?_⟩;have:=hs' (lo+(l+r) / 2) (lo+i) (by lia) (by lia) (by lia);lia
    .rw[if_neg (by simpa using hl)];refine wpS_pure ⟨rfl,(l+r) / 2+1,r,rfl,by lia,by lia,by lia,λi h1=>?_,hhi⟩;have:=hs' (lo+i) (lo+(l+r) / 2) (by lia) (by lia) (by lia);lia
  case ipost =>
   rintro c z' ⟨rfl,l,r,rfl,hlk,hlo,hhi⟩;show wpS _ _ _ _ (do moveDown' (lo+k) (lo+l);pure (ForInStep.yield (none,()))) _ _;rw[moveDown'_eq];have hks:lo+k<(arrOf z').size:=by rw[b.size];lia
   refine wpS_bind (wpS_modify (wpS_pure ⟨rfl,⟨(bubble_perm _ _ _).trans b.perm,b.kind,b.failed,b.pend,λi hi=>?_⟩,?_⟩))
   .show (bubble (arrOf z') _ _)[i]?=_;rw[getElem?_bubble hks _ (by lia),if_neg (by lia),if_neg (by lia)];exact b.keep i hi
   .rw[show min (k+1) n=k+1 by lia];intro i j hi hij hj;show KR rk (bubble (arrOf z') (lo+k) (lo+k-(lo+l))) i<=KR rk (bubble (arrOf z') (lo+k) (lo+k-(lo+l))) j;rw[EV hks (by lia),EV hks (by lia),show lo+k-(lo+k-(lo+l))=lo+l by lia];have hlo':∀i,lo<=i->i<lo+l->KR rk (arrOf z') i<=KR rk (arrOf z') (lo+k):=λi h1 h2=>by
     have:=hlo (i-lo) (by lia);rwa [show lo+(i-lo)=i by lia]at this
    have hhi':∀i,lo+l<=i->i<lo+k->KR rk (arrOf z') (lo+k)<KR rk (arrOf z') i:=λi h1 h2=>by have:=hhi (i-lo) (by lia) (by lia);rwa [show lo+(i-lo)=i by lia]at this
    repeat' split
    all_goals first
     |(exfalso;lia)
     |exact M0 _
     |exact hlo' _ (by lia) (by lia)
     |exact B4 (hhi' _ (by lia) (by lia))
     |exact hs' _ _ (by lia) (by lia) (by lia)
end
noncomputable def wb(xs:Array Keyed)(c:Nat)(m:List Keyed)(n:Nat):Array Keyed:=(m.zipIdx n).foldl (λa pj=>a.setIfInBounds (c+pj.2) pj.1) xs
theorem QC(i:Nat):mergeAt' i=(do
    let z<-get
    let (some (sa,na,pw),some (sb,nb,_)):=((pendingOf z)[i]?,(pendingOf z)[i+1]?)|unsupported "internal:list.sort.pending"
    set (setPending z (((pendingOf z).setIfInBounds i (sa,na+nb,pw)).eraseIdxIfInBounds (i+1)))
    let some k<-Qq false (<-elem' (arrOf z) sb) (arrOf z) sa na 0|return false
    let (sa,na):=(sa+k,na-k)
    if na==0 then return true
    let some nb<-Qq true (<-elem' (arrOf z) (sa+na-1)) (arrOf z) sb nb (nb-1)|return false
    if nb==0 then return true
    let x:=(arrOf z).extract sa sb
    let y:=(arrOf z).extract sb (sb+nb)
    let r<-if na<=nb then BM x y else CM x y
    modify λv=>setArr v (wb (arrOf v) sa r.toList 0)
    return (failedOf (<-get)).isNone):=rfl
theorem BG:∀(m:List Keyed) (n c:Nat) (xs:Array Keyed),c+n+m.length<=xs.size->∀k,(wb xs c m n)[k]?=if c+n<=k/\k<c+n+m.length then m[k-(c+n)]? else xs[k]?
 |[],n,c,xs,_,k=>by show xs[k]?=_;rw[if_neg (by simp)]
 |p::m,n,c,xs,h,k=>by
  have hl:(p::m).length=m.length+1:=rfl;show (wb (xs.setIfInBounds (c+n) p) c m (n+1))[k]?=_;rw[BG m (n+1) c _ (by rw[Array.size_setIfInBounds];lia),Array.getElem?_setIfInBounds];by_cases h1:c+n=k
  .subst h1;rw[if_neg (by lia),if_pos rfl,if_pos (by lia),if_pos (by lia)];simp
  .by_cases h2:c+(n+1)<=k/\k<c+(n+1)+m.length
   .rw[if_pos h2,if_pos (by lia)];have e:k-(c+n)=(k-(c+(n+1)))+1:=by lia
    rw[e,X3]
   .rw[if_neg h2,if_neg h1,if_neg (by lia)]
def vy(h:c+m.length<=xs.size):(wb xs c m 0).toList=xs.toList.take c++m++xs.toList.drop (c+m.length):=by
 apply List.ext_getElem?;intro k;rw[V2,BG m 0 c xs (by lia)];have hl:(xs.toList.take c).length=c:=by rw[P4,P0];lia
 rw[S2];by_cases h1:k<c
 .rw[if_neg (by lia),J2 (by lia),P7 h1,V2]
 .rw[P1 (by lia),hl];by_cases h2:k-c<m.length
  .rw[if_pos (by lia),J2 h2];rfl
  .rw[if_neg (by lia),P1 (by lia),V8,V2];congr 1;lia
section
variable {w:World}{κ:SortKind}{rk:Keyed->Nat}{S:Keyed->Prop}{st:SortSt}
def ext_at{xs:Array Keyed}{a b i:Nat}(hb:b<=xs.size)(hi:i<(xs.extract a b).size):(xs.extract a b)[i]=xs[a+i]'(by rw[x6]at hi;lia):=by rw[Array.getElem_extract]
def gx(hb:b<=xs.size)(h:∀i j,a<=i->i<=j->j<b->KR rk xs i<=KR rk xs j):(xs.extract a b).toList.Pairwise (ZW rk):=by
 rw[Q3];intro i j hi hj hij;rw[P0]at hi hj;rw[E3,E3,ext_at hb,ext_at hb];have hz:(xs.extract a b).size=b-a:=by rw[x6];lia
 have:=h (a+i) (a+j) (by lia) (by lia) (by lia);rwa [KR_at (by lia),KR_at (by lia)]at this
structure Mt(κ:SortKind)(rk:Keyed->Nat)(st:SortSt)(i sa na nb pw:Nat)(st':SortSt):Prop where
 perm:(arrOf st').Perm (arrOf st)
 kind:kindOf st'=κ
 failed:failedOf st'=none
 pend:pendingOf st'=((pendingOf st).setIfInBounds i (sa,na+nb,pw)).eraseIdxIfInBounds (i+1)
 keep:∀j,j<sa\/sa+(na+nb)<=j->(arrOf st')[j]?=(arrOf st)[j]?
 sg:Sg rk (arrOf st') sa (na+nb)
def KL(q:lZ prog w A s κ rk S){i sa na nb pw pw':Nat}{Q:Bool->SortSt->Prop}(hS:AllS S (arrOf st))(hk:kindOf st=κ)(hF:failedOf st=none)(p1:(pendingOf st)[i]?=some (sa,na,pw))(p2:(pendingOf st)[i+1]?=some (sa+na,nb,pw'))(hz:sa+na+nb<=(arrOf st).size) (n1:1<=na) (n2:1<=nb) (s1:Sg rk (arrOf st) sa na) (s2:Sg rk (arrOf st) (sa+na) nb) (h:∀st',Mt κ rk st i sa na nb pw st'->Q true st'):wpS (model prog w) A E s (mergeAt' i) Q st:=by
 rw[QC];refine wpS_bind (wpS_get ?_);rw[p1,p2];dsimp only;refine wpS_bind (wpS_modify (f:=λ_=>setPending st (((pendingOf st).setIfInBounds i (sa,na+nb,pw)).eraseIdxIfInBounds (i+1))) ?_);generalize hst1:setPending st (((pendingOf st).setIfInBounds i (sa,na+nb,pw)).eraseIdxIfInBounds (i+1))=st1;have hk1:kindOf st1=κ:=by rw[<-hst1];exact hk
 have hF1:failedOf st1=none:=by rw[<-hst1];exact hF
 have hA1:arrOf st1=arrOf st:=by rw[<-hst1]
 have hP1:pendingOf st1=((pendingOf st).setIfInBounds i (sa,na+nb,pw)).eraseIdxIfInBounds (i+1):=by rw[<-hst1]
 have hSi:∀j (hj:j<(arrOf st).size),S (arrOf st)[j]:=λj hj=>hS _ (by simp);have s1':∀a b,sa<=a->a<=b->b<sa+na->KR rk (arrOf st) a<=KR rk (arrOf st) b:=s1;have s2':∀a b,sa+na<=a->a<=b->b<sa+na+nb->KR rk (arrOf st) a<=KR rk (arrOf st) b:=s2;refine wpS_bind (VQ (by lia) ?_);refine wpS_bind (NZ q hk1 (hSi _ _) hSi (by lia) (λa b hb hab h1 h2=>by
   have:=s1' a b h1 hab h2;rwa [KR_at (by lia),KR_at hb]at this) (by lia) λk kn k1 k2=>?_);dsimp only;have k1':∀a,sa<=a->a<sa+k->KR rk (arrOf st) a<=KR rk (arrOf st) (sa+na):=λa h1 h2=>by
  have:=k1 a (by lia) h1 h2;rw[if_neg (by decide)]at this;rwa [KR_at (by lia),KR_at (by lia)]
 have k2':∀a,sa+k<=a->a<sa+na->KR rk (arrOf st) (sa+na)<KR rk (arrOf st) a:=λa h1 h2=>by have:=k2 a (by lia) h1 h2;rw[if_neg (by decide)]at this;rwa [KR_at (by lia),KR_at (by lia)]
 by_cases h0:na-k=0
 .rw[if_pos (by simpa using h0)];refine wpS_pure (h st1 ⟨by rw[hA1],hk1,hF1,hP1,λj _=>by rw[hA1],λa b h1 h2 h3=>?_⟩);rw[hA1];by_cases hb:b<sa+na
  .exact s1' a b h1 h2 hb
  .by_cases ha:a<sa+na
   .exact Z1 (k1' a h1 (by lia)) (s2' (sa+na) b (by lia) (by lia) (by lia))
   .exact s2' a b (by lia) h2 (by lia)
 .rw[if_neg (by simpa using h0)];refine wpS_bind (VQ (by lia) ?_);refine wpS_bind (NZ q hk1 (hSi _ _) hSi (by lia) (λa b hb hab h1 h2=>by
    have:=s2' a b h1 hab h2;rwa [KR_at (by lia),KR_at hb]at this) (by lia) λl ln l1 l2=>?_);dsimp only;have l1':∀a,sa+na<=a->a<sa+na+l->KR rk (arrOf st) a<KR rk (arrOf st) (sa+k+(na-k)-1):=λa h1 h2=>by
   have:=l1 a (by lia) h1 h2;rw[if_pos rfl]at this;rwa [KR_at (by lia),KR_at (by lia)]
  have l2':∀a,sa+na+l<=a->a<sa+na+nb->KR rk (arrOf st) (sa+k+(na-k)-1)<=KR rk (arrOf st) a:=λa h1 h2=>by have:=l2 a (by lia) h1 h2;rw[if_pos rfl]at this;rwa [KR_at (by lia),KR_at (by lia)]
  have el:sa+k+(na-k)-1=sa+na-1:=by lia
  rw[el]at l1' l2';by_cases hl0:l=0
  .rw[if_pos (by simpa using hl0)];refine wpS_pure (h st1 ⟨by rw[hA1],hk1,hF1,hP1,λj _=>by rw[hA1],λa b h1 h2 h3=>?_⟩);rw[hA1];by_cases hb:b<sa+na
   .exact s1' a b h1 h2 hb
   .by_cases ha:a<sa+na
    .exact Z1 (s1' a (sa+na-1) h1 (by lia) (by lia)) (l2' b (by lia) (by lia))
    .exact s2' a b (by lia) h2 (by lia)
  .rw[if_neg (by simpa using hl0)];have hxz:((arrOf st).extract (sa+k) (sa+na)).size=na-k:=by rw[x6];lia
   have hyz:((arrOf st).extract (sa+na) (sa+na+l)).size=l:=by rw[x6];lia
   have H:Hy rk S ((arrOf st).extract (sa+k) (sa+na)) ((arrOf st).extract (sa+na) (sa+na+l)):=by
    refine ⟨gx (by lia) λa b h1 h2 h3=>s1' a b (by lia) h2 h3,gx (by lia) λa b h1 h2 h3=>s2' a b h1 h2 (by lia),λj hj=>?_,λj hj=>?_,by lia,by lia,λj hj=>?_,λj hj=>?_⟩
    .rw[ext_at (by lia)];exact hSi _ _
    .rw[ext_at (by lia)];exact hSi _ _
    .rw[ext_at (by lia),ext_at (by lia)];have:=l1' (sa+na+j) (by lia) (by lia);rw[KR_at (by lia),KR_at (by lia)]at this;simp only[hxz];have e2:sa+k+(na-k-1)=sa+na-1:=by lia
     simp only[e2];exact B4 this
    .rw[ext_at (by lia),ext_at (by lia)];have:=k2' (sa+k+j) (by lia) (by lia);rw[KR_at (by lia),KR_at (by lia)]at this;simp only[Nat.add_zero];exact B4 this
   have go:∀(r:Array Keyed) (st2:SortSt),Gs st1 st2->Po rk ((arrOf st).extract (sa+k) (sa+na)) ((arrOf st).extract (sa+na) (sa+na+l)) r->wpS (model prog w) A E s (do
       modify λv=>setArr v (wb (arrOf v) (sa+k) r.toList 0)
       let v<-get
       pure (failedOf v).isNone) Q st2:=by
    rintro r st2 ⟨g,rfl⟩ ⟨hp,hw⟩;refine wpS_bind (wpS_modify (wpS_bind (wpS_get ?_)));have hlen:r.toList.length=na-k+l:=by rw[hp.length_eq,U0,P0,P0,hxz,hyz]
    have hb:sa+k+r.toList.length<=(arrOf st).size:=by lia
    have eA:arrOf (setArr (IK st1 g) (wb (arrOf (IK st1 g)) (sa+k) r.toList 0))=wb (arrOf st) (sa+k) r.toList 0:=by show wb (arrOf st1) _ _ _=_;rw[hA1]
    have eF:failedOf (setArr (IK st1 g) (wb (arrOf (IK st1 g)) (sa+k) r.toList 0))=none:=hF1;rw[eF];have gt:∀j,(wb (arrOf st) (sa+k) r.toList 0)[j]?=if sa+k<=j/\j<sa+k+r.toList.length then r.toList[j-(sa+k)]? else (arrOf st)[j]?:=λj=>BG r.toList 0 (sa+k) (arrOf st) hb j;have mid:∀j,sa+k<=j->j<sa+na+l->∃n,sa+k<=n/\n<sa+na+l/\KR rk (wb (arrOf st) (sa+k) r.toList 0) j=KR rk (arrOf st) n:=λj j1 j2=>by
     have hj:j-(sa+k)<r.toList.length:=by lia
     have e:KR rk (wb (arrOf st) (sa+k) r.toList 0) j=rk (r.toList[j-(sa+k)]'hj):=by unfold KR;rw[gt,if_pos (by lia),A0 hj]
     have hm:=hp.mem_iff.mp (N2 hj);rw[e];rcases A3.mp hm with hm|hm
     .obtain⟨n,hn,en⟩:=K3 hm;rw[P0]at hn;rw[E3,ext_at (by lia)]at en;refine ⟨sa+k+n,by lia,by lia,?_⟩;rw[<-en,KR_at (by lia)]
     .obtain⟨n,hn,en⟩:=K3 hm;rw[P0]at hn;rw[E3,ext_at (by lia)]at en;refine ⟨sa+na+n,by lia,by lia,?_⟩;rw[<-en,KR_at (by lia)]
    have out:∀j,j<sa+k\/sa+na+l<=j->(wb (arrOf st) (sa+k) r.toList 0)[j]?=(arrOf st)[j]?:=λj hj=>by rw[gt,if_neg (by lia)]
    refine wpS_pure (h _ ⟨?_,hk1,hF1,hP1,?_,?_⟩)
    .rw[eA,j5,vy hb];have e:(arrOf st).toList=(arrOf st).toList.take (sa+k)++(((arrOf st).extract (sa+k) (sa+na)).toList++((arrOf st).extract (sa+na) (sa+na+l)).toList)++(arrOf st).toList.drop (sa+k+r.toList.length):=by
      rw[A4,A4,u3,u3];have e1:(arrOf st).toList.drop (sa+na)=((arrOf st).toList.drop (sa+k)).drop (na-k):=by rw[y8];congr 1;lia
      rw[e1,show sa+na-(sa+k)=na-k by lia,show sa+na+l-(sa+na)=l by lia,<-List.take_add,hlen];have e2:(arrOf st).toList.drop (sa+k+(na-k+l))=((arrOf st).toList.drop (sa+k)).drop (na-k+l):=by rw[y8]
      rw[e2,S2,i4,i4]
     conv=>rhs;rw[e]
     exact (hp.append_left _).append_right _
    .intro j hj;rw[eA];exact out j (by lia)
    .rw[eA];intro a b h1 h2 h3;have kA:∀a,a<sa+k->KR rk (wb (arrOf st) (sa+k) r.toList 0) a=KR rk (arrOf st) a:=λa ha=>uX (out a (.inl ha));have kB:∀a,sa+na+l<=a->KR rk (wb (arrOf st) (sa+k) r.toList 0) a=KR rk (arrOf st) a:=λa ha=>uX (out a (.inr ha));by_cases ha:a<sa+k
     .rw[kA a ha];by_cases hb1:b<sa+k
      .rw[kA b hb1];exact s1' a b h1 h2 (by lia)
      .by_cases hb2:b<sa+na+l
       .obtain⟨n,m1,m2,en⟩:=mid b (by lia) hb2;rw[en];by_cases hn:n<sa+na
        .exact s1' a n h1 (by lia) hn
        .exact Z1 (k1' a h1 ha) (s2' (sa+na) n (by lia) (by lia) (by lia))
       .rw[kB b (by lia)];exact Z1 (k1' a h1 ha) (s2' (sa+na) b (by lia) (by lia) (by lia))
     .by_cases ha2:a<sa+na+l
      .by_cases hb2:b<sa+na+l
       .have ha':a-(sa+k)<r.toList.length:=by lia
        have hb':b-(sa+k)<r.toList.length:=by lia
        have ea:KR rk (wb (arrOf st) (sa+k) r.toList 0) a=rk (r.toList[a-(sa+k)]'ha'):=by unfold KR;rw[gt,if_pos (by lia),A0 ha']
        have eb:KR rk (wb (arrOf st) (sa+k) r.toList 0) b=rk (r.toList[b-(sa+k)]'hb'):=by unfold KR;rw[gt,if_pos (by lia),A0 hb']
        rw[ea,eb];rcases g6 a b with hab|hab
        .exact Q3.mp hw _ _ ha' hb' (by lia)
        .have:a=b:=by lia
         subst this;exact M0 _
       .obtain⟨n,m1,m2,en⟩:=mid a (by lia) ha2;rw[en,kB b (by lia)];by_cases hn:n<sa+na
        .exact Z1 (s1' n (sa+na-1) (by lia) (by lia) (by lia)) (l2' b (by lia) (by lia))
        .exact s2' n b (by lia) (by lia) (by lia)
      .rw[kB a (by lia),kB b (by lia)];exact s2' a b (by lia) h2 (by lia)
   by_cases hle:na-k<=l
   .simp only[if_pos hle];exact wpS_bind (CL q H hk1 λr st2 hg hP=>go r st2 hg hP)
   .simp only[if_neg hle];exact wpS_bind (GL q H hk1 λr st2 hg hP=>go r st2 hg hP)
end
noncomputable def Ch(rk:Keyed->Nat)(xs:Array Keyed):List (Nat×Nat×Nat)->Nat->Nat->Prop
 |[],b,e=>b=e
 |p::l,b,e=>p.1=b/\1<=p.2.1/\Sg rk xs b p.2.1/\Ch rk xs l (b+p.2.1) e
theorem Ch.len{rk:Keyed->Nat}{xs:Array Keyed}:∀{l:List (Nat×Nat×Nat)}{b e:Nat},Ch rk xs l b e->b+l.length<=e
 |[],b,e,h=>by cases h;simp
 |p::l,b,e,h=>by have:=h.2.2.2.len;have:=h.2.1;rw[Y2];lia
theorem Ch.append{rk:Keyed->Nat}{xs:Array Keyed}:∀{l l':List (Nat×Nat×Nat)}{b e:Nat},Ch rk xs (l++l') b e ↔ ∃m,Ch rk xs l b m/\Ch rk xs l' m e
 |[],l',b,e=>⟨λh=>⟨b,rfl,h⟩,λ⟨m,h1,h2⟩=>by cases h1;exact h2⟩
 |p::l,l',b,e=>⟨λ⟨h1,h2,h3,h4⟩=>by obtain⟨m,h5,h6⟩:=Ch.append.mp h4;exact ⟨m,⟨h1,h2,h3,h5⟩,h6⟩,λ⟨m,⟨h1,h2,h3,h5⟩,h6⟩=>⟨h1,h2,h3,Ch.append.mpr ⟨m,h5,h6⟩⟩⟩
theorem Ch.congr{rk:Keyed->Nat}{xs ys:Array Keyed}:∀{l:List (Nat×Nat×Nat)}{b e:Nat},(∀i,b<=i->i<e->ys[i]?=xs[i]?)->Ch rk xs l b e->Ch rk ys l b e
 |[],_,_,_,h=>h
 |p::l,b,e,k,⟨h1,h2,h3,h4⟩=>by have:=h4.len;refine ⟨h1,h2,λi j hi hij hj=>?_,h4.congr λi hi he=>k i (by lia) he⟩;rw[uX (k i hi (by lia)),uX (k j (by lia) (by lia))];exact h3 i j hi hij hj
structure In(κ:SortKind)(rk:Keyed->Nat)(st:SortSt)(lo:Nat)(st':SortSt):Prop where
 perm:(arrOf st').Perm (arrOf st)
 kind:kindOf st'=κ
 failed:failedOf st'=none
 ch:Ch rk (arrOf st') (pendingOf st').toList 0 lo
def In.size{st:SortSt}{lo:Nat}(h:In κ rk st lo st'):(arrOf st').size=(arrOf st).size:=h.perm.size_eq
section
variable {w:World}{κ:SortKind}{rk:Keyed->Nat}{S:Keyed->Prop}{st:SortSt}
def AllS.perm{ys:Array Keyed}(h:AllS S xs)(p:ys.Perm xs):AllS S ys:=λq hq=>h q ((j5.mp p).mem_iff.mp hq)
def Ou(q:lZ prog w A s κ rk S){i lo:Nat}{st':SortSt}{Q:Bool->SortSt->Prop}(hS:AllS S (arrOf st))(hI:In κ rk st lo st')(hlo:lo<=(arrOf st).size)(hi:i+1<(pendingOf st').size)(h:∀st'',In κ rk st lo st''->(pendingOf st'').size+1=(pendingOf st').size->(∀j,lo<=j->(arrOf st'')[j]?=(arrOf st')[j]?)->Q true st''):wpS (model prog w) A E s (mergeAt' i) Q st':=by
 obtain⟨perm,kind,failed,ch⟩:=hI;have hl:(pendingOf st').toList.length=(pendingOf st').size:=P0;obtain⟨pre,p,p',post,e,ep⟩:∃pre p p' post,(pendingOf st').toList=pre++p::p'::post/\pre.length=i:=by refine ⟨(pendingOf st').toList.take i,(pendingOf st').toList[i]'(by lia),(pendingOf st').toList[i+1]'(by lia),(pendingOf st').toList.drop (i+2),?_,by rw[P4];lia⟩;have e1:=W1 (l:=(pendingOf st').toList) (i:=i) (by lia);have e2:=W1 (l:=(pendingOf st').toList) (i:=i+1) (by lia);rw[<-e2,<-e1,i4]
 rw[e]at ch;obtain⟨m,c1,c2⟩:=Ch.append.mp ch;obtain⟨sa,na,pw⟩:=p;obtain⟨sb,nb,pw'⟩:=p';obtain⟨f1,f2,f3,g1,g2,g3,c3⟩:=c2;dsimp only at f1 f2 f3 g1 g2 g3 c3;subst f1;subst g1;have hlen:=c3.len;have q1:(pendingOf st')[i]?=some (sa,na,pw):=by rw[<-V2,e,P1 (by lia),ep,Y8];rfl
 have q2:(pendingOf st')[i+1]?=some (sa+na,nb,pw'):=by rw[<-V2,e,P1 (by lia),ep,L5];rfl
 have hz:=perm.size_eq;refine KL q (hS.perm perm) kind failed q1 q2 (by lia) f2 g2 f3 g3 λst'' M=>?_;have el:(pendingOf st'').toList=pre++(sa,na+nb,pw)::post:=by rw[M.pend,Array.toList_eraseIdxIfInBounds,Array.toList_setIfInBounds,e,<-ep,List.set_append_right _ _ (M0 _),Y8,List.eraseIdx_append_of_length_le (by lia),L5];rfl
 refine h st'' ⟨M.perm.trans perm,M.kind,M.failed,?_⟩ ?_ λj hj=>M.keep j (.inr (by lia))
 .rw[el];refine Ch.append.mpr ⟨sa,c1.congr λj _ hj=>M.keep j (.inl hj),rfl,by show 1<=na+nb;lia,M.sg,?_⟩;show Ch rk _ post (sa+(na+nb)) lo;rw[<-Nat.add_assoc];exact c3.congr λj hj _=>M.keep j (.inr (by lia))
 .have e1:=congrArg J3 el;have e2:=congrArg J3 e;rw[P0]at e1 e2;simp only[U0,Y2]at e1 e2;lia
theorem Ch.modify{xs:Array Keyed}(pw:Nat):∀{l:List (Nat×Nat×Nat)}{i b e:Nat},Ch rk xs l b e->Ch rk xs (l.modify i λx=>(x.1,x.2.1,pw)) b e
 |[],i,_,_,h=>by cases i<;>exact h
 |p::l,0,_,_,h=>h
 |p::l,i+1,_,_,⟨h1,h2,h3,h4⟩=>⟨h1,h2,h3,h4.modify pw (i:=i)⟩
def In.put{lo n:Nat}{z:SortSt}(h:In κ rk st lo z):In κ rk st lo (setPending z ((pendingOf z).modify ((pendingOf z).size-1) λx=>(x.1,x.2.1,pw))) :=
 ⟨h.perm,h.kind,h.failed,by show Ch rk (arrOf z) ((pendingOf z).modify ((pendingOf z).size-1) λx=>(x.1,x.2.1,pw)).toList 0 lo;rw[Array.toList_modify];exact h.ch.modify pw⟩
def In.push{lo:Nat}{z:SortSt}(h:In κ rk st lo z)(hn:1<=n)(hs:Sg rk (arrOf z) lo n):In κ rk st (lo+n) (setPending z ((pendingOf z).push (lo,n,0))) :=
 ⟨h.perm,h.kind,h.failed,by show Ch rk (arrOf z) ((pendingOf z).push (lo,n,0)).toList 0 (lo+n);rw[M6];exact Ch.append.mpr ⟨lo,h.ch,rfl,hn,hs,rfl⟩⟩
def In.run{lo:Nat}{z:SortSt}(h:In κ rk st lo z)(b:Bs κ z lo n z'):In κ rk st lo z' :=
 ⟨b.perm.trans h.perm,b.kind,b.failed,by rw[b.pend];exact h.ch.congr λi _ hi=>b.keep i (.inl hi)⟩
def Sg.congr{ys:Array Keyed}{lo:Nat}(h:Sg rk xs lo n)(k:∀j,lo<=j->ys[j]?=xs[j]?):Sg rk ys lo n:=λi j hi hij hj=>by rw[uX (k i hi),uX (k j (by lia))];exact h i j hi hij hj
def w_sort(q:lZ prog w A s κ rk S){Q:Unit->SortSt->Prop}(hS:AllS S (arrOf st))(hk:kindOf st=κ)(hF:failedOf st=none)(hP:pendingOf st=#[])(h:∀st',(arrOf st').Perm (arrOf st)->failedOf st'=none->Sg rk (arrOf st') 0 (arrOf st).size->Q () st'):wpS (model prog w) A E s sortRuns' Q st:=by
 rw[sortRuns'_eq];refine wpS_bind (wpS_get ?_);dsimp only;have I0:In κ rk st 0 st:=⟨Array.Perm.refl _,hk,hF,by rw[hP];rfl⟩;refine wpS_bind (wpS_mono (wpS_forRange (I:=λx c z=>∃lo,c=(none,lo)/\In κ rk st lo z/\lo<=(arrOf st).size/\(x<=lo\/lo=(arrOf st).size)) (Q:=λc z=>c=(none,(arrOf st).size)/\In κ rk st (arrOf st).size z) ?step ?fin ⟨0,rfl,I0,P3 _,.inl (M0 _)⟩) ?post)
 case fin =>
  rintro c z ⟨lo,rfl,hI,h1,h2⟩;have:lo=(arrOf st).size:=by lia
  subst this;exact ⟨rfl,hI⟩
 case step =>
  rintro x c z _ hx ⟨lo,rfl,hI,h1,h2⟩;dsimp only;by_cases hge:lo ≥ (arrOf st).size
  .rw[if_pos hge];have:lo=(arrOf st).size:=by lia
   subst this;exact wpS_pure ⟨rfl,hI⟩
  .rw[if_neg hge];have hz:=hI.size;have hS':AllS S (arrOf z):=AllS.perm hS hI.perm;refine wpS_bind (MN q hS' (by lia) (by lia) ⟨Array.Perm.refl _,hI.kind,hI.failed,rfl,λ_ _=>rfl⟩ λn z1 b1 n1 n2 g1=>?_);dsimp only;have rest:∀(n:Nat) (z1:SortSt),In κ rk st lo z1->1<=n->lo+n<=(arrOf st).size->Sg rk (arrOf z1) lo n->∃c,c=n/\In κ rk st lo z1/\Sg rk (arrOf z1) lo c/\1<=c/\lo+c<=(arrOf st).size:=λn z1 a b c d=>⟨n,rfl,a,d,b,c⟩;by_cases hlt:n<minRun' (arrOf st).size (arrOf st).size 0
   case' pos =>
    rw[if_pos hlt];refine wpS_bind (wpS_lift (wpAny_rule ⟨rfl,?_⟩));refine wpS_bind (PC (N:=(arrOf st).size-lo) q hS' (n:=min ((arrOf st).size-lo) (minRun' (arrOf st).size (arrOf st).size 0)) (by lia) (by lia) (by lia) b1 g1 λz2 b2 g2=>?_);simp only[O8,T1,if_false];have hI2:=hI.run b2;have m1:1<=min ((arrOf st).size-lo) (minRun' (arrOf st).size (arrOf st).size 0):=by lia
    have m2:lo+min ((arrOf st).size-lo) (minRun' (arrOf st).size (arrOf st).size 0)<=(arrOf st).size:=by lia
    clear b2 b1 g1;generalize min ((arrOf st).size-lo) (minRun' (arrOf st).size (arrOf st).size 0)=m at *
   case' neg =>
    rw[if_neg hlt];have hI2:=hI.run b1;have m1:=n1;have m2:lo+n<=(arrOf st).size:=by lia
    have g2:=g1;clear b1 g1 n1 n2 hlt;generalize n=m at *;generalize z1=z2 at *
   all_goals
    refine wpS_bind (wpS_get ?_);cases hb:(pendingOf z2).back? with
    |none=>exact wpS_bind (wpS_modify (wpS_pure ⟨lo+m,rfl,hI2.push m1 g2,m2,.inl (by lia)⟩))
    |some pb =>
     obtain⟨s1,n1,pv⟩:=pb;dsimp only;refine wpS_bind (wpS_mono (wpS_forRange (I:=λ_ c z=>c=(none,())/\In κ rk st lo z/\∀j,lo<=j->(arrOf z)[j]?=(arrOf z2)[j]?) (Q:=λc z=>c=(none,())/\In κ rk st lo z/\∀j,lo<=j->(arrOf z)[j]?=(arrOf z2)[j]?) ?_ (λ_ _ hh=>hh) ⟨rfl,hI2,λ_ _=>rfl⟩) ?_)
     .rintro y c z _ _ ⟨rfl,hI3,k3⟩;refine wpS_bind (wpS_get ?_);by_cases hp:(pendingOf z).size > 1
      .rw[if_pos hp];cases hq:(pendingOf z)[(pendingOf z).size-2]? with
       |none=>exact wpS_pure ⟨rfl,hI3,k3⟩
       |some pq =>
        obtain⟨u1,u2,older⟩:=pq;dsimp only;split
        .exact wpS_pure ⟨rfl,hI3,k3⟩
        .refine wpS_bind (Ou q hS hI3 (by lia) (by lia) λz4 hI4 _ k4=>?_);simp only[O8,T1,if_false];exact wpS_pure ⟨rfl,hI4,λj hj=>(k4 j hj).trans (k3 j hj)⟩
      .rw[if_neg hp];exact wpS_pure ⟨rfl,hI3,k3⟩
     .rintro c z ⟨rfl,hI3,k3⟩;exact wpS_bind (wpS_modify (wpS_bind (wpS_modify (wpS_pure ⟨lo+m,rfl,(hI3.put (n:=0)).push m1 (g2.congr k3),m2,.inl (by lia)⟩))))
 case post =>
  rintro c z ⟨rfl,hI⟩;dsimp only;refine wpS_bind (wpS_mono (wpS_forRange (I:=λx c z=>c=(none,())/\In κ rk st (arrOf st).size z/\(pendingOf z).size+x<=(arrOf st).size) (Q:=λc z=>c=(none,())/\In κ rk st (arrOf st).size z/\(pendingOf z).size<=1) ?_ ?_ ⟨rfl,hI,?_⟩) ?_)
  .rintro x c z _ hx ⟨rfl,hI,hx2⟩;refine wpS_bind (wpS_get ?_);by_cases hp:(pendingOf z).size<=1
   .rw[if_pos hp];exact wpS_pure ⟨rfl,hI,hp⟩
   .rw[if_neg hp];refine wpS_bind (Ou q hS hI (M0 _) (by (repeat' split)<;>lia) λz4 hI4 hs4 _=>?_);simp only[O8,T1,if_false];exact wpS_pure ⟨rfl,hI4,by lia⟩
  .rintro c z ⟨rfl,hI,hx2⟩;exact ⟨rfl,hI,by lia⟩
  .have:=hI.ch.len;rw[P0]at this;lia
  .rintro c z ⟨rfl,hI,hp⟩;refine wpS_pure (h z hI.perm hI.failed ?_);have hc:=hI.ch;have hl:(pendingOf z).toList.length<=1:=by rw[P0];exact hp
   match (pendingOf z).toList,hc,hl with
   |[],hc,_=>have:0=(arrOf st).size:=hc;intro i j _ _ hj;lia
   |[p],⟨h1,h2,h3,h4⟩,_=>have h4:0+p.2.1=(arrOf st).size:=h4;rw[J6]at h4;rw[h4]at h3;exact h3
end
end SG
namespace L2
open PySem.W
section
variable {w:World}{κ:SortKind}{vs:List Value}{rk:Value->Nat}
def FV{p:Keyed}(h:p∈(pairsOf vs).toList):p.1=p.2/\p.2∈vs:=by have h:p∈(vs.toArray.zip vs.toArray).toList:=h;rw[Array.toList_zip]at h;obtain⟨i,hi,e⟩:=K3 h;rw[X4]at e;subst e;exact ⟨rfl,N2 _⟩
def pU(ho:s.heap.get? a=some (seqObj "list" vs.toArray n))(hz:vs.length<=sizeLine)(hk:2<=vs.length->∀s':Shared,(∀b o,b≠a->s.heap.get? b=some o->s'.heap.get? b=some o)->∀Q':SortKind->Shared->Prop,Q' κ s'->wpAny (model prog w) A (keyKind' vs.toArray) Q' E s')(hlt:∀s':Shared,(∀b o,b≠a->s.heap.get? b=some o->s'.heap.get? b=some o)->∀x y,x∈vs->y∈vs->∀Q':Bool->Shared->Prop,Q' (decide (rk x<rk y)) s'->wpAny (model prog w) A (keyLt' κ x y) Q' (λ_ _=>False) s')(h:∀out:List Value,out.Perm vs->out.Pairwise (λx y=>rk x<=rk y)->P (.done (.ret .none)) {s with heap:=sortedHeap s.heap a vs out.toArray}):wpAny (model prog w) A (Builtin.«list.sort» ⟨[.ref a],[]⟩) P E s:=by
 rw[list_sort_plain];have ha:a<s.heap.objs.size:=u0 ho;refine wpAny_bind (listItems_at ho rfl ?_);refine wpAny_bind (listUpdate_at ho rfl ?_);obtain⟨e1,ho1⟩:∃e1,(s.heap.update a (W2 λ_=>#[])).get? a=some (seqObj "list" #[] e1):=⟨_,get?_update_seq ho (λ_=>#[])⟩;refine wpAny_bind (seqEpoch_at ho1 rfl ?_);refine wpAny_bind (wpAny_newTuple ?_);refine wpAny_bind (wpAny_newList ?_);refine wpAny_holding ?_;have ho6:(((s.heap.update a (W2 λ_=>#[])).push (seqObj "tuple" vs.toArray 0)).push (seqObj "list" #[] 0)).get? a=some (seqObj "list" #[] e1):=by rw[O6 _ _ _ (by rw[size_push',V6];exact N0 (E4 ha)),O6 _ _ _ (by rw[V6];exact N0 ha)];exact ho1
 have kp:∀b o,b≠a->s.heap.get? b=some o->(((s.heap.update a (W2 λ_=>#[])).push (seqObj "tuple" vs.toArray 0)).push (seqObj "list" #[] 0)).get? b=some o:=λb o hb e=>by refine i0 _ (i0 _ ?_);rw[t7 _ _ _ _ hb];exact e
 show wpAny (model prog w) A _ P E {s with heap:=((s.heap.update a (W2 λ_=>#[])).push (seqObj "tuple" vs.toArray 0)).push (seqObj "list" #[] 0)};dsimp only;have hsz:vs.toArray.size=vs.length:=by simp
 have out0:((pairsOf vs).map (·.2))=vs.toArray:=by apply Array.toList_inj.mp;rw[W6];show (vs.toArray.zip vs.toArray).toList.map (·.2)=_;simp only[Array.toList_zip];exact U7 (M0 _)
 by_cases h2:vs.toArray.size<2
 .rw[if_pos h2,if_pos h2];refine wpAny_bind (wpAny_pure ?_);rw[StateT.run_pure];refine wpAny_bind (wpAny_pure ?_);dsimp only;refine wpAny_bind (seqEpoch_at ho6 rfl ?_);refine wpAny_bind (listUpdate_at ho6 rfl ?_ (hsz2:=by rw[Array.size_map];show (pairsOf vs).size<=_;rw[pairsOf_size];exact Nat.le_succ_of_le hz));simp only[bne_self_eq_false,T1,if_false];have h':=h vs (List.Perm.refl _) (by
    match vs,h2 with
    |[],_=>exact .nil
    |[x],_=>exact E6 _ _
    |x::y::z,h2=>simp at h2;lia);rw[<-out0]at h';exact wpAny_pure h'
 .rw[if_neg h2,if_neg h2];have h2':2<=vs.length:=by lia
  refine wpAny_bind (hk h2' _ kp _ ?_);have run:=SG.w_sort (prog:=prog) (w:=w) (A:=A) (E:=E) (κ:=κ) (rk:=λp=>rk p.1) (S:=λp=>p.1∈vs) (st:=SortSt.mk' κ (pairsOf vs) #[] 7 none)
   (s:={s with heap:=((s.heap.update a (W2 λ_=>#[])).push (seqObj "tuple" vs.toArray 0)).push (seqObj "list" #[] 0)})
   (Q:=λ_ st'=>(arrOf st').Perm (pairsOf vs)/\failedOf st'=none/\SG.Sg (λp=>rk p.1) (arrOf st') 0 (pairsOf vs).size)
   (λx y hx hy Q' hQ'=>hlt _ kp _ _ hx hy Q' hQ') (λp hp=>by have:=FV hp;show p.1∈vs;rw[this.1];exact this.2) rfl rfl rfl λst' p1 p2 p3=>⟨p1,p2,p3⟩;refine wpAny_bind (wpAny_mono run ?_ λ_ _ e=>e);rintro⟨⟨⟩,st'⟩ s' ⟨rfl,hp,hf,hs⟩;dsimp only at hp hf hs ⊢;refine wpAny_bind (seqEpoch_at ho6 rfl ?_);have hpl:=j5.mp hp;have eq12:∀p∈(arrOf st').toList,p.1=p.2:=λp h=>(FV (hpl.mem_iff.mp h)).1;have hO:((arrOf st').map (·.2)).toList.Perm vs:=by
   rw[W6];have e:(pairsOf vs).toList.map (·.2)=vs:=by rw[<-W6,out0]
   have:=hpl.map (·.2);rw[e]at this;exact this
  have hL:((arrOf st').map (·.2)).toList.length=vs.length:=hO.length_eq;rw[P0]at hL;refine wpAny_bind (listUpdate_at ho6 rfl ?_ (hsz2:=by rw[hL];exact Nat.le_succ_of_le hz));rw[hf];simp only[bne_self_eq_false,T1,if_false];refine wpAny_pure ?_;have:=h ((arrOf st').map (·.2)).toList hO (by rw[W6,x5,Q3];intro i j hi hj hij;rw[P0]at hi hj;have hz2:(arrOf st').size=(pairsOf vs).size:=hp.size_eq;have:=hs i j (P3 _) (by lia) (by lia);rw[SG.KR_at hi,SG.KR_at hj]at this;rw[E3,E3,<-eq12 _ (by simp),<-eq12 _ (by simp)];exact this);rw[Array.toArray_toList]at this;exact this
def Tq(hl:s.heap.IsList l vs.toArray)(hz:vs.length<=sizeLine)(hk:2<=vs.length->∀s':Shared,(∀b o,s.heap.get? b=some o->s'.heap.get? b=some o)->∀(E:Value->Shared->Prop) (Q':SortKind->Shared->Prop),Q' κ s'->wpAny (model prog w) A.in1.in1 (keyKind' vs.toArray) Q' E s')(hlt:∀s':Shared,(∀b o,s.heap.get? b=some o->s'.heap.get? b=some o)->∀x y,x∈vs->y∈vs->∀Q':Bool->Shared->Prop,Q' (decide (rk x<rk y)) s'->wpAny (model prog w) A.in1.in1 (keyLt' κ x y) Q' (λ_ _=>False) s')(h:∀out:List Value,out.Perm vs->out.Pairwise (λx y=>rk x<=rk y)->Q (.ref (s.heap.objs.size+1)) {s with heap:=sortedAll s.heap vs out.toArray}):wpAny (model prog w) A (call (.builtin "sorted") [.ref l]) Q E s:=by
 refine Calls.call_function_entry kind_sorted plain_sorted entry_sorted (args_sorted1 _) ?_;unfold Builtin.«sorted»;refine wpAny_bind (m:=checkCount "sorted" 1 1 _) (wpAny_pure ?_);refine wpAny_bind (collect_list hl ?_ (hsz:=hz));refine wpAny_bind (wpAny_newList ?_ hz);have hsz:((s.heap.push (seqObj "list" #[] 0)).update s.heap.objs.size (W2 (·++vs.toArray))).objs.size=s.heap.objs.size+1:=by rw[V6,size_push']
 have hoL:(((s.heap.push (seqObj "list" #[] 0)).update s.heap.objs.size (W2 (·++vs.toArray))).push (seqObj "list" vs.toArray 0)).get? (s.heap.objs.size+1)=some (seqObj "list" vs.toArray 0):=by rw[<-hsz];exact v0 _ rfl
 have keep:∀b o,s.heap.get? b=some o->b≠s.heap.objs.size+1/\(((s.heap.push (seqObj "list" #[] 0)).update s.heap.objs.size (W2 (·++vs.toArray))).push (seqObj "list" vs.toArray 0)).get? b=some o:=λb o q=>by have hlt:b<s.heap.objs.size:=u0 q;refine ⟨N0 (E4 hlt),?_⟩;rw[O6 _ _ _ (by rw[hsz];exact N0 (E4 hlt)),t7 _ _ _ _ (N0 hlt),O6 _ _ _ (N0 hlt)];exact q
 show wpAny _ _ _ _ _ {s with heap:=((s.heap.push (seqObj "list" #[] 0)).update s.heap.objs.size (W2 (·++vs.toArray))).push (seqObj "list" vs.toArray 0)};rw[hsz];refine wpAny_bind (wpAny_holding (wpAny_call_entry slot_list_sort ⟨_,hoL,rfl⟩ entry_list_sort (pU (κ:=κ) (rk:=rk) hoL hz (λh2 s' k Q' q=>hk h2 s' (λb o e=>k b o (keep b o e).1 (keep b o e).2) _ Q' q)
   (λs' k x y hx hy Q' q=>hlt s' (λb o e=>k b o (keep b o e).1 (keep b o e).2) x y hx hy Q' q) λout o1 o2=>⟨_,rfl,?_⟩) (args_list_sort _)));exact wpAny_pure ⟨_,rfl,h out o1 o2⟩
end
end L2
namespace SG
structure Wk{α:Type}(lt:α->α->Bool):Prop where
 irr:∀a,lt a a=false
 tr:∀a b c,lt a b=true->lt b c=true->lt a c=true
 nt:∀a b c,lt a b=false->lt b c=false->lt a c=false
theorem CG{α:Type}{p q:α->Bool}:∀{l:List α},(∀a∈l,p a=true->q a=true)->l.countP p<=l.countP q
 |[],_=>M0 _
 |a::l,h=>by
  have ih:=CG (l:=l) λx hx=>h x (K0 _ hx);rw[X6,X6];have:=h a R0;cases hp:p a
  .simp;lia
  .rw[this hp];simp;lia
theorem jx{α:Type}{p q:α->Bool}:∀{l:List α},(∀a∈l,p a=true->q a=true)->(∃a∈l,p a=false/\q a=true)->l.countP p<l.countP q
 |[],_,⟨_,h,_⟩=>by simp at h
 |a::l,h,⟨x,hx,h1,h2⟩=>by
  rw[X6,X6];rcases Y0.mp hx with rfl|hx
  .have:=CG (l:=l) λx hx=>h x (K0 _ hx);rw[h1,h2];simp;lia
  .have ih:=jx (l:=l) (λx hx=>h x (K0 _ hx)) ⟨x,hx,h1,h2⟩;have:=h a R0;cases hp:p a
   .simp;lia
   .rw[this hp];simp;lia
def rank(W:Wk lt){l:List α}{x y:α}(hx:x∈l)(hy:y∈l):decide (l.countP (λa=>lt a x)<l.countP (λa=>lt a y))=lt x y:=by
 cases h:lt x y
 .rw[decide_eq_false_iff_not,Q8];refine CG λa _ ha=>?_;cases h2:lt a x
  .rw[W.nt a x y h2 h]at ha;cases ha
  .rfl
 .rw[decide_eq_true_eq];exact jx (λa _ ha=>W.tr a x y ha h) ⟨x,hx,W.irr x,h⟩
def lex_wk:Wk HT.lexLt:=by
 refine ⟨λa=>?_,λa=>?_,λa=>?_⟩
 .induction a with
  |nil=>rfl
  |cons x a ih=>rw[HT.lexLt_cons,if_pos rfl];exact ih
 .induction a with
  |nil =>
   intro b c h1 h2;cases c with
   |nil=>cases b<;>cases h2
   |cons z c=>rfl
  |cons x a ih =>
   intro b c h1 h2;cases b with
   |nil=>cases h1
   |cons y b =>
    cases c with
    |nil=>cases h2
    |cons z c =>
     rw[HT.lexLt_cons]at h1 h2 ⊢;by_cases e1:x=y
     .subst e1;rw[if_pos rfl]at h1;by_cases e2:x=z
      .subst e2;rw[if_pos rfl]at h2 ⊢;exact ih b c h1 h2
      .rw[if_neg e2]at h2 ⊢;exact h2
     .rw[if_neg e1]at h1;have h1:=of_decide_eq_true h1;by_cases e2:y=z
      .subst e2;rw[if_neg e1];exact decide_eq_true h1
      .rw[if_neg e2]at h2;have h2:=of_decide_eq_true h2;rw[if_neg (by lia)];exact decide_eq_true (by lia)
 .induction a with
  |nil =>
   intro b c h1 h2;cases b with
   |nil=>exact h2
   |cons y b=>cases h1
  |cons x a ih =>
   intro b c h1 h2;cases c with
   |nil=>rfl
   |cons z c =>
    cases b with
    |nil=>cases h2
    |cons y b =>
     rw[HT.lexLt_cons]at h1 h2 ⊢;by_cases e1:x=y
     .subst e1;rw[if_pos rfl]at h1;by_cases e2:x=z
      .subst e2;rw[if_pos rfl]at h2 ⊢;exact ih b c h1 h2
      .rw[if_neg e2]at h2 ⊢;exact h2
     .rw[if_neg e1]at h1;have h1:=of_decide_eq_false h1;by_cases e2:y=z
      .subst e2;rw[if_neg e1];exact decide_eq_false h1
      .rw[if_neg e2]at h2;have h2:=of_decide_eq_false h2;rw[if_neg (by lia)];exact decide_eq_false (by lia)
theorem lex_eq:∀{a b:Qa},HT.lexLt a b=false->HT.lexLt b a=false->a=b
 |[],[],_,_=>rfl
 |[],_::_,h,_=>by cases h
 |_::_,[],_,h=>by cases h
 |x::a,y::b,h1,h2=>by
  rw[HT.lexLt_cons]at h1 h2;by_cases e:x=y
  .subst e;rw[if_pos rfl]at h1 h2;rw[lex_eq h1 h2]
  .rw[if_neg e]at h1;rw[if_neg (λz=>e z.symm)]at h2;have h1:=of_decide_eq_false h1;have h2:=of_decide_eq_false h2;lia
theorem sorted_uniq{lt:α->α->Bool}(an:∀a b,lt a b=false->lt b a=false->a=b):∀{l m:List α},l.Perm m->l.Pairwise (λa b=>lt b a=false)->m.Pairwise (λa b=>lt b a=false)->l=m
 |[],m,p,_,_=>by rw[List.nil_perm.mp p]
 |x::l,[],p,_,_=>by simp at p
 |x::l,y::m,p,h1,h2=>by
  have e:x=y:=by
   have hx:x∈y::m:=p.mem_iff.mp R0;have hy:y∈x::l:=p.mem_iff.mpr R0;rcases Y0.mp hx with e|hx
   .exact e
   .rcases Y0.mp hy with e|hy
    .exact e.symm
    .exact an x y ((A6.mp h2).1 x hx) ((A6.mp h1).1 y hy)
  subst e;rw[sorted_uniq an (List.perm_cons x |>.mp p) (A6.mp h1).2 (A6.mp h2).2]
end SG
namespace L2
open PySem.W
section
variable {X:Cx}{α:Type}[Inhabited α]
def qU(K:B0)(Rep:Hp->Addr->α->Prop)(fn:Hp->V->α)(lt:α->α->Bool):List V->Hp->VK->Prop:=λxs H Q=>∃(a:Addr) (us:List V),xs=[.ref a]/\SqL K H a us/\us.length<=sizeLine /\
 (∀v∈us,∃c x,v=.ref c/\Rep H c x)/\∀(p:Addr) (us':List V),H p=none->us'.Perm us->(us'.map (fn H)).Pairwise (λa b=>lt b a=false)->Q (.ref p) (DQ H p (.lst us'))
def Uq{us:List V}:∀{out:List Value},out.Perm its->Vals us its->∃us':List V,us'.Perm us/\Vals us' out:=by
 intro out p;induction p generalizing us with
 |nil=>intro h;exact ⟨us,List.Perm.refl _,h⟩
 |cons x _ ih =>
  intro h;cases h with
  |cons h t=>obtain⟨us',p,r⟩:=ih t;exact ⟨_,p.cons _,.cons h r⟩
 |swap x y l =>
  intro h;cases h with
  |cons h1 t=>cases t with|cons h2 t=>exact ⟨_,List.Perm.swap _ _ _,.cons h2 (.cons h1 t)⟩
 |trans _ _ ih1 ih2=>intro h;obtain⟨u2,p2,r2⟩:=ih2 h;obtain⟨u1,p1,r1⟩:=ih1 r2;exact ⟨u1,p1.trans p2,r1⟩
end
end L2
namespace L3
open L2
def DG{pos:Pos}:∀(l:List Value),TriplesOk l->codeAmong pos' (l++[rawInt pos.line,rawInt pos.col,c])=some v->codeAmong pos' l=some v\/v=c:=by
 intro l h e
 fun_induction TriplesOk l with
 |case1 =>
  simp only[g7,codeAmong,rawInt]at e;split at e
  .exact .inr (O1 e).symm
  .cases e
 |case2 a t b u x rest ih =>
  simp only[Q4,codeAmong]at e ⊢;split at e
  .rename_i hc;rw[if_pos hc];exact .inl e
  .rename_i hc;rw[if_neg hc];exact ih h e
 |case3 l h1 h2=>exact h.elim
structure Lm(K:Fg)(x:Str)(fd:FuncData):Prop where
 ex:∃c P,fd.code=.ref c/\v4 K c P=true/\(P,x)∈TB K/\∀z∈TB K,z.1=P->z.2=x
section
variable {K:Fg}{F:Hp}
end
section
variable {P:Program}{w:World}{K:Fg}{mg:Str->Option Value}{base:Heap}
def NN{st:Stmt}{ts:mJ}(F:Fun K x qual st f fd)(hcd:fd.code=.ref c)(S:FnScope N ps (cQ st))(hb:∀(A:Around) (outer:List Env) (s:Shared) (H:Hp) (E:XK),Room k (A.deeper (envOfC qual (cQ st) s.heap.objs.size f (.ref c)))->WSs (YY DX P w K mg base N qual (cQ st) f (.ref c) A outer s H E).nox (aX st) (oQ K ts))(hl:∀args Qd,con args Qd->args.length=ps.length) (hc:∀args Qd,con args Qd->(∀s∈args,∀d,s≠.ow d)/\ts (jY args Qd) (AJ N.length args)):FnOk P w K mg base DX (k+1) f fd ps (dQ K con):=by
 obtain⟨oc,od,kV,doc,pm,an,cdv,ct,osl,rfl,lk,hcd'⟩:=F.ex;have e:cdv=.ref c:=hcd;subst e;refine pu lk hcd' S (λvs H Q E h=>?_) λA outer s H vs Q E hr hsp=>⟨_,(hb A outer s H E hr).h.nox,yu hc hsp⟩;obtain⟨G,F',args,Qd,R,w',_⟩:=h;have h1:=hl args Qd w';have h2:=R.len;rw[q0,q0]at h2;rw[h2,h1]
theorem LL{x:Str}{st:Stmt}{f c:Addr}{ps:List Str}{k:Nat}{con:Con}{ts:mJ}(F:Fun K x qual st f fd)(hcd:fd.code=.ref c)(S:FnScope N ps (cQ st))
  (hb:∀(A:Around) (outer:List Env) (s:Shared) (H:Hp) (E:XK),Room k (A.deeper (envOfC qual (cQ st) s.heap.objs.size f (.ref c)))->WSs (YY DX P w K mg base N qual (cQ st) f (.ref c) A outer s H E).nox (aX st) (oQ K ts))
  (hc:∀args Qd,con args Qd->ts (jY args Qd) (AJ N.length args)) (hn:∀args Qd,con args Qd->args.length=ps.length/\∀s∈args,∀d,s≠.ow d:=by intro a q h;repeat first|exact ⟨rfl,RJ rfl⟩|(obtain⟨rfl,_⟩:=h)|(obtain⟨_,h⟩:=h)):FnOk P w K mg base DX (k+1) f fd ps (dQ K con):=NN F hcd S hb (λa q h=>(hn a q h).1) λa q h=>⟨(hn a q h).2,hc a q h⟩
end
def wy{K:Fg}(hS:SqL K H a (ns.map V.int))(hT:∀z∈TB K,H z.1=some (.tbl #[])):∃F:Hp,Rel K ⟨H,F,λ_=>none⟩ F [some (.ref a)] H [some (.fz (VJ ns))]:=by
 refine ⟨λb=>match H b with
   |some (.tbl ps)=>none
   |o=>o,?_⟩;have su:Sub (λb=>match H b with
   |some (.tbl ps)=>none
   |o=>o) H:=λb o e=>by
  dsimp only at e;split at e
  .cases e
  .exact e
 have back:∀b u,H b=some u->stk u=false\/(∃o x,u=.frz o x)->(match H b with
   |some (.tbl ps)=>none
   |o=>o)=some u:=λb u e s=>by
  rw[e];cases u<;>first|rfl|(rcases s with s|⟨_,_,s⟩<;>cases s)
 have hS':SqL K (λb=>match H b with
   |some (.tbl ps)=>none
   |o=>o) a (ns.map V.int):=by
  rcases hS with (h|⟨o,h⟩)|h
  .exact .inl (.inl (back _ _ h (.inl rfl)))
  .exact .inl (.inr ⟨o,back _ _ h (.inr ⟨_,_,rfl⟩)⟩)
  .exact .inr h
 have tb:TabOk K (λb=>match H b with
   |some (.tbl ps)=>none
   |o=>o) H:=λz hz=>by
  have e:=hT z hz;refine ⟨by dsimp only;rw[e],#[],e,trivial,λpos v q=>?_⟩;cases q
 exact zJ (vs:=[.ref a]) (ds:=[VJ ns]) su tb (.cons (.scr hS') .nil)
end L3
namespace L2
def kx(ts:List Addr)(H:Hp):Prop:=(∀b,H b=none\/(∃o xs,H b=some (.frz o (.lst xs)))\/b∈ts)/\∀P∈ts,H P=some (.tbl #[])
def Vq{K:B0}(KX:K.In s₁.heap) (hts:∀P∈ts,s₁.heap.get? P=some (L6 #[])) (hct:∀P∈ts,K.lookup P=none/\∃c,v4 K c P=true)(hns:s₁.heap.Ns mainGlobals mg) (hb:s₁.heap.Ns builtinsNs mb) (hbb:∀x:Str,x ≠ "__name__"->mb x=bootBuiltins x) (hlim:s₁.heap.NoLimit) (hbm:bI mg s₁.heap) (hg:s₁.gens=#[])(ha:s₁.heap.get? a=some {cls:=.type "list",data:=.seq vs.toArray}) (hi:IntsAre vs ns) (hl:ns.length<=sizeLine) (hr:Room k callerA)(F:∀base:Heap,K.In base->base.Ns mainGlobals mg->FnOk P w K mg base CX k fa fd [x] sp) (hbind:∀(s:Shared) (u:Value),BindsTo s fd ⟨[u],[]⟩ [(x,u)])(hsp:∀H:Hp,kx ts H->SqL K H a (ns.map V.int)->sp [.ref a] H (λv _=>v=.bl true) λ_ _ _=>False)(hCX:∀H e s',CX [] H s₁ (λ_ _ _=>False) e s'->False):codeAny (model P w) callerA (.call (.ref fa) ⟨[.ref a],[]⟩) (λr s'=>r=.ok (.ret (.bool true))/\OldK s₁.heap s'.heap/\s'.os=s₁.os/\AllBare s'.gens) s₁:=by
 have rv:=vV hi;have lenV:=hi.length;have nat:a∉ts:=λz=>by have:=hts a z;rw[ha]at this;cases this
 have core:∀H:Hp,kx ts H->SqL K H a (ns.map V.int)->HOk P w H s₁.heap->(∀b,H b≠none->b=a\/b∈ts)->(H a≠none->K.lookup a=none) ->
   codeAny (model P w) callerA (.call (.ref fa) ⟨[.ref a],[]⟩) (λr s'=>r=.ok (.ret (.bool true))/\OldK s₁.heap s'.heap/\s'.os=s₁.os/\AllBare s'.gens) s₁:=by
  intro H hO hS hok hA hK;have base_of:∀{b:Addr}{o:Obj},s₁.heap.get? b=some o->H b=none->(TV s₁.heap H).get? b=some o:=λe n=>zz e n;have noA:∀{b:Addr}{o:Obj},s₁.heap.get? b=some o->o.cls≠.none->o.cls≠.type "list"->H b=none:=λ{b o} e d1 d2=>by
   cases q:H b with
   |none=>rfl
   |some u =>
    rcases hA b (by rw[q];simp) with e'|e'
    .subst e';rw[ha]at e;cases e;exact absurd rfl d2
    .rw[hts b e']at e;cases e;exact absurd rfl d1
  have noD:∀{b:Addr}{o:Obj}{es:Array DictEntry}{ep:Nat},s₁.heap.get? b=some o->o.data=.dict es ep->H b=none:=λ{b o es ep} e d=>by
   cases q:H b with
   |none=>rfl
   |some u =>
    rcases hA b (by rw[q];simp) with e'|e'
    .subst e';rw[ha]at e;cases e;have d':Data.seq vs.toArray _=Data.dict es ep:=d;cases d'
    .rw[hts b e']at e;cases e;cases d
  have nsK:∀{b:Addr}{m:Str->Option Value},s₁.heap.Ns b m->(TV s₁.heap H).Ns b m:=λ{b m} ⟨o,es,ep,e,d,r⟩=>⟨o,es,ep,base_of e (noD e d),d,r⟩;have hKb:K.In (TV s₁.heap H):=λb o e=>base_of (KX b o e) (by
    cases q:H b with
    |none=>rfl
    | some u =>
      rcases hA b (by rw[q];simp) with e'|e'
      . subst e';rw[hK (by rw[q];simp)]at e;cases e
      . rw[(hct b e').1]at e;cases e);have hM:Mod K mg (TV s₁.heap H):=⟨hKb,nsK hns,⟨mb,nsK hb,hbb⟩,let ⟨mc,h1,h2⟩:=hlim;⟨mc,nsK h1,h2⟩,let ⟨bm,o,b1,b2,b3,b4,b5,b6⟩:=hbm;⟨bm,o,b1,b2,base_of b3 (noA b3 (by rw[b4];exact λz=>by cases z) (by rw[b4];intro z;injection z with z;exact absurd z (by decide))),b4,b5,b6⟩⟩;have e0:Env0 P w K mg (TV s₁.heap H) callerA [] s₁ H:=⟨rfl,hM,λb o e=>Bw e,Nat.le_of_eq (WD _ _),trivial,λb hb=>absurd (show b∈([]:List Addr) from hb) (by simp),hok,.of_eq hg⟩;refine codeAny_mono ((F _ hKb (nsK hns)).run callerA [] s₁ H ⟨[.ref a],[]⟩ [.ref a] [.ref a] _ _ hr e0 (hbind s₁ (.ref a)) (.cons rfl .nil) (hsp H hO hS)) λr s' h=>?_;cases r with
  |error e=>exact (hCX H e s' h).elim
  |ok fl =>
   cases fl with
   |next=>exact False.elim h
   |brk=>exact False.elim h
   |cont=>exact False.elim h
   |ret u =>
    obtain⟨v,H',os,bare,un,hok',r',q⟩:=h;have q':v=.bl true:=q;subst q';obtain rfl:u=o9 true:=r';have tabs:∀b∈ts,∃more,s'.heap.get? b=some (L6 (#[]++more)):=λb hb=>by obtain⟨more,e⟩:=un.tbls b _ (hO.2 b hb);exact ⟨more,(show ObjOk P w H' s'.heap b (.tbl (#[]++more)) from hok' b _ e)⟩
    have others:∀b o,b∉ts->s₁.heap.get? b=some o->s'.heap.get? b=some o:=λb o hb e=>by
     cases q:H b with
     |none=>exact un.keep b o e q (by intro z;exact absurd (show b∈([]:List Addr) from z) (by simp)) (by simp)
     |some u =>
      rcases hO.1 b with z|⟨ob,xs,z⟩|z
      .rw[q]at z;cases z
      .have z2:=un.frzs b ob _ z;obtain⟨e1,_⟩:=hok b _ z;obtain⟨e2,_⟩:=hok' b _ z2;rw[e]at e1;cases e1;exact e2
      .exact absurd z hb
    refine ⟨rfl,⟨λb o e=>?_,λb o e=>?_⟩,os,bare⟩
    .by_cases hb:b∈ts
     .obtain⟨more,e2⟩:=tabs b hb;obtain⟨_,c,hc⟩:=hct b hb;have e3:=hts b hb;rw[e]at e3;cases e3;exact .inr (.inl ⟨((L8 KX hc).tab (hts b hb)).isCodeTable,rfl,#[],more,rfl,e2⟩)
     .exact .inl (others b o hb e)
    .by_cases hb:b∈ts
     .obtain⟨more,e2⟩:=tabs b hb;exact ⟨_,e2⟩
     .exact ⟨_,others b o hb e⟩
 cases hk:K.lookup a with
 |some o =>
  have e:=KX a o hk;rw[ha]at e;cases e;refine core (λb=>if b∈ts then some (.tbl #[]) else none) ⟨λb=>?_,λP hP=>if_pos hP⟩ (.inr ⟨_,vs.toArray,_,hk,rfl,rfl,rfl,by rw[V0,lenV];exact hl,by simpa using rv⟩) (λb u z=>?_) (λb z=>?_) λz=>absurd (if_neg nat) z
  .by_cases hb:b∈ts
   .exact .inr (.inr hb)
   .exact .inl (if_neg hb)
  .by_cases hb:b∈ts
   .have z':=(if_pos hb).symm.trans z;cases z';exact hts b hb
   .have z':=(if_neg hb).symm.trans z;cases z'
  .by_cases hb:b∈ts
   .exact .inr hb
   .exact absurd (if_neg hb) z
 |none =>
  refine core (λb=>if b=a then some (.frz {cls:=.type "list",data:=.seq vs.toArray} (.lst (ns.map V.int))) else if b∈ts then some (.tbl #[]) else none) ⟨λb=>?_,λP hP=>?_⟩ (.inl (.inr ⟨{cls:=.type "list",data:=.seq vs.toArray},if_pos rfl⟩)) (λb u z=>?_) (λb z=>?_) λ_=>hk
  .by_cases hb:b=a
   .exact .inr (.inl ⟨_,_,if_pos hb⟩)
   .by_cases hb2:b∈ts
    .exact .inr (.inr hb2)
    .exact .inl (by dsimp only;rw[if_neg hb,if_neg hb2])
  .have ne:P≠a:=λq=>nat (q ▸ hP);show (if P=a then _ else if P∈ts then some (HO.tbl #[]) else none)=_;rw[if_neg ne,if_pos hP]
  .have z:(if b=a then some (HO.frz {cls:=.type "list",data:=.seq vs.toArray} (.lst (ns.map V.int))) else if b∈ts then some (.tbl #[]) else none)=some u:=z;by_cases hb:b=a
   .rw[if_pos hb]at z;cases z;subst hb;exact ⟨ha,by rw[q0];exact hl,vs,_,rv,ha⟩
   .rw[if_neg hb]at z;by_cases hb2:b∈ts
    .rw[if_pos hb2]at z;cases z;exact hts b hb2
    .rw[if_neg hb2]at z;cases z
  .have z:(if b=a then some (HO.frz {cls:=.type "list",data:=.seq vs.toArray} (.lst (ns.map V.int))) else if b∈ts then some (.tbl #[]) else none)≠none:=z;by_cases hb:b=a
   .exact .inl hb
   .rw[if_neg hb]at z;by_cases hb2:b∈ts
    .exact .inr hb2
    .exact absurd (if_neg hb2) z
def walk_ofT{l:m8}{K:Params->B0}{CX:World->Qz}{sp:World->Sp}(hn:l.most=some n) (hn2:n<=sizeLine) (hdf:d.params.defaults=[]) (hr:Room k callerA)(hY:∀(w:World) (h:Heap),YP w h->(K w.params).In h/\∀P∈ts,h.get? P=some (L6 #[]))(hct:∀w:World,∀P∈ts,(K w.params).lookup P=none/\∃c,v4 (K w.params) c P=true)(F:∀(w:World) (mg:Str->Option Value) (fa:Addr) (h:Heap),(K w.params).In h->h.Ns mainGlobals mg->mg d.name=some (.ref fa) -> ∃fd:FuncData,(∀(s:Shared) (u:Value),BindsTo s fd ⟨[u],[]⟩ [(x,u)]) /\ ∀base:Heap,(K w.params).In base->base.Ns mainGlobals mg->FnOk l.prog w (K w.params) mg base (CX w) k fa fd [x] (sp w))(hsp:∀(w:World) (H:Hp) (a:Addr) (ns:Qa),ns.length<=n->kx ts H->SqL (K w.params) H a (ns.map V.int)->sp w [.ref a] H (λv _=>v=.bl true) λ_ _ _=>False)(hCX:∀(w:World) (H:Hp) (s:Shared) (e:Value) (s':Shared),CX w [] H s (λ_ _ _=>False) e s'->False):PySem.W.WalkO q loose XP YP l.row.toRowW d [] (λf vs=>PySem.call f vs):=by
 refine Att.attach_call hn hdf λw s₀ s₁ mg mb fa o pm cd doc a vs ns G Y ho hd hcd hmg hobj hints hlen hg=>?_;obtain⟨KX,hts⟩:=hY w _ Y;obtain⟨fd,hb,hF⟩:=F w mg fa _ KX G.T.g hmg;exact Vq KX hts (hct w) G.T.g G.T.b G.T.builtins G.T.nolimit G.T.bmain hg hobj hints (Z1 hlen hn2) hr hF hb (λH hO hS=>hsp w H a ns hlen hO hS) λH e s'=>hCX w H s₁ e s'
noncomputable def del(C:List Addr)(H:Hp):Hp:=λb=>if b∈C then none else H b
noncomputable def put(C:List Addr)(H H':Hp):Hp:=λb=>if b∈C then H b else H' b
def mK(h:b∈C):del C H b=none:=if_pos h
def tQ(h:b∉C):del C H b=H b:=if_neg h
def FJ(h:b∈C):put C H H' b=H b:=if_pos h
def cX(h:b∉C):put C H H' b=H' b:=if_neg h
def JK{o:HO}(h:del C H b=some o):b∉C/\H b=some o:=by
 by_cases z:b∈C
 .rw[mK z]at h;cases h
 .rw[tQ z]at h;exact ⟨z,h⟩
def Cels(C:List Addr)(H:Hp):Prop:=∀c∈C,∃o,H c=some (FX c o)
section
variable {P:Program}{w:World}{C fs:List Addr}
def Cels.ne(hc:Cels C H){b:Addr}{u:HO}(e:H b=some u)(n:∀c o,u≠FX c o):b∉C:=λz=>by obtain⟨o,q⟩:=hc b z;rw[e]at q;exact n b o (O1 q)
def Cels.nn(hc:Cels C H){b:Addr}(e:H b=none):b∉C:=λz=>by obtain⟨o,q⟩:=hc b z;rw[e]at q;cases q
def HOk.del(x:HOk P w H h)(hc:Cels C H):HOk P w (del C H) h:=λb u e=>by
 obtain⟨nb,e⟩:=JK e;refine (x b u e).stay (λ_ _ _ q=>q) (λd q=>?_) λd xs q=>?_
 .rw[tQ (hc.ne q λc o z=>by cases z)];exact q
 .rw[tQ (hc.ne q λc o z=>by cases z)];exact q
def ox(x:HOk P w H h)(hc:Cels C H)(u:Un fs [] (L2.del C H) H' h h'):Un fs [] H (put C H H') h h':=by
 have nb:∀{b:Addr},H b=none->b∉C/\L2.del C H b=none:=λe=>⟨hc.nn e,by rw[tQ (hc.nn e)];exact e⟩;refine ⟨λb o e n=>u.keep b o e (nb n).2,λb o e n=>u.slot b o e (nb n).2,λb o e n hx=>?_,u.there,λb xs e=>?_,λb o v e=>?_,λb ps e=>?_⟩
 .rw[cX (nb n).1];exact u.free b o e (nb n).2 hx
 .have z:=hc.ne e λc o z=>by cases z
  rw[cX z];exact u.tups b xs (by rw[tQ z];exact e)
 .by_cases z:b∈C
  .rw[FJ z];exact e
  .rw[cX z];exact u.frzs b o v (by rw[tQ z];exact e)
 .have z:=hc.ne e λc o z=>by cases z
  rw[cX z];exact u.tbls b ps (by rw[tQ z];exact e)
def BW(x:HOk P w H h)(hc:Cels C H)(u:Un fs [] (L2.del C H) H' h h'):∀c∈C,H' c=none:=λc hm=>by obtain⟨o,e⟩:=hc c hm;obtain⟨ho,_⟩:=(show ObjOk P w H h c (FX c o) from x c _ e);exact u.free c o ho (mK hm) (by simp)
def fD(x:HOk P w H h)(hc:Cels C H)(hf:∀c∈C,c∉fs)(u:Un fs [] (L2.del C H) H' h h')(y:HOk P w H' h'):HOk P w (put C H H') h':=λb v e=>by
 have no:=BW x hc u;have nt:∀{d:Addr}{o:HO},H' d=some o->d∉C:=λ{d o} q z=>by rw[no d z]at q;cases q
 by_cases z:b∈C
 .rw[FJ z]at e;obtain⟨o,q⟩:=hc b z;rw[q]at e;cases e;obtain⟨ho,_⟩:=(show ObjOk P w H h b (FX b o) from x b _ q);have h1:=u.keep b o ho (mK z) (hf b z) (by simp);exact ⟨h1,⟨_,h1⟩,⟨_,h1⟩,λh1 h2 ⟨o,e1⟩ k=>⟨o,k _ e1⟩⟩
 .rw[cX z]at e;refine (y b v e).stay (λ_ _ _ q=>q) (λd q=>?_) λd xs q=>?_
  .rw[cX (nt q)];exact q
  .rw[cX (nt q)];exact q
noncomputable def qx(C:List Addr)(os:Addr->Obj)(H:Hp):Hp:=put C (λc=>some (FX c (os c))) H
def CW(h:b∈C):qx C os H b=some (FX b (os b)):=FJ h
def XQ(h:b∉C):qx C os H b=H b:=cX h
def xy(x:HOk P w H h)(hn:∀c∈C,H c=none)(ho:∀c∈C,h.get? c=some (os c)):HOk P w (qx C os H) h:=λb v e=>by
 have nt:∀{d:Addr}{o:HO},H d=some o->d∉C:=λ{d o} q z=>by rw[hn d z]at q;cases q
 by_cases z:b∈C
 .rw[CW z]at e;cases e;have h1:=ho b z;exact ⟨h1,⟨_,h1⟩,⟨_,h1⟩,λh1 h2 ⟨o,e1⟩ k=>⟨o,k _ e1⟩⟩
 .rw[XQ z]at e;refine (x b v e).stay (λ_ _ _ q=>q) (λd q=>?_) λd xs q=>?_
  .rw[XQ (nt q)];exact q
  .rw[XQ (nt q)];exact q
def RC(hn:∀c∈C,H c=none)(ho:∀c∈C,h.get? c=some (os c))(hf:∀c∈C,c∉fs)(u:Un fs [] (qx C os H) H' h h')(y:HOk P w H' h'):Un fs [] H (L2.del C H') h h':=by
 have fz:∀c∈C,H' c=some (FX c (os c)):=λc hc=>u.frzs c _ _ (CW hc);have nt:∀{d:Addr}{o:HO},H d=some o->d∉C:=λ{d o} q z=>by rw[hn d z]at q;cases q
 refine ⟨λb o e n hb hx=>?_,λb o e n hb hx=>?_,λb o e n hx=>?_,u.there,λb xs e=>?_,λb o v e=>?_,λb ps e=>?_⟩
 .by_cases z:b∈C
  .have:=ho b z;rw[e]at this;cases this;exact (show ObjOk P w H' h' b (FX b (os b)) from y b _ (fz b z)).1
  .exact u.keep b o e (by rw[XQ z];exact n) hb hx
 .exact u.slot b o e (by rw[XQ λz=>hf b z hb];exact n) hb hx
 .by_cases z:b∈C
  .exact mK z
  .rw[tQ z];exact u.free b o e (by rw[XQ z];exact n) hx
 .rw[tQ (nt e)];exact u.tups b xs (by rw[XQ (nt e)];exact e)
 .rw[tQ (nt e)];exact u.frzs b o v (by rw[XQ (nt e)];exact e)
 .rw[tQ (nt e)];exact u.tbls b ps (by rw[XQ (nt e)];exact e)
end
theorem rU{F:α->β->Prop}:∀{l₁:List α}{l₂:List β},Paired F l₁ l₂->∀{i:Nat}{b:β},l₂[i]?=some b->∃a,l₁[i]?=some a/\F a b
 |_,_,.nil,i,b,e=>by simp at e
 |_,_,.cons r t,0,b,e=>by simp at e;subst e;exact ⟨_,rfl,r⟩
 |_,_,.cons r t,i+1,b,e=>by obtain⟨a,h1,h2⟩:=rU t (i:=i) (by simpa using e);exact ⟨a,by simpa using h1,h2⟩
theorem dZ{F:α->β->Prop}:∀{l₁:List α}{l₂:List β},Paired F l₁ l₂->∀{a:α},a∈l₁->∃b,F a b
 |_,_,.nil,_,e=>by cases e
 |_,_,.cons r t,a,e=>by
  rcases Y0.mp e with rfl|e
  .exact ⟨_,r⟩
  .exact dZ t e
theorem GJ{x:Str}{c:Addr}:∀{cl:List (Str×Addr)},(cl.map (·.1)).Nodup->(x,c)∈cl->cl.lookup x=some c
 |(y,d)::cl,nd,h=>by
  rw[E1,T3]at nd;rcases Y0.mp h with z|z
  .cases z;simp
  .have hne:x≠y:=λq=>nd.1 (J0.mpr ⟨(x,c),z,q⟩);rw[O3,show (x==y)=false from beq_eq_false_iff_ne.mpr hne];exact GJ nd.2 z
theorem DW{x:Str}{c:Addr}:∀{cl:List (Str×Addr)},(cl.map (·.2)).Nodup->(x,c)∈cl->(y,c)∈cl->x=y
 |(z,d)::cl,nd,h1,h2=>by
  rw[E1,T3]at nd;rcases Y0.mp h1 with e1|e1<;>rcases Y0.mp h2 with e2|e2
  .cases e1;cases e2;rfl
  .cases e1;exact (nd.1 (J0.mpr ⟨_,e2,rfl⟩)).elim
  .cases e2;exact (nd.1 (J0.mpr ⟨_,e1,rfl⟩)).elim
  .exact DW nd.2 e1 e2
end L2
namespace L3
open L2
noncomputable abbrev Wq(qual:Str)(sc:Scope)(cl:List (Str×Addr))(L f:Addr)(cd:Value):Env:=newEnv sc L mainGlobals cl (qual ++ ".<locals>.") (some f) cd none builtinsNs
noncomputable def ML(P:Program)(w:World)(K:Fg)(mg:Str->Option Value)(base:Heap)(N:List Str)(qual:Str)(sc:Scope)(cl:List (Str×Addr))(f:Addr)(cd:Value)(A:Around)(outer:List Env)(s:Shared)(H:Hp):Cx where
 prog:=P
 w:=w
 K:=K
 mg:=mg
 base:=base
 A:=A.deeper (Wq qual sc cl s.heap.objs.size f cd)
 N:=N
 s₀:=s
 H₀:=H
 env:=Wq qual sc cl s.heap.objs.size f cd
 outer:=outer
 stack:=Wq qual sc cl s.heap.objs.size f cd::outer
 ex:=[]
 fn:=λ_=>false
 calm:=true
 pn:=[]
 xe:=λ_ _=>False
structure LamSc(y:Str)(fr:List Str)(sc:Scope):Prop where
 kind:sc.kind=.function
 co:sc.isCoroutine=false
 gen:sc.isGenerator=false
 nc:∀z∈sc.names,z.2≠.cell
 par:sc.names.lookup y=some .local
 has:∀z∈sc.names,z.2=.free->z.1∈fr
 fre:∀x∈fr,sc.names.lookup x=some .free
 nd:fr.Nodup
def sx{K:Fg}{fr:List Str}{Q:VK} (S:LamSc y fr sc) (hcl:cl.map (·.1)=fr) (ndc:(cl.map (·.2)).Nodup) (hr:Room (k+1) A) (e0:Env0 P w K mg base A outer s H) (hf:H f=some (kJ f c qual ar body sc cl)) (hc:H c=some (FX c oc))(hq:∃vs t,oc.data=.fields vs/\vs[1]?=some (.str qual t)) (hcel:Paired (CelAt H) cl ws)(hb:∀(pm ctv u:Value),bindArgs (B8 "<lambda>" qual ar body sc cl pm (.ref c) ctv) ⟨[u],[]⟩=pure [(y,u)]) (r:RelV v u)(hbody:Room k (A.deeper (Wq qual sc cl s.heap.objs.size f (.ref c)))->∃t:TE,PE (ML P w K mg base (y::fr) qual sc cl f (.ref c) A outer s (del (cl.map (·.2)) H)) body t /\ t ((v::ws).map some) (del (cl.map (·.2)) H) λv H'=>(∀c∈cl.map (·.2),H' c=none)->Q v (put (cl.map (·.2)) H H')):codeAny (model P w) A (.call (.ref f) ⟨[u],[]⟩) (CR DX outer P w H s Q E0) s:=by
 obtain⟨⟨pm,ctv,ho⟩,_⟩:=(show ObjOk P w H s.heap f (kJ f c qual ar body sc cl) from e0.hok f _ hf);obtain⟨hoc,_⟩:=(show ObjOk P w H s.heap c (FX c oc) from e0.hok c _ hc);obtain⟨vs',t',hd,hv⟩:=hq;have lim:s.heap.NoLimit:=e0.mod.nolimit.keeps λb o e=>(e0.bs b o e).1;have hC:Cels (cl.map (·.2)) H:=λb hb=>by obtain⟨p,hp,rfl⟩:=J0.mp hb;obtain⟨v,o,u,e,_⟩:=dZ hcel hp;exact ⟨o,e⟩
 have hfs:∀c∈cl.map (·.2),c∉UV outer:=λc hc z=>by obtain⟨o,e⟩:=hC c hc;rw[e0.frf c z]at e;cases e
 have obj:∀{p:Str×Addr}{w:V},CelAt H p w->∃u,RelV w u/\s.heap.IsCell p.2 (some u):=λ{p w'} ⟨o,u,e,hd,r⟩=>by obtain⟨ho,_⟩:=(show ObjOk P w H s.heap p.2 (FX p.2 o) from e0.hok _ _ e);exact ⟨u,r,o,ho,hd⟩
 refine G8 hr.depth ho rfl S.co S.gen rfl ⟨c,oc,vs',t',rfl,hoc,hd,hv⟩ ?_;rw[hb pm ctv u];refine wpAny_pure (wpAny_newFunctionEnv S.nc (λx hx=>by rw[G1.mp hx];exact S.par) (λh' hns hsb=>?_) S.kind);have kp:∀b o,s.heap.get? b=some o->h'.get? b=some o:=λb o e=>by rw[hsb.2 b (N0 (u0 e))];exact i0 _ e
 refine ⟨lim.keeps kp,J8 ?_⟩;obtain⟨t,ht,hq⟩:=hbody (hr.deeper _);have nd1:(cl.map (·.1)).Nodup:=by rw[hcl];exact S.nd
 have noA:∀b:Addr,b∉([]:List Addr):=λb z=>by cases z
 have I:Inv (ML P w K mg base (y::fr) qual sc cl f (.ref c) A outer s (del (cl.map (·.2)) H)) [] ((v::ws).map some) (del (cl.map (·.2)) H) {s with heap:=h',toks:=s.toks+[(y,u)].length}:=by
  refine ⟨⟨e0.mod,S.kind,rfl,rfl,M0 _,λx z c h1 h2=>DW ndc (PySem.mem_of_lookup h1) (PySem.mem_of_lookup h2),λx hx=>?_,λx c z _=>(by cases z),λ_=>hr.hd,Around.frames_deeper e0.frames,.inr ⟨rfl,rfl⟩,λb z=>absurd z (noA b),λb o e=>⟨(e0.bs b o e).1,?_⟩,e0.bsz,λb _ _=>noA b,λb z=>absurd z (noA b),e0.funs,λb hb=>?_⟩,
    rfl,e0.bare,Un.kept kp,⟨_,hns,λi x v' h1 h2 h3=>?_⟩,λx c h=>?_,?_,λx c h=>?_,λp hp=>absurd (show p∈([]:List (Addr×Obj)) from hp) (by simp),(e0.hok.del hC).kept kp,?_⟩
  .have hx:sc.names.lookup x=some .cell\/sc.names.lookup x=some .free:=hx;rcases hx with hx|hx
   .exact absurd rfl (S.nc _ (PySem.mem_of_lookup hx))
   .have:=S.has _ (PySem.mem_of_lookup hx) rfl;rw[<-hcl]at this;obtain⟨p,hp,e⟩:=J0.mp this;have e:p.1=x:=e;exact ⟨p.2,GJ nd1 (by rw[<-e];exact hp)⟩
  .show del _ H b=none;rw[tQ (hC.nn (e0.bs b o e).2)];exact (e0.bs b o e).2
  .show del _ H b=none;rw[tQ (hC.nn (e0.frf b hb))];exact e0.frf b hb
  .cases i with
   |zero=>cases h1;cases h2;exact ⟨u,r,.inl ⟨S.par,by simp⟩⟩
   |succ i =>
    have h1:fr[i]?=some x:=h1;have h2:(ws.map some)[i]?=some (some v'):=h2;have h2:ws[i]?=some v':=by
     rw[Q0]at h2;cases e:ws[i]? with
     |none=>rw[e]at h2;cases h2
     |some a=>rw[e]at h2;cases h2;rfl
    obtain⟨p,hp,hce⟩:=rU hcel h2;rw[<-hcl,Q0,hp]at h1;cases h1;obtain⟨u',ru,hi⟩:=obj hce;exact ⟨u',ru,.inr ⟨.inr (S.fre p.1 (by rw[<-hcl];exact J0.mpr ⟨p,B1 hp,rfl⟩)),p.2,GJ nd1 (B1 hp),hi.keeps kp⟩⟩
  .obtain⟨w',hce⟩:=dZ hcel (PySem.mem_of_lookup h);obtain⟨u',_,hi⟩:=obj hce;exact ⟨_,hi.keeps kp⟩
  .exact (e0.hok.del hC).fresh (M0 _)
  .exact mK (J0.mpr ⟨(x,c),PySem.mem_of_lookup h,rfl⟩)
  .show (W5 some (v::ws)).length=(y::fr).length;have:=hcel.length;rw[q0,Y2,Y2,<-hcl,q0,this]
 refine wpAny_mono (ht [] _ _ _ _ I hq) (λu s' ⟨v,H',J,rv,q⟩=>?_) λe s' hs=>hs.elim;have un:Un (UV outer) [] (del (cl.map (·.2)) H) H' s.heap s'.heap:=J.base;exact ⟨v,put (cl.map (·.2)) H H',J.os,J.bare,ox e0.hok hC un,fD e0.hok hC hfs un J.hok,rv,q (BW e0.hok hC un)⟩
end L3
namespace L2
def gD(e:h.get? f=some (Q5 "<lambda>" qual ar body sc cl pm c ctv)):ObjOk P w H h f (kJ f c qual ar body sc cl):=⟨⟨pm,ctv,e⟩,⟨_,e⟩,λh1 h2 ⟨pm,ctv,e1⟩ k=>⟨pm,ctv,k _ e1⟩⟩
end L2
namespace L3
open L2
def GV(P:Addr)(x:Str)(ar:Arguments)(body:Expr)(sc:Scope)(cl:List (Str×Addr)):TE:=λ_ H Q=>∃ps,H P=some (.tbl ps)/\TriplesOk ps.toList /\
 (∀pos v,codeAmong pos ps.toList=some v->∃c o,v=.ref c/\H c=some (FX c o)/\nj x o) /\
 ∀(H':Hp) (ps':Array Value) (f c:Addr) (o:Obj),(∀b u,b≠P->H b=some u->H' b=some u)->H f=none->H' P=some (.tbl ps')->TriplesOk ps'.toList ->
  (∀pos v,codeAmong pos ps'.toList=some v->∃c o,v=.ref c/\H' c=some (FX c o)/\nj x o)->H' c=some (FX c o)->nj x o->H' f=some (kJ f c (x ++ ".<locals>.<lambda>") ar body sc cl)->Q (.ref f) H'
def iD(hcode:X.env.code=.ref c0)(hqual:X.env.qual ++ "<lambda>"=x ++ ".<locals>.<lambda>")(hC:v4 X.K c0 P=true)(hcl:closureFor sc X.env=pure cl) (hdef:defaultsOf ar X.env=([],[])):PE X (.Lambda ar body sc pos) (GV P x ar body sc cl):=by
 intro pins s σ H Q I ⟨ps,eP,tP,cP,h⟩;have hP:s.heap.get? P=some (L6 ps):=(show ObjOk X.prog X.w H s.heap P (.tbl ps) from I.hok P _ eP);have C:=L8 I.kIn hC;have hg:=I.ok.mod.glob.keeps I.bk;obtain⟨bm,ob,b1,b2,b3,b4,b5,b6⟩:=I.ok.mod.bm;have b3':=I.bk _ _ b3;have hgP:mainGlobals≠P:=λq=>by obtain⟨o,es,ep,e,hd,_⟩:=hg;rw[q,hP]at e;cases e;cases hd
 have hbP:bm≠P:=λq=>by rw[q,hP]at b3';cases b3';cases b4
 have hbG:bm≠mainGlobals:=λq=>by obtain⟨o,es,ep,e,hd,_⟩:=hg;rw[q,e]at b3';cases b3';rw[hd]at b6;cases b6
 have hB:s.heap.BuiltinsAt X.mg P:=⟨bm,ob,b1,b2,hbG,hbP,b3',b4,b5,b6⟩;refine PySem.W.kla_eval hdef ?_;rw[hqual];cases ec:codeAmong pos ps.toList with
 |some v =>
  obtain⟨c,o,rfl,hc,q⟩:=cP pos v ec;refine PySem.W.kla_makeFunctionHit (mg:=X.mg) hcl I.ok.glob hg hcode C hP tP ec hB λctv h' tk k hsz=>?_;have hf:H h'.objs.size=none:=I.hok.fresh hsz;have old:∀b u,H b=some u->DQ H h'.objs.size (kJ h'.objs.size c (x ++ ".<locals>.<lambda>") ar body sc cl) b=some u:=λb u e=>by rw[eQ (gQ e hf)];exact e
  refine ⟨.ref _,_,I.laid (a:=h'.objs.size) (o:=kJ h'.objs.size c (x ++ ".<locals>.<lambda>") ar body sc cl) (λb u e=>i0 _ (k b u e)) hsz (gD (v0 _ rfl)),rfl,?_⟩;refine h _ ps _ c o (λb u _ e=>old b u e) hf (old _ _ eP) tP (λpos v e=>?_) (old _ _ hc) q kQ;obtain⟨c,o,e1,e2,e3⟩:=cP pos v e;exact ⟨c,o,e1,old _ _ e2,e3⟩
 |none =>
  refine PySem.W.kla_makeFunction (mg:=X.mg) hcl I.ok.glob hg hcode C hP tP ec hgP hB λc ctv h' tk hx hge hlt hrec htb=>?_;obtain⟨c₂,oc,vs,t,e2,hoc,hd,hv⟩:=hrec;cases e2;have hsz:s.heap.objs.size<=h'.objs.size:=B4 (o4 hge hlt);have hc:H c=none:=I.hok.fresh hge;have hf:H h'.objs.size=none:=I.hok.fresh hsz;have ePc:P≠c:=gQ eP hc;have ePf:P≠h'.objs.size:=gQ eP hf;have ecf:c≠h'.objs.size:=N0 hlt;have old:∀b u,b≠P->H b=some u->DQ (DQ (DQ H P (.tbl (ps++#[rawInt pos.line,rawInt pos.col,.ref c]))) c (FX c oc)) h'.objs.size (kJ h'.objs.size c (x ++ ".<locals>.<lambda>") ar body sc cl) b=some u:=λb u n e=>by rw[eQ (gQ e hf),eQ (gQ e hc),eQ n];exact e
  have newP:DQ (DQ (DQ H P (.tbl (ps++#[rawInt pos.line,rawInt pos.col,.ref c]))) c (FX c oc)) h'.objs.size (kJ h'.objs.size c (x ++ ".<locals>.<lambda>") ar body sc cl) P=some (.tbl (ps++#[rawInt pos.line,rawInt pos.col,.ref c])):=by rw[eQ ePf,eQ ePc,kQ]
  have newC:DQ (DQ (DQ H P (.tbl (ps++#[rawInt pos.line,rawInt pos.col,.ref c]))) c (FX c oc)) h'.objs.size (kJ h'.objs.size c (x ++ ".<locals>.<lambda>") ar body sc cl) c=some (FX c oc):=by rw[eQ ecf,kQ]
  generalize hH:DQ (DQ (DQ H P (.tbl (ps++#[rawInt pos.line,rawInt pos.col,.ref c]))) c (FX c oc)) h'.objs.size (kJ h'.objs.size c (x ++ ".<locals>.<lambda>") ar body sc cl)=H' at old newP newC;have newF:H' h'.objs.size=some (kJ h'.objs.size c (x ++ ".<locals>.<lambda>") ar body sc cl):=by rw[<-hH,kQ]
  have kp:∀b u,b≠P->s.heap.get? b=some u->(h'.push (Q5 "<lambda>" (x ++ ".<locals>.<lambda>") ar body sc cl ((X.mg "__name__").getD .none) c ctv)).get? b=some u:=λb u n e=>i0 _ (hx b u n e);have nP:∀b,H b=none->b≠P:=λb n e=>by rw[e,eP]at n;cases n
  have un:Un X.fs [] H H' s.heap (h'.push (Q5 "<lambda>" (x ++ ".<locals>.<lambda>") ar body sc cl ((X.mg "__name__").getD .none) c ctv)):=by
   refine ⟨λb o e n _ _=>kp b o (nP b n) e,λb o e n _ _=>⟨o.slots,kp b o (nP b n) e⟩,λb o e n _=>?_,λb o e _=>?_,λb xs e=>old b _ (λz=>by rw[z,eP]at e;cases e) e,λb o u e=>old b _ (λz=>by rw[z,eP]at e;cases e) e,λb qs e=>?_⟩
   .have lt:=u0 e;rw[<-hH,eQ (N0 (L0 lt hsz)),eQ (N0 (L0 lt hge)),eQ (nP b n)];exact n
   .by_cases z:b=P
    .subst z;exact ⟨_,i0 _ htb⟩
    .exact ⟨_,kp b o z e⟩
   .by_cases z:b=P
    .subst z;rw[eP]at e;cases e;exact ⟨_,newP⟩
    .exact ⟨#[],by rw[old b _ z e];simp⟩
  have hok:HOk X.prog X.w H' (h'.push (Q5 "<lambda>" (x ++ ".<locals>.<lambda>") ar body sc cl ((X.mg "__name__").getD .none) c ctv)):=λb u e=>by
   by_cases zf:b=h'.objs.size
   .subst zf;rw[newF]at e;cases e;exact gD (v0 _ rfl)
   by_cases zc:b=c
   .subst zc;rw[newC]at e;cases e;have e1:=i0 (Q5 "<lambda>" (x ++ ".<locals>.<lambda>") ar body sc cl ((X.mg "__name__").getD .none) b ctv) hoc;exact ⟨e1,⟨_,e1⟩,⟨_,e1⟩,λh1 h2 ⟨o,e1⟩ k=>⟨o,k _ e1⟩⟩
   by_cases zp:b=P
   .subst zp;rw[newP]at e;cases e;exact i0 _ htb
   have e:H b=some u:=by rw[<-hH,eQ zf,eQ zc,eQ zp]at e;exact e
   refine (I.hok b u e).stay (λd v hd q=>kp d v (λz=>?_) q) (λd q=>old d _ (λz=>by rw[z,eP]at q;cases q) q) λd xs q=>old d _ (λz=>by rw[z,eP]at q;cases q) q;rcases hd with hd|hd
   .exact zp (hd.symm.trans z)
   .rw[z,eP]at hd;cases hd
  refine ⟨.ref _,H',I.un un hok,rfl,h H' _ _ c oc old hf newP (by rw[G2];exact TriplesOk_snoc _ _ _ _ tP) (λpos' v e=>?_) newC ⟨vs,t,hd,hv⟩ newF⟩;rw[G2]at e;rcases DG _ tP e with e|e
  .obtain⟨c1,o,e1,e2,e3⟩:=cP pos' v e;exact ⟨c1,o,e1,old _ _ (λz=>by rw[z,eP]at e2;cases e2) e2,e3⟩
  .exact ⟨c,oc,e,newC,⟨vs,t,hd,hv⟩⟩
def ux(sp:Sp)(cl:List (Str×Addr))(is:List Nat)(t:TA):TE:=λσ H Q=>∃ws:List V,(∀(j i:Nat) (v:V),is[j]?=some i->ws[j]?=some v->σ[i]?=some (some v))/\is.length=ws.length/\t σ H λvs H1=>(∀c∈cl.map (·.2),H1 c=none)->∀os:Addr->Obj,Paired (λp v=>∃u,(os p.2).data=.cell (some u)/\RelV v u) cl ws->sp vs (qx (cl.map (·.2)) os H1) (λv H2=>Q v (del (cl.map (·.2)) H2)) E0
theorem jD{F:α->β->Prop}:∀{l₁:List α}{l₂:List β},l₁.length=l₂.length->(∀(j:Nat) a b,l₁[j]?=some a->l₂[j]?=some b->F a b)->Paired F l₁ l₂
 |[],[],_,_=>.nil
 |a::l₁,b::l₂,hl,h=>.cons (h 0 a b rfl rfl) (jD (by simpa using hl) λj a b e1 e2=>h (j+1) a b (by simpa using e1) (by simpa using e2))
def pH{k:Nat}{x:Str}{ps:List Str}{sp:Sp}{p pos:Pos}{e:Expr}{es:List Expr}{t:TA}{is:List Nat}(C:Cal X.prog X.w X.K X.mg X.base k x ps sp)(hr:Room k X.A)(ha:PA X (e::es) t)
  (hcl:∀q∈cl,X.env.cells.lookup q.1=some q.2) (hk:∀q∈cl,X.env.kindOf q.1=some .cell) (hfn:∀x,X.fn x=true) (hex:X.ex=[]) (hi:is.map (λi=>X.N[i]?)=cl.map λq=>some q.1) (hg:Gl X x:=by rfl)
  (hdb:(x==("__debug__":Str))=false:=by decide) (he:starEach (e::es) X.env=(false,eval e X.env)::starEach es X.env:=by rfl) (hpl:(backTo pos (starEach es X.env)).any (·.1)=false:=by rfl) :
  PE X (.Call (.Name x p) (e::es) [] pos) (ux sp cl is t):=by
 obtain⟨f,fd,F,hm,hkp,hb⟩:=C.ex;intro pins s σ H Q I ⟨ws,hws,hlen,h⟩;have hil:is.length=cl.length:=by have:=congrArg J3 hi;simpa using this
 refine wpAny_Call_Name_kw (XV I hg hm ?_ hdb);refine S8 (h₀:=X.base) I.ok.mod.kin hkp (eX (ha pos pins s σ H _ I h) λus s1 ⟨vs,H1,I1,r,q⟩=>⟨I1.kIn,?_⟩) he hpl;have mem:∀c∈cl.map (·.2),∃x,X.env.cells.lookup x=some c/\X.env.kindOf x=some .cell:=λc hc=>by obtain⟨q,hq,rfl⟩:=J0.mp hc;exact ⟨q.1,hcl q hq,hk q hq⟩
 have hn:∀c∈cl.map (·.2),H1 c=none:=λc hc=>by obtain⟨x,e,_⟩:=mem c hc;exact I1.freeC x c e
 have above:∀c∈cl.map (·.2),X.s₀.heap.objs.size<=c:=λc hc=>by obtain⟨x,e,_⟩:=mem c hc;exact I1.ok.cab x c (hfn x) e
 have hfs:∀c∈cl.map (·.2),c∉UV X.stack:=λc hc z=>by
  obtain⟨x,e,_⟩:=mem c hc;rcases Y0.mp (I1.stkSub c z) with z|z
  .exact I1.cne x c e z
  .obtain⟨_,o,ho,_⟩:=I1.ok.funs.mem z;exact absurd (L0 (u0 ho) (above c hc)) (U2 _)
 have ho:∀c∈cl.map (·.2),s1.heap.get? c=some ((s1.heap.get? c).getD {cls:=.none,data:=.plain}):=λc hc=>by obtain⟨x,e,_⟩:=mem c hc;obtain⟨v,o,h1,_⟩:=I1.cell x c e;rw[h1];rfl
 have hp:Paired (λ(p:Str×Addr) v=>∃u,((s1.heap.get? p.2).getD {cls:=.none,data:=.plain}).data=.cell (some u)/\RelV v u) cl ws:=jD (by lia) λj q v h1 h2=>by
  have hq:=B1 h1;obtain⟨i,e1⟩:∃i,is[j]?=some i:=by
   have hj:j<is.length:=by rw[hil];exact (S0.mp h1).1
   exact ⟨_,A0 hj⟩
  have e2:X.N[i]?=some q.1:=by have:=congrArg (λl=>l[j]?) hi;simp only[Q0,e1,h1,M4]at this;exact O1 this
  obtain⟨m,_,hl⟩:=I1.loc;obtain⟨u,ru,lk⟩:=hl i q.1 v e2 (hws j i v e1 h2) (.inr (.inl (hk q hq)));rcases lk with⟨z,_⟩|⟨_,c,e3,o,e4,e5⟩
  .rw[hk q hq]at z;cases z
  .rw[hcl q hq]at e3;cases e3;exact ⟨u,by rw[e4];exact e5,ru⟩
 have h2:=q hn (λc=>(s1.heap.get? c).getD {cls:=.none,data:=.plain}) hp;have e0:=I1.env0;have e1:Env0 X.prog X.w X.K X.mg X.base X.A X.stack s1 (qx (cl.map (·.2)) (λc=>(s1.heap.get? c).getD {cls:=.none,data:=.plain}) H1) :=
  ⟨e0.frames,e0.mod,λb o eb=>⟨(e0.bs b o eb).1,by
    have nb:b∉cl.map (·.2):=λz=>absurd (L0 (u0 eb) (Z1 I1.ok.bsz (above b z))) (U2 _);rw[XQ nb];exact (e0.bs b o eb).2⟩,e0.bsz,e0.funs,λb hb=>by
    rw[XQ λz=>hfs b z hb];exact e0.frf b hb,xy e0.hok hn ho,e0.bare⟩;have hl:us.length=ps.length:=by rw[<-r.length];exact F.len _ _ _ _ h2
 refine wpAny_call (codeAny_mono (F.run X.A X.stack s1 _ ⟨us,[]⟩ us vs _ E0 hr e1 (by have:=hb s1 us I1.kIn (by rw[O2];exact hl);rw[O2]at this;exact this) r h2) λr s' hq=>?_);cases r with
 |error e=>exact False.elim hq
 |ok fl =>
  cases fl with
  |ret u=>obtain⟨v,H',os,bare,un,hok,rv,q⟩:=(show CE X.stack X.prog X.w _ s1 _ u s' from hq);exact I1.after ⟨v,_,os,bare,RC hn ho hfs un hok,hok.del (λc hc=>⟨_,un.frzs c _ _ (CW hc)⟩),rv,q⟩
  |next=>exact False.elim hq
  |brk=>exact False.elim hq
  |cont=>exact False.elim hq
structure VOk(P:Program)(w:World)(K:Fg)(mg:Str->Option Value)(base:Heap)(k:Nat)(sp:Sp):Prop where
 fn:∀v vs H Q,sp (v::vs) H Q E0->∃f c qual ar body sc cl,v=.ref f/\H f=some (kJ f c qual ar body sc cl)
 run:∀(A:Around) (outer:List Env) (s:Shared) (H:Hp) (f:Addr) (us:List Value) (vs:List V) (Q:VK),Room k A->Env0 P w K mg base A outer s H->Vals vs us->sp (.ref f::vs) H Q E0 ->
  codeAny (model P w) A (.call (.ref f) ⟨us,[]⟩) (CR DX outer P w H s Q E0) s
def vx{k i:Nat}{x:Str}{sp:Sp}{p pos:Pos}{e:Expr}{es:List Expr}{t:TA}(V:VOk X.prog X.w X.K X.mg X.base k sp)(hr:Room k X.A)(hx:PE X (.Name x p) (CZ i))(ha:PA X (e::es) t)
  (he:starEach (e::es) X.env=(false,eval e X.env)::starEach es X.env:=by rfl) (hpl:(backTo pos (starEach es X.env)).any (·.1)=false:=by rfl) :
  PE X (.Call (.Name x p) (e::es) [] pos) (wY sp [] E0 (qK (CZ i) t)):=by
 intro pins s σ H Q I h;obtain⟨v,hv,h⟩:=(show ∃v,σ[i]?=some (some v)/\t σ H λvs H1=>sp (v::vs++[]) H1 Q E0 from h);refine wpAny_Call_Name_kw (eX (hx pins s σ H (λv' H1=>v'=v/\H1=H) I ⟨v,hv,rfl,rfl⟩) λu s1 ⟨v',H1,I1,ru,q⟩=>?_);obtain⟨rfl,rfl⟩:=q;show wpAny (model X.prog X.w) X.A (callWith pos u [] (backTo pos (starEach (e::es) X.env)) []) (EP X pins σ Q) X.xe s1;rw[he];refine PySem.W.callWith_of (P:=λh=>∃o fd f,u=.ref f/\h.get? f=some o/\o.data=.func fd) (by show ((false||(backTo pos (starEach es X.env)).any (·.1))||false)=false;rw[hpl];rfl) (λh ⟨o,fd,f,e1,e2,e3⟩=>?_) (PySem.Calls.evalArgs_plain ?_)
 .subst e1;refine ⟨.frame,.inl rfl,(PySem.W.Looks.ld (part:=none) e2).andThen ?_⟩;rw[e3];exact .now
 .have ha:=ha pos pins s1 σ H1 _ I1 h;rw[he]at ha;refine eX ha λus s2 ⟨vs,H2,I2,r,q⟩=>?_;have q:sp (v'::vs++[]) H2 Q E0:=q;rw[O2]at q;obtain⟨f,c,qual,ar,body,sc,cl,rfl,hf⟩:=V.fn _ _ _ _ q;cases ru;obtain⟨⟨pm,ctv,ho⟩,_⟩:=(show ObjOk X.prog X.w H2 s2.heap f (kJ f c qual ar body sc cl) from I2.hok f _ hf);refine ⟨⟨_,_,f,rfl,ho,rfl⟩,?_⟩;refine wpAny_call (codeAny_mono (V.run X.A X.stack s2 H2 f us vs Q hr I2.env0 r q) λr s' hq=>?_);cases r with
  |error e=>exact False.elim hq
  |ok fl =>
   cases fl with
   |ret u=>exact I2.after hq
   |next=>exact False.elim hq
   |brk=>exact False.elim hq
   |cont=>exact False.elim hq
def SC(ρ:Ev)(is:List Nat)(es:List D):Prop:=is.map (λi=>ρ[i]?)=es.map λd=>some (some (Sl.fz d))
def EG(con:Con)(x:Str)(as:List AD)(is:List Nat):TD:=λρ Q=>∃es:List D,SC ρ is es/\nX as ρ λxs ρ1=>NQ ρ1 xs=false/\JQ ρ1 xs λds=>con ((ds++[dG x es]).map Sl.fz) λr _=>noMut r.d=true/\Q r ρ1
section
variable {K:Fg}{G:Gh}{F F':Hp}{σ:L2.St}
theorem qH{F G:α->β->Prop}:∀{l₁:List α}{l₂:List β},Paired F l₁ l₂->(∀a b,a∈l₁->F a b->G a b)->Paired G l₁ l₂
 |_,_,.nil,_=>.nil
 |_,_,.cons r t,f=>.cons (f _ _ R0 r) (qH t λa b h q=>f a b (K0 _ h) q)
theorem rH(R:Rel K G F σ H ρ):∀{is:List Nat}{es:List D},SC ρ is es->∃ws:List V,(∀(j i:Nat) (v:V),is[j]?=some i->ws[j]?=some v->σ[i]?=some (some v))/\is.length=ws.length/\DaAll K F ws es
 |[],[],_=>⟨[],λj i v e=>by simp at e,rfl,.nil⟩
 |[],_::_,h=>by cases h
 |_::_,[],h=>by cases h
 |i::is,d::es,h=>by
  unfold SC at h;rw[E1,E1]at h;injection h with h1 h2;obtain⟨v,e1,h1⟩:=R.fz i d h1;obtain⟨ws,g1,g2,g3⟩:=rH R (is:=is) (es:=es) h2;refine ⟨v::ws,λj i' v' e e'=>?_,by simp[g2],.cons h1 g3⟩;cases j with
  |zero=>simp at e e';subst e;subst e';exact e1
  |succ j=>exact g1 j i' v' (by simpa using e) (by simpa using e')
theorem HV{t:TE}:∀{as:List AD}{H:Hp}{Q:List V->Hp->Prop},(rQ (as.map (jQ K)) σ H λvs H1=>t σ H1 λv H2=>Q (vs++[v]) H2)->rQ (as.map (jQ K)++[t]) σ H Q
 |[],_,_,h=>h
 |a::as,H,Q,h=>by have h:jQ K a σ H λv H1=>rQ (as.map (jQ K)) σ H1 λvs H2=>t σ H2 λu H3=>Q (v::vs++[u]) H3:=h;exact MJ (a:=a) (λv H1 q=>HV (Q:=λvs H2=>Q (v::vs) H2) q) h
def kD{Q:VK}(hlam:yK K x=some (ar,body,sc))(hP:(P,x)∈TB K)(hPx:∀z∈TB K,z.1=P->z.2=x)(hfr:cl.map (·.1)=oj sc) (ndc:(cl.map (·.2)).Nodup) (h:lift K (EG con x as is) σ H Q):ux (dQ K con) cl is (rQ (as.map (jQ K)++[GV P x ar body sc cl])) σ H Q:=by
 obtain⟨G,F,ρ,Qd,R,⟨es,hes,w⟩,k⟩:=h;obtain⟨ws,hws,hlen,dws⟩:=rH R hes;refine ⟨ws,hws,hlen,HV ?_⟩;refine bX R w λvs H1 F1 xs ρ1 s1 R1 o w1=>?_;obtain⟨hl,w1⟩:=w1;obtain⟨ds,da,w1⟩:=jK (xs:=xs) R1 (λy hy=>hy) o w1;have el:PX σ ρ1 xs F1 H1=F1:=funext λb=>KZ λz=>by have:=aJ z;rw[hl]at this;cases this
 rw[el]at da;obtain⟨_,ps0,eP,tP,cP⟩:=R1.tb (P,x) hP;refine ⟨ps0,eP,tP,cP,λH2 ps' f c o kp hf nP nT nC nc nq nf=>?_⟩;intro hn os hp;generalize hC:cl.map (·.2)=C at hn ndc;have nin:∀{b:Addr}{u:HO},H2 b=some u->b∉C:=λ{b u} e z=>by rw[hn b z]at e;cases e
 have su:Sub F1 H2:=λb o e=>kp b o (λz=>by rw[z,(R1.tb (P,x) hP).1]at e;cases e) (R1.sub b o e);have ncf:c≠f:=λz=>by rw[z,nf]at nc;cases nc
 have tb2:TabOk K F1 H2:=λz hz=>by
  refine ⟨(R1.tb z hz).1,?_⟩;by_cases zp:z.1=P
  .rw[zp,hPx z hz zp];exact ⟨ps',nP,nT,nC⟩
  .obtain⟨_,qs,g1,g2,g3⟩:=R1.tb z hz;refine ⟨qs,kp _ _ zp g1,g2,λpos v e=>?_⟩;obtain⟨c',o',h1,h2,h3⟩:=g3 pos v e;exact ⟨c',o',h1,kp _ _ (λq=>by rw[q,eP]at h2;cases h2) h2,h3⟩
 obtain⟨F3,hF3⟩:∃F3,F3=qx C os (DQ (DQ F1 c (FX c o)) f (kJ f c (x ++ ".<locals>.<lambda>") ar body sc cl)):=⟨_,rfl⟩;have f3C:∀{b:Addr},b∈C->F3 b=some (FX b (os b)):=λz=>by rw[hF3];exact CW z
 have f3f:F3 f=some (kJ f c (x ++ ".<locals>.<lambda>") ar body sc cl):=by rw[hF3,XQ (nin nf),kQ]
 have f3c:F3 c=some (FX c o):=by rw[hF3,XQ (nin nc),eQ ncf,kQ]
 have f3o:∀{b:Addr},b∉C->b≠f->b≠c->F3 b=F1 b:=λz1 z2 z3=>by rw[hF3,XQ z1,eQ z2,eQ z3]
 have f1f:F1 f=none:=R1.f0 hf;have f1c:∀{u:HO},F1 c=some u->u=FX c o:=λe=>by have:=su _ _ e;rw[nc]at this;exact (O1 this).symm
 have sb3:Sub F1 F3:=λb u e=>by
  by_cases z:b=f
  .rw[z,f1f]at e;cases e
  by_cases z2:b=c
  .subst z2;rw[f1c e];exact f3c
  .rw[f3o (nin (su _ _ e)) z z2];exact e
 have su3:Sub F3 (qx C os H2):=λb u e=>by
  by_cases z1:b∈C
  .rw[f3C z1]at e;rw[CW z1];exact e
  rw[XQ z1];by_cases z:b=f
  .subst z;rw[f3f]at e;rw[nf];exact e
  by_cases z2:b=c
  .subst z2;rw[f3c]at e;rw[nc];exact e
  .rw[f3o z1 z z2]at e;exact su _ _ e
 have tn:∀z∈TB K,z.1≠f/\z.1≠c/\z.1∉C:=λz hz=>by obtain⟨_,qs,e,_⟩:=tb2 z hz;exact ⟨λq=>(by rw[q,nf]at e;cases e),λq=>(by rw[q,nc]at e;cases e),nin e⟩
 have tb3:TabOk K F3 (qx C os H2):=tb2.up (λa u _ e=>by rw[XQ (nin e)];exact e) λz hz=>by obtain⟨n1,n2,n3⟩:=tn z hz;rw[f3o n3 n1 n2];exact (tb2 z hz).1
 have lam:LamAt K F3 f x ws:=⟨c,o,ar,body,sc,cl,hlam,f3f,f3c,nq,hfr,by rw[hC];exact ndc,by
   have mem:∀p∈cl,p.2∈C:=λp hp=>by rw[<-hC];exact J0.mpr ⟨p,hp,rfl⟩
   exact qH hp λp v hm ⟨u,h1,h2⟩=>⟨os p.2,u,f3C (mem p hm),h1,h2⟩⟩;have daA:DaAll K F3 (vs++[.ref f]) (ds++[dG x es]):=(da.mono sb3).append (.cons (.lam lam (dws.mono (s1.trans sb3))) .nil);refine ⟨_,F3,_,_,zJ su3 tb3 daA,w1,λv H4 F4 r ρ' s' R' r' q=>?_⟩;obtain⟨nm,q⟩:=q;have h4C:∀{b:Addr},b∈C->H4 b=some (FX b (os b)):=λ{b} z=>R'.sub _ _ (R'.sub0 _ _ (f3C z));have kpp:∀{b:Addr}{u:HO},H2 b=some u->(∀z∈TB K,z.1≠b)->del C H4 b=some u:=λ{b u} e t=>by
  rw[tQ (nin e)];exact R'.keep b u (by show qx C os H2 b=some u;rw[XQ (nin e)];exact e) (λi z=>by cases z) t
 have h12:∀{b:Addr},H2 b=none->H1 b=none:=λ{b} e=>by
  cases q:H1 b with
  |none=>rfl
  |some u =>
   by_cases z:b=P
   .rw[z,nP]at e;cases e
   .rw[kp b u z q]at e;cases e
 obtain⟨D,hD⟩:∃D:List Addr,D=if F1 c=none then c::C else C:=⟨_,rfl⟩;have inD:∀{b:Addr},b∈D->b∈C\/(b=c/\F1 c=none):=λ{b} z=>by
  rw[hD]at z;split at z
  .rename_i e;rcases Y0.mp z with z|z
   .exact .inr ⟨z,e⟩
   .exact .inl z
  .exact .inl z
 have CD:∀{b:Addr},b∉D->b∉C/\(b=c->F1 c≠none):=λ{b} z=>by
  rw[hD]at z;split at z
  .exact ⟨λy=>z (K0 _ y),λy=>by rw[y]at z;exact (z R0).elim⟩
  .rename_i e;exact ⟨z,λ_=>e⟩
 have sb:Sub F1 (del D F4):=λb u e=>by
  have nb:b∉D:=λz=>by
   rcases inD z with z|⟨z,z2⟩
   .exact nin (su _ _ e) z
   .rw[z,z2]at e;cases e
  rw[tQ nb];exact R'.sub0 _ _ (sb3 _ _ e)
 refine k v (del C H4) (del D F4) r ρ1 (s1.trans sb) (R1.grown sb (λb u e=>?_) (λb u e=>?_) (λb u t e=>?_) λz hz=>?_) ?_ q
 .obtain⟨nb,e⟩:=JK e;rw[tQ (CD nb).1];exact R'.sub _ _ e
 .obtain⟨nb,e⟩:=JK e;obtain⟨n1,n2⟩:=CD nb;rcases R'.fn b u e with z|z
  .have z:F3 b=some u:=z;by_cases zf:b=f
   .exact .inr (by rw[zf];exact hf)
   by_cases zc:b=c
   .subst zc;cases e1:F1 b with
    |none=>exact (n2 rfl e1).elim
    |some u'=>rw[f3c]at z;rw[f1c e1];exact .inl z
   .rw[f3o n1 zf zc]at z;exact .inl z
  .have z:qx C os H2 b=none:=z;rw[XQ n1]at z;exact .inr (h12 z)
 .exact kpp (kp b u (Y1 (t (P,x) hP)) e) t
 .obtain⟨g0,qs,g1,g2,g3⟩:=R'.tb z hz;obtain⟨n1,n2,n3⟩:=tn z hz;refine ⟨?_,qs,by rw[tQ n3];exact g1,g2,λpos v e=>?_⟩
  .by_cases y:z.1∈D
   .exact mK y
   .rw[tQ y];exact g0
  .obtain⟨c',o',h1,h2,h3⟩:=g3 pos v e;have nc':c'∉C:=λy=>by
    have y2:=y;rw[<-hC]at y2;obtain⟨p,hpm,rfl⟩:=J0.mp y2;obtain⟨v',u',e1,_⟩:=dZ hp hpm;rw[h4C y]at h2;have:os p.2=o':=by injection h2 with h2;injection h2
    obtain⟨vs',t',e2,_⟩:=h3;rw[<-this,e1]at e2;cases e2
   exact ⟨c',o',h1,by rw[tQ nc'];exact h2,h3⟩
 .cases r with
  |io d=>exact r'.elim
  |ow d=>obtain⟨a,u,_,_,_,y,_⟩:=r';rw[show (Sl.ow d).d=d from rfl,iY y]at nm;cases nm
  |fz d =>
   refine Da.noMut (F:=F4) (λb ys e=>?_) r' nm;have nb:b∉D:=λz=>by
    rcases inD z with z|⟨z,_⟩
    .have:=R'.sub0 _ _ (f3C z);rw[e]at this;cases this
    .have:=R'.sub0 _ _ f3c;rw[<-z,e]at this;cases this
   rw[tQ nb];exact e
end
end L3
namespace L2
def FG{code:Value}{Q:Env->Shared->Prop}(hk:sc.kind=.function) (hy:sc.names.lookup y=some .cell) (hcf:∀n acc,cellsFrom n sc.names acc=(y,n)::acc) (hpc:∀h,pushCells h sc.names=h.push {cls:=.type "cell",data:=.cell none})(hQ:∀h' tk,h'.Ns s.heap.objs.size (λ_=>none)->h'.IsCell (s.heap.objs.size+1) (some u)->(∀b o,s.heap.get? b=some o->h'.get? b=some o) -> Q (newEnv sc s.heap.objs.size globals ((y,s.heap.objs.size+1)::cl) qual func code none builtins) {s with heap:=h',toks:=tk}):wpAny M A (newFunctionEnv sc globals cl [(y,u)] qual func code none builtins) Q E s:=by
 simp only[newFunctionEnv,Option.isSome_none,T1,if_false];refine wpAny_bind (wpAny_alloc ?_);refine wpAny_bind (wpAny_layCells _ (λname kind cells=>by cases hkc:kind==NameKind.cell<;>simp[hkc]) _ _ _ _ ?_);rw[hcf,hpc];have e1:(s.heap.push {cls:=.type "frame",data:=.dict #[]}).objs.size=s.heap.objs.size+1:=Z0 ..;have hn:((s.heap.push {cls:=.type "frame",data:=.dict #[]}).push {cls:=.type "cell",data:=.cell none}).Ns s.heap.objs.size (λ_=>none):=(Heap.Ns.new s.heap (.type "frame")).keeps λb o e=>i0 _ e;have hc:((s.heap.push {cls:=.type "frame",data:=.dict #[]}).push {cls:=.type "cell",data:=.cell none}).IsCell (s.heap.objs.size+1) none:=⟨_,by rw[<-e1];exact v0 _ rfl,rfl⟩;have kp:∀b o,s.heap.get? b=some o->((s.heap.push {cls:=.type "frame",data:=.dict #[]}).push {cls:=.type "cell",data:=.cell none}).get? b=some o:=λb o e=>i0 _ (i0 _ e);rw[U4];refine wpAny_bind (wpAny_bind (wpAny_bind (wpAny_storeName_cell (c:=s.heap.objs.size+1) hk (show (newEnv sc s.heap.objs.size globals ((y,(s.heap.push {cls:=.type "frame",data:=.dict #[]}).objs.size)::cl) qual func code none builtins).kindOf y=some .cell from hy) (by rw[e1];simp) hc λh' hc' hs'=>?_)));refine wpAny_pure ?_;dsimp only;rw[i5];refine wpAny_pure (wpAny_pure ?_);rw[e1];exact hQ h' _ (hn.sameBut hs' (N0 (S7 _))) hc' λb o e=>by rw[hs'.2 b (N0 (e6 (u0 e) (S7 _)))];exact kp b o e
end L2
namespace L3
open L2
structure LamSd(y:Str)(fr:List Str)(sc:Scope):Prop where
 kind:sc.kind=.function
 co:sc.isCoroutine=false
 gen:sc.isGenerator=false
 cell:sc.names.lookup y=some .cell
 only:∀z∈sc.names,z.2=.cell->z.1=y
 has:∀z∈sc.names,z.2=.free->z.1∈fr
 fre:∀x∈fr,sc.names.lookup x=some .free
 nd:fr.Nodup
 ny:y∉fr
 cf:∀n acc,cellsFrom n sc.names acc=(y,n)::acc
 pc:∀h,pushCells h sc.names=h.push {cls:=.type "cell",data:=.cell none}
def xx{K:Fg}{fr:List Str}{Q:VK} (S:LamSd y fr sc) (hcl:cl.map (·.1)=fr) (ndc:(cl.map (·.2)).Nodup) (hr:Room (k+1) A) (e0:Env0 P w K mg base A outer s H) (hf:H f=some (kJ f c qual ar body sc cl)) (hc:H c=some (FX c oc))(hq:∃vs t,oc.data=.fields vs/\vs[1]?=some (.str qual t)) (hcel:Paired (CelAt H) cl ws)(hb:∀(pm ctv u:Value),bindArgs (B8 "<lambda>" qual ar body sc cl pm (.ref c) ctv) ⟨[u],[]⟩=pure [(y,u)]) (r:RelV v u)(hbody:Room k (A.deeper (Wq qual sc ((y,s.heap.objs.size+1)::cl) s.heap.objs.size f (.ref c)))->∃t:TE,PE (ML P w K mg base (y::fr) qual sc ((y,s.heap.objs.size+1)::cl) f (.ref c) A outer s (del (cl.map (·.2)) H)) body t /\ t ((v::ws).map some) (del (cl.map (·.2)) H) λv H'=>(∀c∈cl.map (·.2),H' c=none)->Q v (put (cl.map (·.2)) H H')):codeAny (model P w) A (.call (.ref f) ⟨[u],[]⟩) (CR DX outer P w H s Q E0) s:=by
 obtain⟨⟨pm,ctv,ho⟩,_⟩:=(show ObjOk P w H s.heap f (kJ f c qual ar body sc cl) from e0.hok f _ hf);obtain⟨hoc,_⟩:=(show ObjOk P w H s.heap c (FX c oc) from e0.hok c _ hc);obtain⟨vs',t',hd,hv⟩:=hq;have lim:s.heap.NoLimit:=e0.mod.nolimit.keeps λb o e=>(e0.bs b o e).1;have hC:Cels (cl.map (·.2)) H:=λb hb=>by obtain⟨p,hp,rfl⟩:=J0.mp hb;obtain⟨v,o,u,e,_⟩:=dZ hcel hp;exact ⟨o,e⟩
 have hfs:∀c∈cl.map (·.2),c∉UV outer:=λc hc z=>by obtain⟨o,e⟩:=hC c hc;rw[e0.frf c z]at e;cases e
 have obj:∀{p:Str×Addr}{w:V},CelAt H p w->∃u,RelV w u/\s.heap.IsCell p.2 (some u):=λ{p w'} ⟨o,u,e,hd,r⟩=>by obtain⟨ho,_⟩:=(show ObjOk P w H s.heap p.2 (FX p.2 o) from e0.hok _ _ e);exact ⟨u,r,o,ho,hd⟩
 refine G8 hr.depth ho rfl S.co S.gen rfl ⟨c,oc,vs',t',rfl,hoc,hd,hv⟩ ?_;rw[hb pm ctv u];refine wpAny_pure (FG S.kind S.cell S.cf S.pc λh' tk hns hce kp=>?_);refine ⟨lim.keeps kp,J8 ?_⟩;obtain⟨t,ht,hq⟩:=hbody (hr.deeper _);have nd1:(cl.map (·.1)).Nodup:=by rw[hcl];exact S.nd
 have lk:∀{x:Str}{c:Addr},x∈fr->cl.lookup x=some c->((y,s.heap.objs.size+1)::cl).lookup x=some c:=λ{x c} hx h=>by rw[O3,show (x==y)=false from beq_eq_false_iff_ne.mpr λe=>S.ny (by rw[<-e];exact hx)];exact h
 have small:∀c∈cl.map (·.2),c<s.heap.objs.size:=λc hc=>by obtain⟨o,e⟩:=hC c hc;exact e0.hok.lt e
 have ndc':(((y,s.heap.objs.size+1)::cl).map (·.2)).Nodup:=by rw[E1,T3];exact ⟨λz=>absurd (small _ z) (Nat.not_lt_of_le (X5 _)),ndc⟩
 have noA:∀b:Addr,b∉([]:List Addr):=λb z=>by cases z
 have I:Inv (ML P w K mg base (y::fr) qual sc ((y,s.heap.objs.size+1)::cl) f (.ref c) A outer s (del (cl.map (·.2)) H)) [] ((v::ws).map some) (del (cl.map (·.2)) H) {s with heap:=h',toks:=tk}:=by
  refine ⟨⟨e0.mod,S.kind,rfl,rfl,M0 _,λx z c h1 h2=>DW ndc' (PySem.mem_of_lookup h1) (PySem.mem_of_lookup h2),λx hx=>?_,λx c z _=>(by cases z),λ_=>hr.hd,Around.frames_deeper e0.frames,.inr ⟨rfl,rfl⟩,λb z=>absurd z (noA b),λb o e=>⟨(e0.bs b o e).1,?_⟩,e0.bsz,λb _ _=>noA b,λb z=>absurd z (noA b),e0.funs,λb hb=>?_⟩,
    rfl,e0.bare,Un.kept kp,⟨_,hns,λi x v' h1 h2 h3=>?_⟩,λx c h=>?_,?_,λx c h=>?_,λp hp=>absurd (show p∈([]:List (Addr×Obj)) from hp) (by simp),(e0.hok.del hC).kept kp,?_⟩
  .have hx:sc.names.lookup x=some .cell\/sc.names.lookup x=some .free:=hx;rcases hx with hx|hx
   .have e:x=y:=S.only _ (PySem.mem_of_lookup hx) rfl;exact ⟨s.heap.objs.size+1,by show ((y,s.heap.objs.size+1)::cl).lookup x=_;rw[e];simp⟩
   .have:=S.has _ (PySem.mem_of_lookup hx) rfl;have hxf:=this;rw[<-hcl]at this;obtain⟨p,hp,e⟩:=J0.mp this;have e:p.1=x:=e;exact ⟨p.2,lk hxf (GJ nd1 (by rw[<-e];exact hp))⟩
  .show del _ H b=none;rw[tQ (hC.nn (e0.bs b o e).2)];exact (e0.bs b o e).2
  .show del _ H b=none;rw[tQ (hC.nn (e0.frf b hb))];exact e0.frf b hb
  .cases i with
   |zero=>cases h1;cases h2;exact ⟨u,r,.inr ⟨.inl S.cell,s.heap.objs.size+1,by show ((y,s.heap.objs.size+1)::cl).lookup y=_;simp,hce⟩⟩
   |succ i =>
    have h1:fr[i]?=some x:=h1;have h2:(ws.map some)[i]?=some (some v'):=h2;have h2:ws[i]?=some v':=by
     rw[Q0]at h2;cases e:ws[i]? with
     |none=>rw[e]at h2;cases h2
     |some a=>rw[e]at h2;cases h2;rfl
    obtain⟨p,hp,hce⟩:=rU hcel h2;rw[<-hcl,Q0,hp]at h1;cases h1;obtain⟨u',ru,hi⟩:=obj hce;exact ⟨u',ru,.inr ⟨.inr (S.fre p.1 (by rw[<-hcl];exact J0.mpr ⟨p,B1 hp,rfl⟩)),p.2,lk (by rw[<-hcl];exact J0.mpr ⟨p,B1 hp,rfl⟩) (GJ nd1 (B1 hp)),hi.keeps kp⟩⟩
  .rcases Y0.mp (PySem.mem_of_lookup (show ((y,s.heap.objs.size+1)::cl).lookup x=some c from h)) with z|z
   .cases z;exact ⟨_,hce⟩
   .obtain⟨w',hce'⟩:=dZ hcel z;obtain⟨u',_,hi⟩:=obj hce';exact ⟨_,hi.keeps kp⟩
  .exact (e0.hok.del hC).fresh (M0 _)
  .rcases Y0.mp (PySem.mem_of_lookup (show ((y,s.heap.objs.size+1)::cl).lookup x=some c from h)) with z|z
   .cases z;exact (e0.hok.del hC).fresh (X5 _)
   .exact mK (J0.mpr ⟨(x,c),z,rfl⟩)
  .show (W5 some (v::ws)).length=(y::fr).length;have:=hcel.length;rw[q0,Y2,Y2,<-hcl,q0,this]
 refine wpAny_mono (ht [] _ _ _ _ I hq) (λu s' ⟨v,H',J,rv,q⟩=>?_) λe s' hs=>hs.elim;have un:Un (UV outer) [] (del (cl.map (·.2)) H) H' s.heap s'.heap:=J.base;exact ⟨v,put (cl.map (·.2)) H H',J.os,J.bare,ox e0.hok hC un,fD e0.hok hC hfs un J.hok,rv,q (BW e0.hok hC un)⟩
def yy(k:OQ)(b:Bool):xK k≠.bool b:=by cases k<;>(intro z;cases z)
theorem Da.lam_inv{K:Fg}{F:Hp}{v:V}{x:Str}{es:List D}:∀{d:D},Da K F v d->d=dG x es->∃f ws,v=.ref f/\LamAt K F f x ws/\DaAll K F ws es
 |_,.non,e=>by cases e
 |_,.bl _,e=>by cases e
 |_,.int _,e=>by cases e
 |_,.str _,e=>by cases e
 |_,.lst _ _,e=>by cases e
 |_,.tup _ _,e=>by cases e
 |_,.dk _ t,e=>by
  cases t with
  |nil=>injection e with e;cases e
  |cons _ _=>injection e with e;injection e with e _;injection e with e _;exact (yy _ _ e).elim
 |_,.dt _ t,e=>by
  cases t with
  |nil=>injection e with e;cases e
  |cons _ _=>injection e with e;injection e with e _;injection e with e _;cases e
 |_,.scr _,e=>by injection e with e;injection e with e _;injection e with e _;cases e
 |_,.exc _,e=>by injection e with e;injection e with e _;injection e with _ e;cases e
 |_,.opq _,e=>by injection e with e;injection e with e _;injection e with e _;cases e
 |_,.pd _ _,e=>by injection e with e;injection e with e _;injection e with e _;cases e
 |_,.bd _ _,e=>by injection e with e;injection e with e _;injection e with e _;cases e
 |_,.lam h t,e=>by injection e with e;injection e with e _;injection e with _ e;injection e with e;injection e with e1 e2;injection e1 with e1;subst e1;subst e2;exact ⟨_,_,rfl,h,t⟩
def TC(tab:Str->Option TD):Con:=λargs Q=>∃x es d tb,args=[.fz (dG x es),.fz d]/\tab x=some tb/\noMut d=true/\noMutAll es=true/\tb (((d::es).map Sl.fz).map some) λr _=>noMut r.d=true/\∀o,Q r o
structure LamK(P:Program)(w:World)(K:Fg)(mg:Str->Option Value)(base:Heap)(k:Nat)(x:Str)(tb:TD):Prop where
 ex:∃y fr ar body sc,yK K x=some (ar,body,sc)/\oj sc=fr/\(LamSc y fr sc\/LamSd y fr sc) /\
  (∀(cl:List (Str×Addr)) (pm ctv:Value) (c:Addr) (u:Value),bindArgs (B8 "<lambda>" (x ++ ".<locals>.<lambda>") ar body sc cl pm (.ref c) ctv) ⟨[u],[]⟩=pure [(y,u)]) /\
  ∀(cl:List (Str×Addr)) (f c:Addr) (A:Around) (outer:List Env) (s:Shared) (H:Hp),Room k (A.deeper (Wq (x ++ ".<locals>.<lambda>") sc cl s.heap.objs.size f (.ref c))) ->
   WE (ML P w K mg base (y::fr) (x ++ ".<locals>.<lambda>") sc cl f (.ref c) A outer s H) body (lift K tb)
def ON{K:Fg}(h:∀x tb,tab x=some tb->LamK P w K mg base k x tb):VOk P w K mg base (k+1) (dQ K (TC tab)):=by
 refine ⟨λv vs H Q ⟨G,F,args,Qd,R,⟨x,es,d,tb,ha,_⟩,_⟩=>?_,λA outer s H f us vs Q hr e0 rv hsp=>?_⟩
 .subst ha;obtain⟨v',e,da⟩:=R.fz 0 _ rfl;cases e;obtain⟨f,ws,rfl,⟨c,o,ar,body,sc,cl,_,h2,_⟩,_⟩:=da.lam_inv rfl;exact ⟨f,c,_,ar,body,sc,cl,rfl,R.sub _ _ h2⟩
 .obtain⟨G,F,args,Qd,R,⟨x,es,d,tb,ha,htab,nd,nes,wt⟩,kk⟩:=hsp;subst ha;obtain⟨v,rfl⟩:∃v,vs=[v]:=by
   have:=R.len;simp at this;match vs,this with
   |[v],_=>exact ⟨v,rfl⟩
  obtain⟨_,e,da⟩:=R.fz 0 _ rfl;cases e;obtain⟨_,e,dav⟩:=R.fz 1 _ rfl;cases e;obtain⟨f',ws,e,⟨c,o,ar,body,sc,cl,h1,h2,h3,h4,h0,h5,h6⟩,dws⟩:=da.lam_inv rfl;cases e;obtain⟨y,fr,ar',body',sc',e1,hfr,S,hba,hb⟩:=(h x tb htab).ex;rw[h1]at e1;cases e1;obtain⟨u,rfl,ru⟩:=iZ rv;have cF:Cels (cl.map (·.2)) F:=λb hb=>by obtain⟨p,hp,rfl⟩:=J0.mp hb;obtain⟨v,o,u,e,_⟩:=dZ h6 hp;exact ⟨o,e⟩
  have cH:Cels (cl.map (·.2)) H:=λb hb=>by obtain⟨o,e⟩:=cF b hb;exact ⟨o,R.sub _ _ e⟩
  have cD:∀b∈cl.map (·.2),∀o,H b=some (FX b o)->∀vs,o.data≠.fields vs:=λb hb o' e' vs' z=>by obtain⟨p,hp,rfl⟩:=J0.mp hb;obtain⟨v,o,u,e,e2,_⟩:=dZ h6 hp;have e:=R.sub _ _ e;rw[e']at e;injection e with e;injection e with e;rw[e,e2]at z;cases z
  have go:lift K tb ((v::ws).map some) (del (cl.map (·.2)) H) λv H'=>(∀c∈cl.map (·.2),H' c=none)->Q v (put (cl.map (·.2)) H H'):=?_
  .rcases S with S|S
   .exact sx (k:=k) (ws:=ws) S (h0.trans hfr) h5 hr e0 (R.sub _ _ h2) (R.sub _ _ h3) h4 (Paired.mapP h6 λp v h=>h.mono R.sub) (λpm ctv u=>hba cl pm ctv c u) ru (λhr'=>⟨_,(hb cl f c A outer s _ hr').h,go⟩)
   .exact xx (k:=k) (ws:=ws) S (h0.trans hfr) h5 hr e0 (R.sub _ _ h2) (R.sub _ _ h3) h4 (Paired.mapP h6 λp v h=>h.mono R.sub) (λpm ctv u=>hba cl pm ctv c u) ru (λhr'=>⟨_,(hb ((y,s.heap.objs.size+1)::cl) f c A outer s _ hr').h,go⟩)
  generalize cl.map (·.2)=C at cF cH cD;have tp:∀b xs,F b=some (.tup xs)->del C F b=some (.tup xs):=λb xs e=>by rw[tQ (cF.ne e λc o z=>by cases z)];exact e
  have sub2:Sub (del C F) (del C H):=λb u e=>by obtain⟨nb,e⟩:=JK e;rw[tQ nb];exact R.sub _ _ e
  have tn:∀z∈TB K,z.1∉C:=λz hz=>by obtain⟨_,qs,e,_⟩:=R.tb z hz;exact cH.ne e λc o z=>by cases z
  have tb2:TabOk K (del C F) (del C H):=λz hz=>by
   obtain⟨g0,qs,g1,g2,g3⟩:=R.tb z hz;refine ⟨by rw[tQ (tn z hz)];exact g0,qs,by rw[tQ (tn z hz)];exact g1,g2,λpos v e=>?_⟩;obtain⟨c',o',k1,k2,k3⟩:=g3 pos v e;refine ⟨c',o',k1,?_,k3⟩;have nc:c'∉C:=λz=>by obtain⟨vs',t',k4,_⟩:=k3;exact cD c' z o' k2 vs' k4
   rw[tQ nc];exact k2
  refine ⟨_,del C F,_,_,zJ sub2 tb2 (.cons (Da.noMut tp dav nd) (DaAll.noMut tp dws nes)),wt,λv' H5 F5 r ρ' s5 R5 r5 q no=>?_⟩;obtain⟨nm,q⟩:=q;have nF:∀{b:Addr}{u:HO},F5 b=some u->b∉C:=λ{b u} e z=>by have:=R5.sub _ _ e;rw[no b z]at this;cases this
  have s5':Sub F5 (put C F F5):=λb u e=>by rw[cX (nF e)];exact e
  refine kk v' (put C H H5) (put C F F5) r _ ?_ (R.grown ?_ (λb u e=>?_) (λb u e=>?_) (λb u t e=>?_) λz hz=>?_) ?_ (q _)
  .intro b u e;by_cases z:b∈C
   .rw[FJ z];exact e
   .rw[cX z];exact s5 _ _ (by rw[tQ z];exact e)
  .intro b u e;by_cases z:b∈C
   .rw[FJ z];exact e
   .rw[cX z];exact s5 _ _ (by rw[tQ z];exact e)
  .by_cases z:b∈C
   .rw[FJ z]at e ⊢;exact R.sub _ _ e
   .rw[cX z]at e ⊢;exact R5.sub _ _ e
  .by_cases z:b∈C
   .rw[FJ z]at e;exact .inl e
   .rw[cX z]at e;rcases R5.fn b u e with y|y
    .have y:del C F b=some u:=y;rw[tQ z]at y;exact .inl y
    .have y:del C H b=none:=y;rw[tQ z]at y;exact .inr y
  .by_cases z:b∈C
   .rw[FJ z];exact e
   .rw[cX z];exact R5.keep b u (by show del C H b=some u;rw[tQ z];exact e) (λi z=>by cases z) t
  .obtain⟨g0,qs,g1,g2,g3⟩:=R5.tb z hz;refine ⟨by rw[cX (tn z hz)];exact g0,qs,by rw[cX (tn z hz)];exact g1,g2,λpos v e=>?_⟩;obtain⟨c',o',k1,k2,k3⟩:=g3 pos v e;refine ⟨c',o',k1,?_,k3⟩;rw[cX λz=>by rw[no c' z]at k2;cases k2];exact k2
  .cases r with
   |io d=>exact r5.elim
   |ow d=>obtain⟨a,u,_,_,_,y,_⟩:=r5;rw[show (Sl.ow d).d=d from rfl,iY y]at nm;cases nm
   |fz d=>exact Da.mono s5' r5
section
variable {K:Fg}{e e1 e2:Expr}{es:List Expr}{a b:AD}{as:List AD}{p pos:Pos}{x:Str}
def zy{k i:Nat}{con:Con}(V:VOk X.prog X.w X.K X.mg X.base k (dQ K con))(hr:Room k X.A)(hx:WE X (.Name x p) (jQ K (.inl i)))(ha:WA X (e::es) (rQ (as.map (jQ K))))(he:notStar e=true:=by rfl)(hpl:es.all notStar=true:=by rfl) :
  WE X (.Call (.Name x p) (e::es) [] pos) (lift K (xV con (.inl i::as))):=⟨Au (as:=.inl i::as) (vx V hr hx.h ha.h (starEach_of he) (AQ hpl))⟩
theorem Ay{k i:Nat}{g z:Str}{ps:List Str}{con:Con}{c0 P cz:Addr}{ar:Arguments}{lp:Pos}(hK:X.K=K)(C:Cal X.prog X.w X.K X.mg X.base k g ps (dQ K con))(hr:Room k X.A)
  (ha:WE X e1 (jQ K a)) (hb:WE X e2 (jQ K b)) (hcode:X.env.code=.ref c0) (hqual:X.env.qual ++ "<lambda>"=x ++ ".<locals>.<lambda>") (hC:v4 K c0 P=true) (hP:(P,x)∈TB K) (hPx:∀z∈TB K,z.1=P->z.2=x)
  (hlam:yK K x=some (ar,body,sc)) (hcl:closureFor sc X.env=pure [(z,cz)]:=by rfl) (hcz:X.env.cells.lookup z=some cz:=by rfl) (hkz:X.env.kindOf z=some .cell:=by rfl) (hfn:∀x,X.fn x=true:=by intro;rfl) (hex:X.ex=[]:=by rfl)
  (hi:X.N[i]?=some z:=by rfl) (hfr:oj sc=[z]:=by rfl) (hdef:defaultsOf ar X.env=([],[]):=by rfl) (hg:Gl X g:=by rfl) (hdb:(g==("__debug__":Str))=false:=by decide) (he:notStar e1=true:=by rfl) (he2:notStar e2=true:=by rfl) :
  WE X (.Call (.Name g p) [e1,e2,.Lambda ar body sc lp] [] pos) (lift K (EG con x [a,b] [i])):=by
 subst hK;have L:PE X (.Lambda ar body sc lp) (GV P x ar body sc [(z,cz)]):=iD hcode hqual hC hcl hdef;have A:PA X [e1,e2,.Lambda ar body sc lp] (rQ ([a,b].map (jQ X.K)++[GV P x ar body sc [(z,cz)]])):=WQ ha.h (WQ hb.h (WQ L DZ (starEach_of rfl)) (starEach_of he2)) (starEach_of he);have W:=pH (cl:=[(z,cz)]) (is:=[i]) (p:=p) (pos:=pos) C hr A (λq hq=>by rw[G1.mp hq];exact hcz) (λq hq=>by rw[G1.mp hq];exact hkz) hfn hex (by simp[hi]) hg hdb (starEach_of he) (AQ (by simp[he2];rfl));exact ⟨λpins s σ H Q I h=>W pins s σ H Q I (kD hlam hP hPx (by rw[hfr];rfl) (by simp) h)⟩
theorem yx{k i i2:Nat}{g z z2:Str}{ps:List Str}{con:Con}{c0 P cz cz2:Addr}{ar:Arguments}{lp:Pos}(hK:X.K=K)(C:Cal X.prog X.w X.K X.mg X.base k g ps (dQ K con))(hr:Room k X.A)
  (ha:WE X e1 (jQ K a)) (hb:WE X e2 (jQ K b)) (hcode:X.env.code=.ref c0) (hqual:X.env.qual ++ "<lambda>"=x ++ ".<locals>.<lambda>") (hC:v4 K c0 P=true) (hP:(P,x)∈TB K) (hPx:∀z∈TB K,z.1=P->z.2=x)
  (hlam:yK K x=some (ar,body,sc)) (hne:cz≠cz2) (hcl:closureFor sc X.env=pure [(z,cz),(z2,cz2)]:=by rfl) (hcz:X.env.cells.lookup z=some cz:=by rfl) (hkz:X.env.kindOf z=some .cell:=by rfl) (hcz2:X.env.cells.lookup z2=some cz2:=by rfl) (hkz2:X.env.kindOf z2=some .cell:=by rfl) (hfn:∀x,X.fn x=true:=by intro;rfl) (hex:X.ex=[]:=by rfl)
  (hi:X.N[i]?=some z:=by rfl) (hi2:X.N[i2]?=some z2:=by rfl) (hfr:oj sc=[z,z2]:=by rfl) (hdef:defaultsOf ar X.env=([],[]):=by rfl) (hg:Gl X g:=by rfl) (hdb:(g==("__debug__":Str))=false:=by decide) (he:notStar e1=true:=by rfl) (he2:notStar e2=true:=by rfl) :
  WE X (.Call (.Name g p) [e1,e2,.Lambda ar body sc lp] [] pos) (lift K (EG con x [a,b] [i,i2])):=by
 subst hK;have L:PE X (.Lambda ar body sc lp) (GV P x ar body sc [(z,cz),(z2,cz2)]):=iD hcode hqual hC hcl hdef;have A:PA X [e1,e2,.Lambda ar body sc lp] (rQ ([a,b].map (jQ X.K)++[GV P x ar body sc [(z,cz),(z2,cz2)]])):=WQ ha.h (WQ hb.h (WQ L DZ (starEach_of rfl)) (starEach_of he2)) (starEach_of he);have W:=pH (cl:=[(z,cz),(z2,cz2)]) (is:=[i,i2]) (p:=p) (pos:=pos) C hr A (λq hq=>by
   simp only[Y0,K5,or_false]at hq;rcases hq with rfl|rfl
   . exact hcz
   . exact hcz2) (λq hq=>by
   simp only[Y0,K5,or_false]at hq;rcases hq with rfl|rfl
   . exact hkz
   . exact hkz2) hfn hex (by simp[hi,hi2]) hg hdb (starEach_of he) (AQ (by simp[he2];rfl));exact ⟨λpins s σ H Q I h=>W pins s σ H Q I (kD hlam hP hPx (by rw[hfr];rfl) (by simp[hne]) h)⟩
end
noncomputable def By(K:Fg)(x:Str)(fd:FuncData):Bool:=match N8 K x with
 |some (c,P)=>(match fd.code with | .ref c'=>c'==c|_=>false)&&v4 K c P&&(TB K).all (λz=>z.1 != P||z.2==x)&&(TB K).any λz=>z.1==P&&z.2==x
 |none=>false
def Pu{K:Fg}(h:By K x fd=true):Lm K x fd:=by
 unfold By at h;split at h
 .rename_i c P e;simp only[N3]at h;obtain⟨⟨⟨h1,h2⟩,h3⟩,h4⟩:=h;refine ⟨c,P,?_,h2,?_,λz hz q=>?_⟩
  .split at h1
   .rename_i c' e1;rw[e1,beq_iff_eq.mp h1]
   .cases h1
  .obtain⟨z,hz,q⟩:=List.any_eq_true.mp h4;simp only[N3,beq_iff_eq]at q;have:z=(P,x):=Prod.ext q.1 q.2;rw[<-this];exact hz
  .have:=u4.mp h3 z hz;rw[q]at this;simpa using this
 .cases h
noncomputable def UC(K:Fg)(ts:List Addr):Bool:=(ts.all λP=>(K.lookup P).isNone&&lamN.any λx=>match N8 K x with
  |some (c,P')=>P'==P&&v4 K c P
  |none=>false)&&(TB K).all λz=>ts.contains z.1
def Qu{K:Fg}(h:UC K ts=true):(∀P∈ts,K.lookup P=none/\∃c,v4 K c P=true)/\∀z∈TB K,z.1∈ts:=by
 unfold UC at h;rw[N3]at h;refine ⟨λP hP=>?_,λz hz=>?_⟩
 .have:=u4.mp h.1 P hP;rw[N3]at this;refine ⟨Option.isNone_iff_eq_none.mp this.1,?_⟩;obtain⟨x,_,q⟩:=List.any_eq_true.mp this.2;split at q
  .rename_i c P' _;rw[N3]at q;exact ⟨c,q.2⟩
  .cases q
 .have:=u4.mp h.2 z hz;simpa using this
def walkT{l:m8}{K:Params->B0}(hc:∀ns:Qa,ns.length<=63->cLaw [.fz (VJ ns)] λr _=>r=.fz (.bool true)) (hr:Room k callerA) (hn:l.most=some 63) (hdf:d.params.defaults=[])(hY:∀(w:World) (h:Heap),YP w h->(K w.params).In h/\∀P∈ts,h.get? P=some (L6 #[])) (hts:∀w:World,UC (K w.params) ts=true)(F:∀(w:World) (mg:Str->Option Value) (fa:Addr) (h:Heap),(K w.params).In h->h.Ns mainGlobals mg->mg d.name=some (.ref fa) -> ∃fd:FuncData,(∀(s:Shared) (u:Value),BindsTo s fd ⟨[u],[]⟩ [(x,u)])/\∀base:Heap,(K w.params).In base->base.Ns mainGlobals mg->FnOk l.prog w (K w.params) mg base DX k fa fd [x] (dQ (K w.params) cLaw)):PySem.W.WalkO q loose XP YP l.row.toRowW d [] (λf vs=>PySem.call f vs):=by
 refine L2.walk_ofT (ts:=ts) (n:=63) (k:=k) (x:=x) (CX:=λ_=>DX) (sp:=λw=>dQ (K w.params) cLaw) hn (by decide) hdf hr hY (λw=>(Qu (hts w)).1) F (λw H a ns hl hO hS=>?_) λ_ _ _ _ _ z=>z;obtain⟨Fr,R⟩:=wy hS λz hz=>hO.2 _ ((Qu (hts w)).2 z hz);refine ⟨_,Fr,[.fz (VJ ns)],λr _=>r=.fz (.bool true),R,hc ns hl,λv H' F' r ρ' _ _ res e=>?_⟩;subst e;have res:Da (K w.params) F' v (.bool true):=res;cases res;rfl
end L3
namespace L2
open PySem.W
section
variable {X:Cx}{α:Type}[Inhabited α]{Rep:Hp->Addr->α->Prop}{fn:Hp->V->α}{lt:α->α->Bool}{κ:SortKind}
def sH(h:RelV (.ref c) u):u=.ref c:=h
noncomputable def HJ(fn:Hp->V->α)(H:Hp):Value->α
 | .ref c=>fn H (.ref c)
 |_=>default
def GG(W:SG.Wk lt)(hf:∀H c a,Rep H c a->fn H (.ref c)=a)(hkind:∀{pins:List (Addr×Obj)}{s:Shared}{σ:St}{H:Hp},Inv X pins σ H s->∀its:List Value,2<=its.length->(∀u∈its,∃c x,u=.ref c/\Rep H c x)->∀(s':Shared),(∀b o,s.heap.get? b=some o->s'.heap.get? b=some o)->∀(E:Value->Shared->Prop) (Q':SortKind->Shared->Prop),Q' κ s'->wpAny (model X.prog X.w) X.A.in1.in1 (keyKind' its.toArray) Q' E s')(hcmp:∀{pins:List (Addr×Obj)}{s:Shared}{σ:St}{H:Hp},Inv X pins σ H s->∀(c d:Addr) (x y:α),Rep H c x->Rep H d y->∀(s':Shared),(∀b o,s.heap.get? b=some o->s'.heap.get? b=some o)->∀Q':Bool->Shared->Prop,Q' (lt x y) s'->wpAny (model X.prog X.w) X.A.in1.in1 (keyLt' κ (.ref c) (.ref d)) Q' (λ_ _=>False) s'):fX X (.builtin "sorted") (qU X.K Rep fn lt):=by
 intro pins s σ H xs us Q I r h;obtain⟨a,vs,rfl,hs,hz,hrep,q⟩:=h;obtain⟨u,rfl,ru⟩:=iZ r;cases ru;obtain⟨its,rv,⟨o,n,e,c,d1,d2⟩,hz'⟩:=I.list hs;have hl:=rv.length;have at':∀u∈its,∃c x,u=.ref c/\Rep H c x:=λu hu=>by
  obtain⟨i,hi,rfl⟩:=K3 hu;have hi2:i<vs.length:=by lia
  obtain⟨c,x,hv,hr⟩:=hrep _ (N2 hi2);obtain⟨u,hu,ru⟩:=rv.get (A0 hi2);rw[hv]at ru;rw[A0 hi]at hu;have:its[i]=u:=O1 hu;rw[this];exact ⟨c,x,sH ru,hr⟩
 have key:∀x∈its,∀y∈its,decide ((its.map (HJ fn H)).countP (λa=>lt a (HJ fn H x))<(its.map (HJ fn H)).countP (λa=>lt a (HJ fn H y)))=lt (HJ fn H x) (HJ fn H y):=λx hx y hy=>SG.rank W (o7 hx) (o7 hy);refine Tq (κ:=κ) (rk:=λv=>(its.map (HJ fn H)).countP (λa=>lt a (HJ fn H v))) (vs:=its) ⟨o,e,c,n,by first|exact d2|exact d1⟩ (by lia) (λh2 s' k E' Q' q'=>?_) (λs' k x y hx hy Q' q'=>?_) (λout o1 o2=>?_)
 .exact hkind I its h2 at' s' k E' Q' q'
 .rw[key x hx y hy]at q';obtain⟨c,x',rfl,hx'⟩:=at' x hx;obtain⟨d,y',rfl,hy'⟩:=at' y hy;refine hcmp I c d x' y' hx' hy' s' k Q' ?_;have e1:HJ fn H (.ref c)=x':=hf H c x' hx';have e2:HJ fn H (.ref d)=y':=hf H d y' hy';rw[e1,e2]at q';exact q'
 .obtain⟨ep,he⟩:=sortedAll_at s.heap its out.toArray;have hn:H (s.heap.objs.size+1)=none:=I.hok.fresh (X5 _);obtain⟨us',p',r'⟩:=Uq o1 rv;refine ⟨.ref (s.heap.objs.size+1),DQ H (s.heap.objs.size+1) (.lst us'),I.laid (t':=s.toks) (λb u e=>sortedAll_old e) (X5 _) ?_,rfl,q _ us' hn p' ?_⟩
  .exact ⟨by rw[p'.length_eq];exact hz,out,ep,r',by rw[he]⟩
  .rw[x5,Q3];intro i j hi hj hij;have hl':=r'.length;have o3:=Q3.mp o2 i j (by lia) (by lia) hij;have hxm:out[i]'(by lia)∈its:=o1.mem_iff.mp (N2 _);have hym:out[j]'(by lia)∈its:=o1.mem_iff.mp (N2 _);have k2:=key _ hym _ hxm;rw[decide_eq_false (Q8.mpr o3)]at k2;have ev:∀(m:Nat) (hm:m<us'.length),fn H us'[m]=HJ fn H (out[m]'(by lia)):=λm hm=>by
    obtain⟨c,x,hv,hr⟩:=hrep _ (p'.mem_iff.mp (N2 hm));obtain⟨u,hu,ru⟩:=r'.get (A0 hm);rw[A0 (by lia)]at hu;have hu:out[m]'(by lia)=u:=O1 hu;rw[hv]at ru ⊢;rw[hu,sH ru];rfl
   rw[ev i hi,ev j hj];exact k2.symm
end
section
variable {w:World}
def Cy(b:Bool){n m:Int}{t u:Tok}{Q:Bool->Shared->Prop}{E:Value->Shared->Prop}(h:Q (decide (n<m)) s):wpAny (model prog w) A (oneLt' b (.int n t) (.int m u)) Q E s:=by
 cases b with
 |true=>exact oneLt_int h
 |false=>exact kat_one _ _ (lt_int h)
theorem tH{b:Bool}{Q:Bool->Shared->Prop}:∀{ns ms:Qa}{xs ys:List Value} (i:Nat),IntsAre xs ns->IntsAre ys ms->Q (HT.lexLt ns ms) s->KatLex prog w A b (decide (xs.length<ys.length)) Q (xs.zip ys) i s
 |_,_,_,_,i,.nil,.nil,h=>h
 |_,_,_,_,i,.nil,.cons m u r,h=>h
 |_,_,_,_,i,.cons n t r,.nil,h=>h
 |_,_,_,_,i,.cons (vs:=xs) (ns:=ns) n t r,.cons (vs:=ys) (ns:=ms) m u r',h=>by
  have e:decide ((v7 n t::xs).length<(v7 m u::ys).length)=decide (xs.length<ys.length):=by simp
  rw[e];rw[HT.lexLt_cons]at h;show KatLex prog w A b _ Q ((v7 n t,v7 m u)::xs.zip ys) i s;refine kat_cons (SeqAt.EqAt.int_int n t m u _ _ _ _ ?_);refine kat_go (λq=>kat_yes ?_) (λq=>kat_no ?_)
  .rw[if_pos (by simpa using q)]at h;exact tH (i+1) r r' h
  .rw[if_neg (by simpa using q)]at h;exact Cy _ h
end
def Xq(H:Hp)(c:Addr)(r:Qa):Prop:=H c=some (.tup (r.map V.int))/\r≠[]
noncomputable def zx(H:Hp):V->Qa
 | .ref c=>match H c with
  |some (.tup xs)=>xs.map AM
  |_=>[]
 |_=>[]
def sU(H:Hp)(c:Addr)(r:Qa)(h:Xq H c r):zx H (.ref c)=r:=by show (match H c with|some (.tup xs)=>xs.map AM|_=>[])=r;rw[h.1];exact nH r
def HG:fX X (.builtin "sorted") (qU X.K Xq zx HT.lexLt):=by
 refine GG (κ:=tuples' true) SG.lex_wk sU (λ{pins s σ H} I its h2 at' s' k E' Q' q'=>?_) (λ{pins s σ H} I c d x y hx hy s' k Q' q'=>?_)
 .have gen:∀(l:List Value),(∀v∈l,∃(c:Addr) (r:Qa),v=.ref c/\Xq H c r)->∃fs:List Value,KatTups s'.heap l fs/\fs.length=l.length/\∀v∈fs,Looks (model X.prog X.w) s'.heap (typeOf v) (.type "int"):=by
   intro l;induction l with
   |nil=>intro _;exact ⟨[],.nil,rfl,λv hv=>by simp at hv⟩
   |cons v l ih =>
    intro hl;obtain⟨fs,f1,f2,f3⟩:=ih λx hx=>hl x (K0 _ hx);obtain⟨c,r,rfl,hc,hr⟩:=hl v R0;obtain⟨_,itc,rc,ob,e1,e2,m,e3,_⟩:=(show ObjOk X.prog X.w H s.heap c (.tup (r.map V.int)) from I.hok c _ hc);cases r with
    |nil=>exact absurd rfl hr
    |cons n r =>
     rw[E1]at rc;cases rc with
     |cons h1 rc =>
      obtain⟨t,rfl⟩:=h1;refine ⟨.int n t::fs,.cons (k _ _ e1) e2 e3 rfl f1,by simp[f2],λv hv=>?_⟩;rcases Y0.mp hv with rfl|hv
      .exact Looks.of_pure rfl
      .exact f3 v hv
  obtain⟨fs,f1,f2,f3⟩:=gen its at';exact kat_kind (T:=.type "int") f1 (by lia) f3 (by decide) q'
 .obtain⟨_,ic,rc,oc,c1,c2,m1,c3,_⟩:=(show ObjOk X.prog X.w H s.heap c (.tup (x.map V.int)) from I.hok c _ hx.1);obtain⟨_,id',rd,od,d1,d2,m2,d3,_⟩:=(show ObjOk X.prog X.w H s.heap d (.tup (y.map V.int)) from I.hok d _ hy.1);refine kat_lt (k _ _ c1) c3 (k _ _ d1) d3 ?_;have:=tH (prog:=X.prog) (w:=X.w) (A:=X.A.in1.in1) (s:=s') (b:=true) (Q:=Q') 0 (FQ rc) (FQ rd) q';simpa using this
end L2
namespace L3
open L2
noncomputable def VC:D->(Sl->Prop)->Prop
 | .list ds,Q=>∃rows:List Qa,ds=rows.map (λr=>.tuple (r.map j0))/\rows.length<=sizeLine/\(∀r∈rows,r≠[])/\∀rows':List Qa,rows'.Perm rows->rows'.Pairwise (λa b=>HT.lexLt b a=false)->Q (.ow (.list (rows'.map λr=>.tuple (r.map j0))))
 |_,_=>False
theorem DaAll.mem{K:Fg}{F:Hp}:∀{us:List V}{ds:List D},DaAll K F us ds->∀v∈us,∃d∈ds,Da K F v d
 |_,_,.nil,v,h=>by simp at h
 |_,_,.cons a t,v,h=>by
  rcases Y0.mp h with rfl|h
  .exact ⟨_,R0,a⟩
  .obtain⟨d,h1,h2⟩:=DaAll.mem t v h;exact ⟨d,K0 _ h1,h2⟩
theorem DaAll.map_of{K:Fg}{F:Hp}{f:V->D}:∀{us:List V},(∀v∈us,Da K F v (f v))->DaAll K F us (us.map f)
 |[],_=>.nil
 |v::us,h=>.cons (h v R0) (DaAll.map_of λx hx=>h x (K0 _ hx))
theorem DaAll.map_eq{K:Fg}{F:Hp}{g:α->D}{f:V->α}(hg:∀v a,Da K F v (g a)->f v=a):∀{us:List V}{as:List α},DaAll K F us (as.map g)->us.map f=as
 |[],[],_=>rfl
 |_::_,[],h=>by cases h
 |[],_::_,h=>by cases h
 |v::us,a::as,h=>by
  cases h with
  |cons h t=>rw[E1,hg v a h,DaAll.map_eq hg t]
def IG{K:Fg}{r:Qa}(h:Da K F v (.tuple (r.map j0))):∃c,v=.ref c/\F c=some (.tup (r.map V.int)):=by
 cases h with
 |tup h t=>have:=t.ints_of;subst this;exact ⟨_,rfl,h⟩
def Ax{K:Fg}:UQ K (qU K Xq zx HT.lexLt) (o1 VC):=NF λG F σ H ρ x d Q Qd R h1 w k=>by
 cases d<;>first|exact w.elim|skip
 case list ds =>
  obtain⟨rows,e,hz,hne,w⟩:=w;subst e;obtain⟨a,us,rfl,e1,d1⟩:=h1.list R.sub;have hl:=d1.length;rw[q0]at hl;have hrep:∀v∈us,∃c r,v=.ref c/\Xq F c r/\r∈rows:=λv hv=>by obtain⟨d,hd,dv⟩:=d1.mem v hv;obtain⟨r,hr,rfl⟩:=J0.mp hd;obtain⟨c,rfl,hc⟩:=IG dv;exact ⟨c,r,rfl,⟨hc,hne r hr⟩,hr⟩
  have hfe:∀v∈us,zx H v=zx F v:=λv hv=>by obtain⟨c,r,rfl,hc,_⟩:=hrep v hv;rw[sU F c r hc,sU H c r ⟨R.sub _ _ hc.1,hc.2⟩]
  refine ⟨a,us,rfl,SqL.of e1,by lia,λv hv=>?_,λp us' hp p' o'=>?_⟩
  .obtain⟨c,r,rfl,hc,_⟩:=hrep v hv;exact ⟨c,r,rfl,R.sub _ _ hc.1,hc.2⟩
  .have em:us.map (zx F)=rows:=by
    refine DaAll.map_eq (K:=K) (F:=F) (g:=λr:Qa=>A1 (r.map j0)) (λv a h=>?_) d1;obtain⟨c,rfl,hc⟩:=IG h;show (match F c with|some (.tup xs)=>xs.map AM|_=>[])=a;rw[hc];exact nH a
   have ee:us'.map (zx H)=us'.map (zx F):=M3 λv hv=>hfe v (p'.mem_iff.mp hv);rw[ee]at o';have dall:DaAll K F us' ((us'.map (zx F)).map λr=>A1 (r.map j0)):=by rw[O0];refine DaAll.map_of λv hv=>?_;obtain⟨c,r,rfl,hc,_⟩:=hrep v (p'.mem_iff.mp hv);show Da K F (.ref c) (.tuple ((zx F (.ref c)).map j0));rw[sU F c r hc];exact .tup hc.1 (DaAll.ints r)
   obtain⟨R',r'⟩:=R.newOw (o:=.lst us') (d:=.list _) hp dall;exact k _ _ F _ (Sub.refl _) R' r' (w _ (by rw[<-em];exact p'.map _) o')
def uH{K:Fg}(h:X.K=K):fX X (.builtin "sorted") (qU K Xq zx HT.lexLt):=by subst h;exact HG
end L3
namespace L2
def JG(K:B0):List V->Hp->VK->Prop:=λxs H Q=>∃(x:V) (p:Addr),xs=[x,.ref p]/\(∃u,H p=some (.frz mH u)) /\
 ((∃a ys,x=.ref a/\SqL K H a ys/\Q (.bl true) H)\/(∃a ys,x=.ref a/\SqT K H a ys/\Q (.bl true) H)\/(((∃i,x=.int i)\/(∃b,x=.bl b)\/∃t,x=.str t)/\Q (.bl false) H))
def KG:fX X (.builtin "isinstance") (JG X.K):=by
 intro pins s σ H xs us Q I r h;obtain⟨x,p,rfl,⟨u,hp⟩,h⟩:=h;obtain⟨u1,u2,rfl,r1,r2⟩:=vY r;cases r2;have hpt:s.heap.get? p=some mH:=(show ObjOk X.prog X.w H s.heap p (.frz mH u) from I.hok p _ hp).1;rcases h with⟨a,ys,rfl,hs,q⟩|⟨a,ys,rfl,hs,q⟩|⟨h,q⟩
 .cases r1;obtain⟨its,rv,⟨o,n,e,c,d1,d2⟩,hz⟩:=I.list hs;have ht:s.TypeIs (.ref a) "list":=⟨o,e,c⟩;exact call_isinstance (isinstance_tuple (Tx:="list") (tp:=p) (cs:=[.type "list",.type "tuple"]) (vs:=[true,false])
    ⟨Answers.of_true (MQ .lst) (OX .lst .lst),Answers.of_false_list (bK .lst .tup (by decide)) (MQ .tup) (OX .lst .tup),trivial⟩) ⟨ht,hpt,λtk=>⟨.bl true,H,I.tok _,rfl,q⟩⟩
 .cases r1;obtain⟨its,_,⟨o,e,c,_⟩,_⟩:=I.tuple hs;have ht:s.TypeIs (.ref a) "tuple":=⟨o,e,c⟩;exact call_isinstance (isinstance_tuple (Tx:="tuple") (tp:=p) (cs:=[.type "list",.type "tuple"]) (vs:=[false,true])
    ⟨Answers.of_false_tuple (bK .tup .lst (by decide)) (MQ .lst) (OX .tup .lst),Answers.of_true (MQ .tup) (OX .tup .tup),trivial⟩) ⟨ht,hpt,λtk=>⟨.bl true,H,I.tok _,rfl,q⟩⟩
 .rcases h with⟨i,rfl⟩|⟨b,rfl⟩|⟨t,rfl⟩
  .obtain⟨t,rfl⟩:=r1;exact call_isinstance (isinstance_tuple (Tx:="int") (tp:=p) (cs:=[.type "list",.type "tuple"]) (vs:=[false,false])
     ⟨Answers.of_false_int (bK .int .lst (by decide)) (MQ .lst) (OX .int .lst),Answers.of_false_int (bK .int .tup (by decide)) (MQ .tup) (OX .int .tup),trivial⟩) ⟨typeIs_int _ _ _,hpt,λtk=>⟨.bl false,H,I.tok _,rfl,q⟩⟩
  .cases r1;exact call_isinstance (isinstance_tuple (Tx:="bool") (tp:=p) (cs:=[.type "list",.type "tuple"]) (vs:=[false,false])
     ⟨Answers.of_false_bool (bK .bl .lst (by decide)) (MQ .lst) (OX .bl .lst),Answers.of_false_bool (bK .bl .tup (by decide)) (MQ .tup) (OX .bl .tup),trivial⟩) ⟨PySem.typeIs_bool _ _,hpt,λtk=>⟨.bl false,H,I.tok _,rfl,q⟩⟩
  .obtain⟨t',rfl⟩:=r1;exact call_isinstance (isinstance_tuple (Tx:="str") (tp:=p) (cs:=[.type "list",.type "tuple"]) (vs:=[false,false])
     ⟨Answers.of_false_str (bK .str .lst (by decide)) (MQ .lst) (OX .str .lst),Answers.of_false_str (bK .str .tup (by decide)) (MQ .tup) (OX .str .tup),trivial⟩) ⟨PySem.typeIs_str _ _ _,hpt,λtk=>⟨.bl false,H,I.tok _,rfl,q⟩⟩
end L2
namespace L3
open L2
noncomputable def Dx:D->(Sl->Prop)->Prop
 | .list _,Q=>Q (.fz (.bool true))
 | .tuple _,Q=>Q (.fz (.bool true))
 | .int _,Q=>Q (.fz (.bool false))
 | .bool _,Q=>Q (.fz (.bool false))
 | .str _,Q=>Q (.fz (.bool false))
 |_,_=>False
def Ex{K:Fg}:UQ K (λvs H Q=>∃x,vs=[x]/\∀p,H p=none->JG K [x,.ref p] (DQ H p (.frz mH (.tup [.ty "list",.ty "tuple"]))) Q) (o1 Dx):=NF λG F σ H ρ x d Q Qd R h1 w k=>by
 have fin:∀(b:Bool) (p:Addr),H p=none->Qd (.fz (.bool b))->Q (.bl b) (DQ H p (.frz mH (.tup [.ty "list",.ty "tuple"]))):=λb p hp w=>k _ _ F (.fz _) (Sub.refl _) (R.laid hp) (Da.bl _) w;cases d<;>first|exact w.elim|skip
 case bool b=>cases h1.bool;exact ⟨_,rfl,λp hp=>⟨_,p,rfl,⟨_,kQ⟩,.inr (.inr ⟨.inr (.inl ⟨_,rfl⟩),fin _ p hp w⟩)⟩⟩
 case int b=>cases h1.int;exact ⟨_,rfl,λp hp=>⟨_,p,rfl,⟨_,kQ⟩,.inr (.inr ⟨.inl ⟨_,rfl⟩,fin _ p hp w⟩)⟩⟩
 case str b=>cases h1.str;exact ⟨_,rfl,λp hp=>⟨_,p,rfl,⟨_,kQ⟩,.inr (.inr ⟨.inr (.inr ⟨_,rfl⟩),fin _ p hp w⟩)⟩⟩
 case list ds=>obtain⟨a,us,rfl,e1,d1⟩:=h1.list R.sub;exact ⟨_,rfl,λp hp=>⟨_,p,rfl,⟨_,kQ⟩,.inl ⟨a,us,rfl,SqL.of (by rw[eQ (gQ e1 hp)];exact e1),fin _ p hp w⟩⟩⟩
 case tuple ds=>obtain⟨a,us,rfl,_,e1,d1⟩:=h1.tuple R.sub;exact ⟨_,rfl,λp hp=>⟨_,p,rfl,⟨_,kQ⟩,.inr (.inl ⟨a,us,rfl,SqT.of (by rw[eQ (gQ e1 hp)];exact e1),fin _ p hp w⟩)⟩⟩
section
variable {K:Fg}{e1:Expr}{a:AD}{p pos p2 p3 p4:Pos}
def lD{k:Nat}(hK:X.K=K)(hm:X.mg "isinstance"=none)(hm1:X.mg "list"=none)(hm2:X.mg "tuple"=none)(ha:WE X e1 (jQ K a))(hg:Gl X "isinstance":=by rfl)(hg1:Gl X "list":=by rfl)(hg2:Gl X "tuple":=by rfl)(he:notStar e1=true:=by rfl) :
  WE X (.Call (.Name "isinstance" p) [e1,.Tuple [.Name "list" p2,.Name "tuple" p3] k p4] [] pos) (lift K (eY [a] (o1 Dx))):=by
 subst hK;exact ⟨yY (sK KG hg hm boot_isinstance (WQ ha.h (WQ (HC hm1 hm2 hg1 hg2) DZ (starEach_of rfl)) (starEach_of he)) (by decide) (by decide) (starEach_of he) (AQ rfl)) λq=>TU (P:=λx H1=>∀p,H1 p=none->JG X.K [x,.ref p] (DQ H1 p (.frz mH (.tup [.ty "list",.ty "tuple"]))) _) (XW Ex q)⟩
end
end L3
namespace L2
def Fx(hh:A.handled=none){k:Kd}{it l:Addr}(ne:l≠it){xs:Array Value}:Draws P w A it [it,l] xs.size (λi x=>xs[i]?=some x) (λi h=>ItAt k h it l i/\SqAt k h l xs) where
 live:=λi h st=>by obtain⟨o,e,_⟩:=st.1.obj;exact ⟨o,e⟩
 frame:=λi h h' st kp=>⟨st.1.at λo e=>kp it (by simp) o e,st.2.at λo e=>kp l (by simp) o e⟩
 item:=λi s Q E hi st hQ=>by refine TQ st.1 st.2 (v3 hi) λh' t' s'=>?_;exact hQ _ h' s.toks (v3 hi) ⟨t',st.2.at λo e=>(s'.2 l ne).trans e⟩ s'
 done:=λs Q E st hE=>sX hh st.1 st.2 (by simp) hE
noncomputable def PN(K:B0)(k:Kd)(l:Addr):It :=
 ⟨λi H=>∃ys x,Sq k K H l ys/\ys[i]?=some x,
  λi H x H'=>∃T y,H T=none/\x=.ref T/\H'=DQ H T (.tup [.int (i:Nat),y])/\∀ys,Sq k K H l ys->ys[i]?=some y,
  λi H=>∃ys,Sq k K H l ys/\ys.length<=i⟩
def Yq{K:B0}(k:Kd)(e it l:Addr)(ne:e≠it)(nl:l≠it)(nel:e≠l):Turn P w K (.Tuple es kk pos) (PN K k l) [e,it] e (λi h=>(∃old,IsEnum h e it (i:Nat) old)/\ItAt k h it l i) where
 mem:=by simp
 obj:=λi h st b hb=>by
  obtain⟨⟨old,he⟩,t⟩:=st;have hb:b=e\/b=it:=by simpa using hb
  rcases hb with rfl|rfl
  .exact ⟨_,he,λv e=>by cases e⟩
  .exact t.obj
 keep:=λi h h' st kp=>by obtain⟨⟨old,he⟩,t⟩:=st;exact ⟨⟨old,kp _ (by simp) _ he⟩,t.at λo e=>kp _ (by simp) _ e⟩
 item:=by
  intro X hP hw hK hc i pins s σ H E I hf st hg;subst hP hw hK;obtain⟨⟨old,he⟩,t⟩:=st;obtain⟨ys,y,q1,e1⟩:=hg;obtain⟨its,rv,p1,z1⟩:=I.sq q1;obtain⟨u,hu,ru⟩:=rv.get e1;have hh:X.A.in1.handled=none:=I.ok.hd hc;have hlt:i<its.toArray.size:=by have:=(S0.mp hu).1;simpa using this
  refine wpAny_pyNext_enum_itemD (Fx hh nl (k:=k) (xs:=its.toArray)) he ⟨t,p1⟩ hlt ne (by simp[ne,nel]) λx h' tk hx b1 b2 b3 b4 b5=>?_;have hx:x=u:=by rw[show its.toArray[i]?=some u by simpa using hu]at hx;exact (O1 hx).symm
  subst hx;have hTn:s.heap.objs.size≠e:=N1 (u0 he);refine ⟨_,rfl,wpAny_letOwnedTupleGo_enum (s:={s with heap:=h',toks:=tk+1}) b1 λh2 he2 hs2=>?_⟩;have kp:∀b o,b∉[e,it]->s.heap.get? b=some o->h2.get? b=some o:=λb o hb eb=>by
   have hb:b≠e/\b≠it:=by simpa using hb
   exact hs2.extBut _ _ hb.1 (b5 b o hb.1 hb.2 eb)
  have hT2:lQ h2 s.heap.objs.size (.int (i:Nat) tk) x:=hs2.extBut _ _ hTn b3;have hfr:H s.heap.objs.size=none:=I.hok.fresh (M0 _);have I2:Inv X pins σ (DQ H s.heap.objs.size (.tup [.int (i:Nat),y])) {s with heap:=h2}:=by
   have nfp:∀b u,H b=some u->b∉[e,it]:=λb u eb hb=>by have:=(hf b hb).1;rw[eb]at this;cases this
   refine I.step (g':=s.gens) (d':=s.drawn) (ch:=[e,it]) (λb hb=>?_) (λb o _ _ hc' eb _=>kp b o hc' eb) (λb o _ _ hc' eb _=>⟨o.slots,kp b o hc' eb⟩) (λb o _ eb n=>?_)
    (λb o hc' eb=>⟨o,kp b o hc' eb⟩) (λb xs eb=>?_) (λb o xs eb=>?_) (λb ps eb=>⟨#[],?_⟩) (λm hm=>?_) (λb o eb=>?_) I.bare
   .obtain⟨f0,f1,f2,f3,f4,f5⟩:=hf b hb;exact ⟨f3,f1,f4,f5⟩
   .rw[eQ (N0 (u0 eb))];exact n
   .rw[eQ (gQ eb hfr)];exact eb
   .rw[eQ (gQ eb hfr)];exact eb
   .rw[eQ (gQ eb hfr),eb];simp
   .obtain⟨o,es',ep,ho,r⟩:=hm;exact ⟨o,es',ep,kp _ o (λhb=>(hf _ hb).2.1 rfl) ho,r⟩
   .by_cases hb:b=s.heap.objs.size
    .subst hb;rw[kQ]at eb;cases eb;exact ⟨by show 2<=sizeLine;decide,[.int (i:Nat) tk,x],.cons ⟨tk,rfl⟩ (.cons ru .nil),_,hT2,rfl,_,rfl,rfl⟩
    .rw[eQ hb]at eb;refine (I.hok b o eb).stay (λc v hc' q=>kp c v ?_ q) (λc q=>by rw[eQ (gQ q hfr)];exact q) λc xs q=>by rw[eQ (gQ q hfr)];exact q
     rcases hc' with rfl|hc'
     .exact nfp _ _ eb
     .exact nfp _ _ hc'
  refine ⟨.ref s.heap.objs.size,_,I2.tok (tk+1),rfl,⟨_,y,hfr,rfl,rfl,λys' hy=>by rw[I.sq_inj hy q1];exact e1⟩,⟨⟨x,by simpa using he2⟩,b2.1.at λo eo=>hs2.extBut _ _ (Y1 ne) eo⟩,λb hb=>?_⟩;rw[eQ ?_]
  .exact (hf b hb).1
  .intro z;subst z;have hb:s.heap.objs.size=e\/s.heap.objs.size=it:=by simpa using hb
   rcases hb with z|z
   .exact hTn z
   .obtain⟨o,eo,_⟩:=t.obj;exact N1 (u0 eo) z
 done:=by
  intro X hP hw hK hc i pins s σ H E I hf st hg;subst hP hw hK;obtain⟨⟨old,he⟩,t⟩:=st;obtain⟨ys,q1,hend⟩:=hg;obtain⟨its,rv,p1,z1⟩:=I.sq q1;have hlen:=rv.length;have hh:X.A.in1.handled=none:=I.ok.hd hc;have hT:s.TypeIs (.ref e) "enumerate":=⟨_,he,rfl⟩;unfold pyNext;refine wpAny_bind (wpAny_attempt (wpAny_callSpecial?_slot (name:=Str.ofString "__next__") hT F.slot_enumerate_next (wpAny_call_entry F.slot_enumerate_next hT F.entry_enumerate_next ?_ (F.args_enumerate_next_1 _))));show wpAny _ _ (field (.ref e) 2 >>= _) _ _ _;refine wpAny_bind (wpAny_field he rfl (x:=.ref it) rfl ?_);refine wpAny_bind (sX hh t p1 (by simp;lia) λh' x kp hx'=>?_);obtain⟨o,ho,hcl⟩:=hx';refine wpAny_bind (wpAny_isInstance (T:="StopIteration") (b:=true) ⟨o,ho,hcl⟩ isSubtype_stop ?_);refine wpAny_pure ⟨rfl,?_⟩;have nfp:∀b u,H b=some u->b∉[e,it]:=λb u eb hb=>by have:=(hf b hb).1;rw[eb]at this;cases this
  have kp':∀b o,b∉[e,it]->s.heap.get? b=some o->h'.get? b=some o:=λb o hb eb=>by
   have hb:b≠e/\b≠it:=by simpa using hb
   exact kp b o hb.2 eb
  refine I.step (g':=s.gens) (d':=s.drawn) (ch:=[e,it]) (λb hb=>?_) (λb o _ _ hc' eb _=>kp' b o hc' eb) (λb o _ _ hc' eb _=>⟨o.slots,kp' b o hc' eb⟩) (λb o _ eb n=>n)
   (λb o hc' eb=>⟨o,kp' b o hc' eb⟩) (λb xs eb=>eb) (λb o xs eb=>eb) (λb ps eb=>⟨#[],by rw[eb];simp⟩) (λm hm=>?_) (λb o eb=>?_) I.bare
  .obtain⟨f0,f1,f2,f3,f4,f5⟩:=hf b hb;exact ⟨f3,f1,f4,f5⟩
  .obtain⟨o,es',ep,ho,r⟩:=hm;exact ⟨o,es',ep,kp' _ o (λhb=>(hf _ hb).2.1 rfl) ho,r⟩
  .refine (I.hok b o eb).stay (λc v hc' q=>kp' c v ?_ q) (λ_ q=>q) λ_ _ q=>q;rcases hc' with rfl|hc'
   .exact nfp _ _ eb
   .exact nfp _ _ hc'
 self:=λ_ _ _ _ _ st h=>by obtain⟨⟨old,he⟩,_⟩:=st;exact wpAny_pyIter_enum he h
noncomputable abbrev NL(h:Heap)(k:Kd)(l:Addr):Heap:=(h.push (iX k l)).push {cls:=.type "enumerate",data:=.fields #[.none,.bool false,.ref h.objs.size,rawInt 0,.none,.none]}
def Gx(k:Kd)(l:Addr)(xs:Array Value):Meets (Builtin.«enumerate.__new__» ⟨[.type "enumerate",.ref l],[]⟩) (λ_ R s=>SqAt k s.heap l xs/\R (.ok (.ret (.ref (s.heap.push (iX k l)).objs.size))) {s with heap:=NL s.heap k l}):=
 .of_wp λprog w A R s h=>by
  obtain⟨hp,g,d,tk,os⟩:=s;obtain⟨hl,h⟩:=h;have hsub:=sub_enumerate;have hL:SqAt k (Shared.heap ⟨hp,g,d,tk,os⟩) l xs:=hl;obtain⟨o,ho⟩:∃o,hp.get? l=some o:=by cases k<;>(obtain⟨o,eo,_⟩:=hl;exact ⟨o,eo⟩)
  wp_walk using AutoSeq1.wpAny_loadPart' ho
  refine wpAny_stack_any λst=>wpAny_pure ?_;split
  .rename_i c _ _ _ _ _;cases (c==B5 "enumerate")
   .wp_walk using AutoSeq1.wpAny_loadPart' ho,uK hL
    exact ⟨_,rfl,h⟩
   .wp_walk using AutoSeq1.wpAny_loadPart' ho,uK hL
    exact ⟨_,rfl,h⟩
  .wp_walk using AutoSeq1.wpAny_loadPart' ho,uK hL
   exact ⟨_,rfl,h⟩
def Ru(K:B0)(ta:TA):TI:=λσ H R=>ta σ H λvs H1=>∃(k:Kd) (l:Addr) (ys:List V),vs=[.ref l]/\Sq k K H1 l ys/\R (PN K k l) H1
def Dy{es:List Expr}{kk:Nat}{tpos:Pos}{a:Expr}{ta:TA}{p pos:Pos}(hg:Gl X "enumerate")(hm:X.mg "enumerate"=none)(ha:PA X [a] ta)(hs:starEach [a] X.env=(false,eval a X.env)::starEach [] X.env:=by rfl)(hpl:(backTo pos (starEach [] X.env)).any (·.1)=false:=by rfl) :
  PI X (.Tuple es kk tpos) (.Call (.Name "enumerate" p) [a] [] pos) (Ru X.K ta):=by
 intro pins s σ H R I h;refine Call_ (UX I hg hm boot_enumerate (S1 (eX (ha pos pins s σ H _ I h) λus s1 ⟨vs,H1,I1,r1,q1⟩=>?_) hs hpl));obtain⟨k,l,ys,e,q1,q⟩:=q1;subst e;obtain rfl:us=[.ref l]:=by cases r1 with|cons r rr=>cases r;cases rr;rfl
 obtain⟨its,rv,p1,z1⟩:=I1.sq q1;have lt:l<s1.heap.objs.size:=by
  cases k with
  |l=>obtain⟨o,e,_⟩:=p1;exact u0 e
  |t=>obtain⟨o,e,_⟩:=p1;exact u0 e
 refine callType_new F.called_enumerate (by decide) (F.typeCall_enumerate_1 _) (F.newCall_enumerate_1 _) (λobj=>F.args_object_init_2 obj _) F.entry_enumerate_new (Gx k l its.toArray) ⟨p1,?_⟩;have zI:(s1.heap.push (iX k l)).objs.size=s1.heap.objs.size+1:=by simp[Z0]
 have gE:(NL s1.heap k l).get? (s1.heap.push (iX k l)).objs.size=some _:=v0 _ rfl;have g1:(NL s1.heap k l).get? s1.heap.objs.size=some (iX k l):=i0 _ (v0 _ (by cases k<;>rfl));rw[zI]at gE;show _/\_;rw[zI];have kp:∀b o,s1.heap.get? b=some o->(NL s1.heap k l).get? b=some o:=λb o e=>i0 _ (i0 _ e);refine ⟨⟨_,gE,rfl⟩,wpAny_pyIter_enum (s:={s1 with heap:=NL s1.heap k l}) gE ?_⟩;have n1:(s1.heap.objs.size+1:Nat)≠s1.heap.objs.size:=by lia
 have n2:l≠s1.heap.objs.size:=N0 lt;have n3:(s1.heap.objs.size+1:Nat)≠l:=N1 (E4 lt);refine ⟨_,[s1.heap.objs.size+1,s1.heap.objs.size],_,_,H1,rfl,I1.kept (t':=s1.toks) kp,Yq k _ _ l n1 n2 n3,⟨⟨_,gE⟩,ItAt.new k g1⟩,λb hb=>?_,q⟩;have hb:s1.heap.objs.size<=b:=by
  have hb:b=s1.heap.objs.size+1\/b=s1.heap.objs.size:=by simpa using hb
  rcases hb with rfl|rfl
  .exact E2 _ _
  .exact M0 _
 exact I1.fpOk hb (I1.hok.fresh hb)
end L2
namespace L3
open L2
noncomputable def vZ(ds:List D):List D:=ds.zipIdx.map λp=>A1 [.int (p.2:Nat),p.1]
noncomputable def Hx(a:AD):UU:=λρ Q=>nX [a] ρ λxs ρ1=>match NQ ρ1 xs with
 |false=>JQ ρ1 xs λds=>match ds with
  |[x]=>match kY x with
   |some us=>Q (vZ us) ρ1
   |_=>False
  |_=>False
 |true=>False
def LG{K:Fg}(e1:F a=some (match k1 with|Kd.l=>HO.lst xs|Kd.t=>HO.tup xs))(h1:DaAll K F xs ds):Walks K (PN K k1 a) F (vZ ds):=λi H F1 s1 s2=>by
 have q1:Sq k1 K H a xs:=cK (s2 _ _ (s1 _ _ e1));refine ⟨λd ed=>?_,λhl=>⟨xs,q1,?_⟩⟩
 .simp only[vZ,Q0,G3]at ed;obtain⟨⟨x,j⟩,ez,rfl⟩:=ed;rw[e7,G3]at ez;obtain⟨x',ex,ep⟩:=ez;cases ep;obtain⟨v,g1,g2⟩:=h1.get ex;refine ⟨⟨xs,v,q1,g1⟩,λz H' ⟨T,y,hT,ex,eH,f1⟩=>?_⟩;subst ex eH;have f1:=f1 xs q1;rw[g1]at f1;cases f1;have fT:F1 T=none:=by
   cases z:F1 T with
   |none=>rfl
   |some o=>rw[s2 _ _ z]at hT;cases hT
  refine ⟨DQ F1 T (.tup [.int (i:Nat),v]),Sub.new fT,λc o ec=>?_,λc o ec=>?_,Sub.new hT,.tup kQ (.cons (by rw[J6];exact .int _) (.cons (g2.mono (s1.trans (Sub.new fT))) .nil))⟩
  .by_cases z:c=T
   .subst z;exact .inr hT
   .rw[eQ z]at ec;exact .inl ec
  .by_cases z:c=T
   .subst z;rw[kQ]at ec ⊢;exact ec
   .rw[eQ z]at ec ⊢;exact s2 _ _ ec
 .simp only[vZ,q0,N5]at hl;rw[h1.length];lia
def XC{K:Fg}(h:kX K (Hx a) σ H R):Ru K (rQ ([a].map (jQ K))) σ H R:=by
 obtain⟨G,F,ρ,Qd,Rl,w,k⟩:=h;refine bX Rl w λvs H' F' xs ρ' sb R' o w1=>?_;split at w1
 .rename_i e;obtain⟨ds,da,w1⟩:=RQ R' e o w1;split at w1
  .rename_i x;split at w1
   .rename_i us p1;cases da with
    |cons d1 t=>cases t;obtain⟨k1,a1,us',rfl,e1,g1⟩:=CK d1 p1;exact ⟨k1,a1,us',rfl,cK (R'.sub _ _ e1),k _ H' F' _ ρ' sb R' (LG e1 g1) w1⟩
   .exact w1.elim
  .exact w1.elim
 .exact w1.elim
section
variable {K:Fg}{e1:Expr}{a:AD}{p pos tpos:Pos}
def Ix{ts:List Expr}(hK:X.K=K)(hm:X.mg "enumerate"=none)(ha:WA X [e1] (rQ ([a].map (jQ K))))(hg:Gl X "enumerate":=by rfl)(he:notStar e1=true:=by rfl):WI X (.Tuple ts kk tpos) (.Call (.Name "enumerate" p) [e1] [] pos) (kX K (Hx a)):=by subst hK;exact ⟨cC (Dy hg hm ha.h (starEach_of he) (by rfl)) XC⟩
end
noncomputable def YC(neg:Bool):D->D->(Sl->Prop)->Prop
 | .int i,y,Q=>∃ns:Qa,kY y=some (ns.map j0)/\Q (.fz (.bool (if neg then !decide (i∈ns) else decide (i∈ns))))
 |_,_,_=>False
theorem EW(i:Int):∀ns:Qa,sI (.int i) (ns.map V.int)=decide (i∈ns)
 |[]=>by simp[sI]
 |n::ns=>by
  have:=EW i ns;simp only[sI,E1,S5]at this ⊢;rw[this,O5];simp[Sw];constructor
  .rintro (rfl|h)
   .exact .inl rfl
   .exact .inr h
  .rintro (rfl|h)
   .exact .inl rfl
   .exact .inr h
def IV(ns:Qa):(ns.map V.int).all tK=true:=by rw[u4];intro x hx;obtain⟨n,_,rfl⟩:=J0.mp hx;rfl
def Jx{K:Fg}(neg:Bool):UQ K (GY (aN K neg)) (o2 (YC neg)):=Dj λG F σ H ρ x y d e Q Qd R h1 h2 w k=>by
 cases d<;>first|exact w.elim|skip
 rename_i i;obtain⟨ns,p1,w⟩:=w;cases h1.int;have fin:∀b,b=decide (i∈ns)->Q (.bl (if neg then !b else b)) H:=λb hb=>by subst hb;exact k _ H F (.fz _) (Sub.refl _) R (Da.bl _) w
 cases e<;>first|cases p1|skip
 .obtain⟨a,us,rfl,e1,d1⟩:=h2.list R.sub;have:=d1.intsV;subst this;exact ⟨a,_,rfl,.inl (SqL.of e1),rfl,IV ns,fin _ (EW i ns)⟩
 .obtain⟨a,us,rfl,_,e1,d1⟩:=h2.tuple R.sub;have:=d1.intsV;subst this;exact ⟨a,_,rfl,.inr (SqT.of e1),rfl,IV ns,fin _ (EW i ns)⟩
section
variable {K:Fg}{e1 e2:Expr}{a b:AD}{pos:Pos}
def Kx(hK:X.K=K):OpR X (compareOp .In) (aN K false):=by subst hK;exact fq
def OL(hK:X.K=K)(ha:WE X e1 (jQ K a))(hb:WE X e2 (jQ K b))(hm:behindInMarks .In e2=false:=by rfl):WE X (.Compare e1 [.In] [e2] pos) (lift K (eY [a,b] (o2 (YC false)))):=⟨gC (Jx false) (uF (Kx hK) ha.h hb.h hm)⟩
def Su(hK:X.K=K)(ha:WE X e1 (jQ K a))(hb:WE X e2 (jQ K b))(hm:behindInMarks .In e2=false:=by rfl):WT X (.Compare e1 [.In] [e2] pos) (wQ K (wq (eY [a,b] (o2 (YC false))))):=⟨nO (Jx false) (vF (Kx hK) ha.h hb.h hm)⟩
end
noncomputable def cA(mg:Str->Option Value)(x:Str):Addr:=match mg x with
 |some (.ref a)=>a
 |_=>0
def PL(h:mg x=some (.ref a)):cA mg x=a:=by unfold cA;rw[h]
def mD{mg:Str->Option Value}(h:mg x=some (.ref a)):mg x=some (.ref (cA mg x)):=by rw[PL h];exact h
structure WC(X:Cx)(es:List Expr)(Bs:List Addr):Prop where
 h:PA X es (λ_ H Q=>Q (Bs.map V.ref) H)
section
variable {K:Fg}{e1:Expr}{es:List Expr}{a:AD}{as:List AD}{B:Addr}{Bs:List Addr}{f n b c:Str}{p pos p2 p3 p4 pb pn pc hpos cpos apos py:Pos}{k iE iC:Nat}{ps:List Str}{con:ConX}{t:mJ}
end
end L3
namespace L2
def FW(k:Nat)(h:b<n):b≠n+k:=by lia
def vH:typeLookup (.type "zip") "keys"=pure none:=by rw[typeLookup_type,builtinLookup_eq_fast];kernel_rfl
def GW:typeLookup (.type "zip") "__getattr__"=pure none:=by rw[typeLookup_type,builtinLookup_eq_fast];kernel_rfl
def fJ:entryFor table "zip.__getattribute__"=some Builtin.«object.__getattribute__»:=entryFor_alias (id':="object.__getattribute__") (by kernel_rfl) (by decide +kernel) (by decide +kernel) (by kernel_rfl)
def aV(a:Addr)(fs:Array Value)(sl:Array (Option Value))(u:Tok):Meets (Builtin.«object.__getattribute__» ⟨[.ref a,.str "keys" u],[]⟩) (λA R s=>s.heap.get? a=some {cls:=.type "zip",dict:=none,data:=.fields fs,slots:=sl}/\raisesAttr (.ref a) "keys" A R s):=.of_wp λprog w A R s hs=>by
 obtain⟨hp,g,d,tk,os⟩:=s;obtain⟨hx,hs⟩:=hs;have hT:(⟨hp,g,d,tk,os⟩:Shared).TypeIs (.ref a) "zip":=⟨_,hx,rfl⟩;have hmiss:=vH;have hname:(["__module__","__name__","__qualname__","__doc__","__annotations__"]:List Str).contains "keys"=false:=by decide +kernel
 unfold Builtin.«object.__getattribute__»;repeat (any_goals (first|assumption|wp_step))
 all_goals (try simp only[hname,T1,if_false])
 repeat (any_goals (first|assumption|wp_step))
 exact wpAny_raiseAttrError hs.1 hs.2 (attrMsg_fits (by decide +kernel) (by size_fits))
section
variable {w:World}
def bV{Q:Option Value->Shared->Prop}(hx:s.heap.get? a=some {cls:=.type "zip",dict:=none,data:=.fields fs,slots:=sl})(hA:A.handled=none)(h:∀h' tk,(∀b o,s.heap.get? b=some o->h'.get? b=some o)->Q none {s with heap:=h',toks:=tk}):wpAny (model prog w) A (getAttr? (.ref a) "keys") Q E s:=by
 obtain⟨hp,g,d,tk,os⟩:=s;have hT:∀tk',(⟨hp,g,d,tk',os⟩:Shared).TypeIs (.ref a) "zip":=λ_=>⟨_,hx,rfl⟩;have f1:=sub_AttributeError;have f3:=F.slot_zip_getattribute.lookup;have f4:=F.slot_zip_getattribute.bind (.ref a);have f5:=GW;unfold getAttr? getAttrBy? getAttrBy;repeat (any_goals (first|assumption|exact hT _|((with_reducible show wpAny _ _ (call (Value.builtin "zip.__getattribute__") _ _) _ _ _);refine call_meets F.slot_zip_getattribute (hT _) fJ (F.args_zip_getattribute_2 _ _) (aV a fs sl _) ⟨hx,hA,λh' tk' e hx'=>?_⟩)|wp_step))
 obtain⟨t',u',he⟩:=hx'.there;show wpAny _ _ (getattributeRaised _ _ _ _ _ _ _) _ _ _;unfold getattributeRaised;repeat (any_goals (first|assumption|wp_step))
 exact h _ _ hx'.keeps
end
section
variable {w:World}{R:Result->Shared->Prop}
def Zq{TI TO:Addr}(hh:A.handled=none)(D:ZAp2 z TI TO i1 i2 l1 l2)(n1:z≠d)(n2:TI≠d)(n3:TO≠d)(n4:i1≠d)(n5:i2≠d)(n6:l1≠d)(n7:l2≠d)(hn1:n<=xs1.size) (hn2:n<=xs2.size) (hend:xs1[n]?=none\/xs2[n]?=none) (J:Nat->Heap->Prop)(hfr:∀i h h',J i h->(∀b o,b≠z->b≠TO->b≠i1->b≠i2->h.get? b=some o->h'.get? b=some o)->J i h')(step:∀(i:Nat) (x y:Value) (s:Shared) (Q:Unit->Shared->Prop) (E:Value->Shared->Prop),i<n->xs1[i]?=some x->xs2[i]?=some y->J i s.heap ->(∀h' tk,J (i+1) h'->B3 d s.heap h'->Q () {s with heap:=h',toks:=tk})->wpAny (model prog w) A.in1 (dictSet d x y) Q E s):∀(k i:Nat) (s:Shared) (tA:Tok),n-i=k->i<=n->ZSt s.heap z TI TO d i1 i2 l1 l2 k1 k2 i->SqAt k1 s.heap l1 xs1->SqAt k2 s.heap l2 xs2->J i s.heap->d<s.heap.objs.size -> (∀h' tk,J n h'->R (.ok (.ret .none)) {s with heap:=h',toks:=tk}) -> codeAny (model prog w) A (.builtin "dict.update.loop" ⟨[.ref d,.ref z,.int i tA,.none],[]⟩) R s:=by
 intro k;induction k with
 |zero =>
  intro i s tA hk hi hst q1 q2 hJ hd hR;have hin:i=n:=by lia
  subst hin;refine codeAny_builtin CJ ?_;rw[Around.under_plainId TX _];show wpAny _ A.in1 (pyNext (.ref z) >>= _) _ _ s;refine wpAny_bind (fK (A:=A.in1) hh D hst q1 q2 hend λh' he=>?_);show wpAny _ _ (Builtin.Dict.addKeywords d [] >>= _) _ _ _;exact wpAny_bind (wpAny_pure (wpAny_pure (hR h' s.toks (hfr _ _ _ hJ he))))
 |succ k ih =>
  intro i s tA hk hi hst q1 q2 hJ hd hR;have hlt:i<n:=by lia
  obtain⟨x,hx⟩:∃p,xs1[i]?=some p:=⟨xs1[i],v3 (by lia)⟩;obtain⟨y,hy⟩:∃p,xs2[i]?=some p:=⟨xs2[i],v3 (by lia)⟩;refine codeAny_builtin CJ ?_;rw[Around.under_plainId TX _];show wpAny _ A.in1 (pyNext (.ref z) >>= _) _ _ s;refine wpAny_bind (wW (S:=d) D hd hst q1 q2 hx hy λh' hst' ht hz hkp=>?_);have hJ':=hfr _ _ _ hJ hkp;show wpAny _ A.in1 (holding [.ref s.heap.objs.size] _ >>= _) _ _ _;refine wpAny_bind (wpAny_holding ?_);refine wpAny_bind (wpAny_tryCatch ?_);unfold Builtin.Dict.pairItems;refine wpAny_bind (wpAny_typeOf (T:="tuple") ⟨_,ht,rfl⟩ ?_);rw[if_pos (by decide)];refine wpAny_bind (wpAny_seqItems ht rfl (wpAny_pure ?_));show wpAny _ A.in1 (holding [x,y] (dictSet d x y)) _ _ _;refine wpAny_holding (wpAny_mono (step i x y {s with heap:=h'} (λ_ s''=>∃h'' tk',s''={s with heap:=h'',toks:=tk'}/\J (i+1) h''/\B3 d h' h'') (λ_ _=>False) hlt hx hy hJ' λh'' tk' j sb=>⟨h'',tk',rfl,j,sb⟩) (λ_ s'' z=>?_) λ_ _ z=>z.elim);obtain⟨h'',tk',rfl,j,sb⟩:=z;have kp:∀b o,b≠d->h'.get? b=some o->h''.get? b=some o:=λb o nb e=>(sb.2 b nb).trans e;refine wpAny_pure ⟨plainId_quiet TX _,?_⟩;refine ih (i+1) {s with heap:=h'',toks:=tk'} 0 (by lia) hlt (hst'.keep kp n1 n2 n3 n4 n5) (q1.at λo e=>kp _ _ n6 (hkp _ o D.l1z D.l1TO D.l1i1 D.l1i2 e)) (q2.at λo e=>kp _ _ n7 (hkp _ o D.l2z D.l2TO D.l2i1 D.l2i2 e)) j ?_ λh3 tk3 j3=>hR h3 tk3 j3;have:lQ h'' s.heap.objs.size x y:=kp _ _ (N1 hd) ht;exact e6 hd (u0 this)
end
def cV{TI TO:Addr}(J:Nat->Heap->Prop)(hh:A.handled=none)(D:ZAp2 z TI TO i1 i2 l1 l2)(hn1:n<=xs1.size) (hn2:n<=xs2.size) (hend:xs1[n]?=none\/xs2[n]?=none) {a1 a2:Value}(hz:IsZip s.heap z TI TO .none) (hTI:lQ s.heap TI (.ref i1) (.ref i2)) (hTO:lQ s.heap TO a1 a2) (h1:ItAt k1 s.heap i1 l1 0) (h2:ItAt k2 s.heap i2 l2 0) (hl1:SqAt k1 s.heap l1 xs1) (hl2:SqAt k2 s.heap l2 xs2) (b1:l1<s.heap.objs.size) (b2:l2<s.heap.objs.size)(h0:∀h',(∀b ob,s.heap.get? b=some ob->h'.get? b=some ob)->h'.get? s.heap.objs.size=some {cls:=.type "dict",data:=.dict #[]}->J 0 h')(hfr:∀i h h',J i h->(∀b o,b≠z->b≠TO->b≠i1->b≠i2->h.get? b=some o->h'.get? b=some o)->J i h')(step:∀(i:Nat) (x y:Value) (s':Shared) (Q':Unit->Shared->Prop) (E':Value->Shared->Prop),i<n->xs1[i]?=some x->xs2[i]?=some y->J i s'.heap ->(∀h' tk,J (i+1) h'->B3 s.heap.objs.size s'.heap h'->Q' () {s' with heap:=h',toks:=tk})->wpAny (model prog w) A.in1.in1 (dictSet s.heap.objs.size x y) Q' E' s')(h:∀h' tk,J n h'->Q (.ref s.heap.objs.size) {s with heap:=h',toks:=tk}):wpAny (model prog w) A (call (.type "dict") [.ref z]) Q E s:=by
 refine callType_codes (Q₁:=λobj s₁=>obj=.ref s.heap.objs.size/\s₁={s with heap:=s.heap.push {cls:=.type "dict",data:=.dict #[]}}) F.kt_called_dict (F.kt_typeCall_dict_1 _) F.entry_dict_init (kt_code_dict_new _ ⟨rfl,rfl⟩) ?_;rintro obj s₁ ⟨rfl,rfl⟩;have hnew:(s.heap.push {cls:=.type "dict",data:=.dict #[]}).get? s.heap.objs.size=some {cls:=.type "dict",data:=.dict #[]}:=v0 _ rfl;have hkp:∀b ob,s.heap.get? b=some ob->(s.heap.push {cls:=.type "dict",data:=.dict #[]}).get? b=some ob:=λb ob e=>i0 _ e;refine ⟨⟨_,hnew,rfl⟩,F.args_dict_init_2 _ _,?_⟩;unfold Builtin.«dict.__init__»;refine wpAny_bind ?_;unfold Builtin.Dict.selfAndRest;refine wpAny_bind (wpAny_notOrdered_dict ⟨_,hnew,rfl⟩ ?_);show wpAny _ _ (pure (s.heap.objs.size,[Q2 z])) _ _ _;refine wpAny_pure ?_;show wpAny _ _ (Y7 "dict.__init__" s.heap.objs.size (.ref z) [] .none) _ _ _;unfold Y7;refine wpAny_bind (wpAny_typeOf (T:="zip") ⟨_,hkp _ _ hz,rfl⟩ ?_);rw[if_pos (by decide)];refine wpAny_bind (bV (hkp _ _ hz) hh λh1' tk1 kk1=>?_);simp only[Option.isNone_none,if_true];refine wpAny_bind (wpAny_rule ?_);refine wpAny_bind (wpAny_pyIter_zip (s:={s with heap:=h1',toks:=tk1}) (kk1 _ _ (hkp _ _ hz)) ?_);have kp:∀b ob,s.heap.get? b=some ob->h1'.get? b=some ob:=λb ob e=>kk1 b ob (hkp b ob e);obtain⟨o1,g1,_⟩:=h1.obj;obtain⟨o2,g2,_⟩:=h2.obj;have hlt:s.heap.objs.size<h1'.objs.size:=u0 (kk1 _ _ hnew);refine wpAny_pure ⟨plainId_quiet TX _,Zq (A:=A.in1) hh D (N0 (u0 hz)) (N0 (u0 hTI)) (N0 (u0 hTO)) (N0 (u0 g1)) (N0 (u0 g2)) (N0 b1) (N0 b2) hn1 hn2 hend J hfr step n 0 _ 0 rfl (P3 _)
   ⟨kp _ _ hTI,h1.at λo e=>kp _ _ e,h2.at λo e=>kp _ _ e,.inl ⟨kp _ _ hz,a1,a2,kp _ _ hTO⟩⟩ (hl1.at λo e=>kp _ _ e) (hl2.at λo e=>kp _ _ e) (h0 h1' kp (kk1 _ _ hnew)) hlt λh' tk j=>⟨rfl,h h' tk j⟩⟩
end L2
namespace L3
open L2
section
variable {K:Fg}{e e1 e2:Expr}{a b:AD}{p pos p2:Pos}
end
end L3
namespace L2
end L2
namespace L3
open L2
def Lx{Q:List D->Ev->Prop}{A:D}{us:List D}(h1:ρ[i]?=some (some (.fz A)))(h2:ρ[j]?=some (some (.fz B)))(e1:kY A=some us)(e2:kY B=some ws)(w:Q (BX us ws) ρ):lY (.inl i) (.inl j) ρ Q:=by unfold lY;simp only[nX,h1,h2,NQ,JQ,Sl.d,e1,e2,PQ];exact w
def Ey{g:jJ}{u:mJ}{E:DE}{A:D}{us:List D}(h1:ρ[i]?=some (some (.fz A)))(h2:ρ[j]?=some (some (.fz B)))(e1:kY A=some us)(e2:kY B=some ws)(w:fZ ks g tb {nx:=λρ'=>u E ρ',rt:=E.rt,bk:=E.bk,ct:=E.ct} (BX us ws) (clean ks ρ)):wj (TF ks (lY (.inl i) (.inl j)) g tb) u E ρ:=Lx (Q:=λds ρ'=>fZ ks g tb {nx:=λρ'=>u E ρ',rt:=E.rt,bk:=E.bk,ct:=E.ct} ds (clean ks ρ')) h1 h2 e1 e2 w
def rX{u:mJ}{E:DE}(J:Ev->Prop)(h1:∀N:Ev->Prop,(∀ρ',J ρ'->N ρ')->t {nx:=N,rt:=E.rt,bk:=E.bk,ct:=E.ct} ρ)(h2:∀ρ',J ρ'->u E ρ'):wj t u E ρ:=h1 _ h2
def KO{Q:Ev->Prop}(h:UE i d ρ Q=Q (ρ.set i (some (.fz d))))(w:Q (ρ.set i (some (.fz d)))):UE i d ρ Q:=by rw[h];exact w
section
variable {K:Fg}{ec:Expr}{p p1 p2 p3 p4 p5 p6 p7 p8 p9 pa pb pc pd pe pf pg ph pi' pj pk pl:Pos}{x a b c:Str}{tc:RK}
end
noncomputable def Fy:D->(Sl->Prop)->Prop
 | .int j,Q=>AC 0 j/\j.toNat<=2 ^ 24/\Q (.ow (.list (KQ 0 j.toNat)))
 |_,_=>False
def Gy{K:Fg}{Q:VK}(R:Rel K G F σ H ρ)(h1:At K F H x (.int j))(w:Fy (.int j) Qd)(k:∀v H' F' s,Sub F F'->Rel K G F' σ H' ρ->Res K G F' H' σ ρ v s->Qd s->Q v H'):Nq [x] H λv H1=>SJ [v] H1 Q:=by
 cases h1.int;refine ⟨0,j,.inr ⟨rfl,rfl⟩,λp hp=>⟨p,0,j,rfl,kQ,w.1,by have:=w.2.1;lia,λl hl=>?_⟩⟩;have ej:(j-0).toNat=j.toNat:=by lia
 rw[ej];have R1:Rel K G F σ (DQ H p (.rng 0 j)) ρ:=R.laid hp;have da:DaAll K F ((K2 j.toNat).map λ(n:Nat)=>V.int (0+n)) (KQ 0 j.toNat):=by have:=DaAll.ints (K:=K) (F:=F) ((K2 j.toNat).map λ(n:Nat)=>(0:Int)+(n:Int));simpa [KQ,O0,Function.comp_def]using this
 obtain⟨R',r'⟩:=R1.newOw (o:=.lst _) (d:=.list (KQ 0 j.toNat)) hl da;exact k _ _ F _ (Sub.refl _) R' r' w.2.2
def ZC{K:Fg}:UQ K (λvs H Q=>Nq vs H λv H1=>SJ [v] H1 Q) (o1 Fy):=NF λG F σ H ρ x d Q Qd R h1 w k=>by
 cases d with
 |int j=>exact Gy R h1 w k
 |_=>exact w.elim
section
variable {K:Fg}{e e1:Expr}{a:AD}{p p2 pos:Pos}
def aE(h:PE X e (qu SJ (qK (qu Nq (rQ ([a].map (jQ K)))) bq))):PE X e (lift K (eY [a] (o1 Fy))):=yY h λq=>XW ZC q
def QL(hc:X.calm=true)(hm:X.mg "list"=none)(hm2:X.mg "range"=none)(ha:WA X [e1] (rQ ([a].map (jQ K))))(hg:Gl X "list":=by rfl)(hg2:Gl X "range":=by rfl)(he:notStar e1=true:=by rfl) :
  WE X (.Call (.Name "list" p) [.Call (.Name "range" p2) [e1] [] pos'] [] pos) (lift K (eY [a] (o1 Fy))) :=
 ⟨aE (JZ (zY hc) hg hm boot_list (WQ (JZ gH hg2 hm2 boot_range ha.h (by decide) (by decide) (starEach_of he) (AQ rfl)) DZ (starEach_of rfl)) (by decide) (by decide) (starEach_of rfl) (AQ rfl))⟩
end
end L3
namespace L2
noncomputable def az(e l:Nat->Bool)(b:Bool):Nat->Nat->Bool
 |_,0=>b
 |k,m+1=>if e k=true then az e l b (k+1) m else l k
section
open PySem.SeqAt
open PySem.AutoSeq1 (wpAny_loadPart')
open PySem.MeetsSeq PySem.MeetsSeq2 PySem.MeetsSeq3
end
section
variable {w:World}{R:Result->Shared->Prop}{I:Addr}{wr:List Addr}{P:Nat->Value->Prop}{St:Nat->Heap->Prop}{base:Heap}
abbrev bE(prog:Program)(w:World)(A:Around)(base:Heap)(P:Nat->Value->Prop)(bt:Nat->Nat->Bool):Prop:=∀i j vi vj (s:Shared) (Q E:Value->Shared->Prop),P i vi->P j vj->(∀b o,base.get? b=some o->s.heap.get? b=some o)->Q (.bool (bt i j)) s->wpAny (model prog w) A (richCompare .Lt vi vj) Q E s
def bz(W:Walks prog w A.in1 I fp wr n P St)(bt:Nat->Nat->Bool)(hcmp:bE prog w A.in1 base P bt)(S:Addr)(hSf:S∉fp)(hSb:base.get? S=none)(hwb:∀b∈wr,base.get? b=none):∀(k j:Nat) (s:Shared) (vb:Value) (c:Nat),n-(j+1)=k->j+1<=n->St (j+1) s.heap->P (argBest bt j) vb->(∀b o,base.get? b=some o->s.heap.get? b=some o) -> s.heap.get? S=some {cls:=.type "list",dict:=none,data:=.seq #[vb,vb] c,slots:=#[]} -> (∀v h' tk,P (argBest bt (n-1)) v->(∀b o,base.get? b=some o->h'.get? b=some o)->R (.ok (.ret v)) {s with heap:=h',toks:=tk}) -> codeAny (model prog w) A (.builtin "min.loop" ⟨[.ref I,.none,.ref S],[]⟩) R s:=by
 have hSw:S∉wr:=λh=>hSf (W.sub _ h);have nw:∀{b o},base.get? b=some o->b∉wr:=λe h=>by rw[hwb _ h]at e;cases e
 have nS:∀{b o},base.get? b=some o->b≠S:=λe h=>by rw[h,hSb]at e;cases e
 have hname:(toString "min"++toString ".loop":String) = "min.loop":=by decide
 intro k;induction k with
 |zero =>
  intro j s vb c hk hj hst hPb hB hS hR;have hin:j+1=n:=by lia
  refine codeAny_builtin F.entry_min_loop ?_;rw[Around.under_plainId F.plain_min_loop _];refine wpAny_bind (wpAny_seqItems hS rfl ?_);refine wpAny_bind (wpAny_tryCatch (W.done s _ _ (hin ▸ hst) λh' tk hk'=>?_));have hS':=hk' S _ hSw hS;refine wpAny_bind ?_;refine wpAny_updateSeq hS' rfl (wpAny_bind (wpAny_letGo (wpAny_pure ?_)));exact hR vb _ tk (by rw[<-hin];exact hPb) λb o e=>(K1 _ _ (Y1 (nS e))).trans (hk' b o (nw e) (hB b o e))
 |succ k ih =>
  intro j s vb c hk hj hst hPb hB hS hR;have hlt:j+1<n:=by lia
  refine codeAny_builtin F.entry_min_loop ?_;rw[Around.under_plainId F.plain_min_loop _];refine wpAny_bind (wpAny_seqItems hS rfl ?_);refine wpAny_bind (wpAny_tryCatch (W.item (j+1) s _ _ hlt hst λv h' tk hP hst' hk'=>?_));have hS':=hk' S _ hSw hS;have hB':∀b o,base.get? b=some o->h'.get? b=some o:=λb o e=>hk' b o (nw e) (hB b o e);show wpAny _ A.in1 (tryCatch (holding [v,v] (richCompare .Lt v vb >>= _)) _ >>= _) _ _ _;refine wpAny_bind (wpAny_tryCatch (wpAny_holding (wpAny_bind (hcmp (j+1) (argBest bt j) v vb _ _ _ hP hPb hB' ?_))));refine wpAny_bind (wpAny_holding (wpAny_truthy_bool ?_));refine wpAny_bind (wpAny_letGo (wpAny_pure ?_));cases hb:bt (j+1) (argBest bt j) with
  |true =>
   simp only[if_true];refine wpAny_bind ?_;refine wpAny_updateSeq hS' rfl (wpAny_bind (wpAny_letGo ?_));rw[hname];exact wpAny_pure ⟨plainId_quiet F.plain_min_loop _,ih (j+1) _ v _ (by lia) hlt (W.frame _ _ _ hst' λb hbf o e=>(K1 _ _ (λh:S=b=>hSf (by rw[h];exact hbf))).trans e) (by simp only[argBest,hb,if_true];exact hP)
     (λb o e=>(K1 _ _ (Y1 (nS e))).trans (hB' b o e)) (X1 _ hS' rfl) λv' h'' tk'' hP' hk''=>hR v' h'' tk'' hP' hk''⟩
  |false=>simp only[T1,if_false];refine wpAny_bind (wpAny_letGo ?_);rw[hname];exact wpAny_pure ⟨plainId_quiet F.plain_min_loop _,ih (j+1) _ vb c (by lia) hlt hst' (by simp only[argBest,hb,T1,if_false];exact hPb) hB' hS' λv' h'' tk'' hP' hk''=>hR v' h'' tk'' hP' hk''⟩
end
def MG{St:Nat->Heap->Prop}(W:Walks prog w A.in1 I fp wr n P St)(bt:Nat->Nat->Bool)(hcmp:bE prog w A.in1 base P bt)(S:Addr)(hSf:S∉fp)(hSb:base.get? S=none)(hwb:∀b∈wr,base.get? b=none)(hn:0<n){s:Shared}{c:Nat}(hst:St 0 s.heap)(hB:∀b o,base.get? b=some o->s.heap.get? b=some o)(hS:s.heap.get? S=some {cls:=.type "list",dict:=none,data:=.seq #[] c,slots:=#[]})(hR:∀v h' tk,P (argBest bt (n-1)) v->(∀b o,base.get? b=some o->h'.get? b=some o)->R (.ok (.ret v)) {s with heap:=h',toks:=tk}):codeAny (model prog w) A (.builtin "min.loop" ⟨[.ref I,.none,.ref S],[]⟩) R s:=by
 have hSw:S∉wr:=λh=>hSf (W.sub _ h);have hname:(toString "min"++toString ".loop":String) = "min.loop":=by decide
 refine codeAny_builtin F.entry_min_loop ?_;rw[Around.under_plainId F.plain_min_loop _];refine wpAny_bind (wpAny_seqItems hS rfl ?_);refine wpAny_bind (wpAny_tryCatch (W.item 0 s _ _ hn hst λv h' tk hP hst' hk'=>?_));have hS':=hk' S _ hSw hS;show wpAny _ A.in1 (updateSeq S (λ_=>#[v,v]) >>= _) _ _ _;refine wpAny_bind ?_;refine wpAny_updateSeq hS' rfl ?_;rw[hname];refine wpAny_pure ⟨plainId_quiet F.plain_min_loop _,bz W bt hcmp S hSf hSb hwb _ 0 _ v _ rfl hn (W.frame _ _ _ hst' λb hbf o e=>(K1 _ _ (λh:S=b=>hSf (by rw[h];exact hbf))).trans e) hP (λb o e=>?_) (X1 _ hS' rfl) λv' h'' tk'' hP' hk''=>hR v' h'' tk'' hP' hk''⟩;refine (K1 _ _ λh=>?_).trans (hk' b o (λh=>?_) (hB b o e))
 .rw[<-h,hSb]at e;cases e
 .rw[hwb _ h]at e;cases e
def dz(bt:Nat->Nat->Bool)(hh:A.handled=none)(hl:s.heap.IsList l xs)(hn:0<xs.size)(hcmp:bE prog w A.in1 s.heap (λi v=>xs[i]?=some v) bt)(hQ:∀v h' tk,xs[argBest bt (xs.size-1)]?=some v->(∀b o,s.heap.get? b=some o->h'.get? b=some o)->Q v {s with heap:=h',toks:=tk}):wpAny (model prog w) A (call (.builtin "min") [.ref l]) Q E s:=by
 have hname:(toString "min"++toString ".loop":String) = "min.loop":=by decide
 refine call_function_tree F.kind_min F.plain_min F.entry_min (F.args_min1 _) ?_;show wpAny _ A.in1 (V4 "min" ["key","default"] 0 ⟨[],[]⟩ >>= _) _ _ s;refine wpAny_bind (wpAny_of_eq (show V4 "min" ["key","default"] 0 ⟨[],[]⟩=pure [none,none] from rfl) ?_);refine wpAny_bind (wpAny_pure ?_);refine wpAny_bind (wpAny_pyIter_list hl ?_);refine wpAny_bind (wpAny_newObj_type ?_);have hll:l<s.heap.objs.size:=by obtain⟨o,ho,_⟩:=hl;exact u0 ho
 have W:=Walks.list (prog:=prog) (w:=w) (A:=A.in1) hh s.heap.objs.size l (N0 hll) xs;rw[hname];have none_of:∀b:Addr,s.heap.objs.size<=b->s.heap.get? b=none:=λb h=>by
  cases e:s.heap.get? b with
  |none=>rfl
  |some o=>exact absurd (u0 e) (Q8.mpr h)
 refine wpAny_pure ⟨plainId_quiet F.plain_min_loop _,MG W bt hcmp _ (λhm=>?_) (none_of _ ?_) (λb hb=>?_) hn ?_ (λb o e=>i0 _ (i0 _ e)) (v0 _ rfl) λv h' tk hv hk=>hQ v h' tk hv hk⟩
 .simp[Z0]at hm;exact absurd (hm ▸ hll) (by simp)
 .simp[Z0]
 .rw[G1.mp hb];exact none_of _ (M0 _)
 .obtain⟨o,ho,hc,m,hd⟩:=hl;exact ⟨⟨_,i0 _ (v0 _ rfl),rfl,rfl⟩,⟨o,i0 _ (i0 _ ho),hc,m,hd⟩⟩
open PySem.W in
theorem nK{bt:Nat->Nat->Bool}(irr:∀i,bt i i=false)(tr:∀i j k,bt i j=true->bt j k=true->bt i k=true):∀n,argBest bt n<=n/\∀j,j<=n->bt j (argBest bt n)=false
 |0=>⟨M0 _,λj h=>by rw[show j=0 by lia];exact irr 0⟩
 |n+1=>by
  obtain⟨h1,h2⟩:=nK irr tr n;show (if bt (n+1) (argBest bt n) then n+1 else argBest bt n)<=n+1/\∀j,j<=n+1->bt j (if bt (n+1) (argBest bt n) then n+1 else argBest bt n)=false;cases e:bt (n+1) (argBest bt n) with
  |true =>
   simp only[if_true];refine ⟨M0 _,λj hj=>?_⟩;by_cases z:j=n+1
   .rw[z];exact irr _
   .cases e2:bt j (n+1) with
    |false=>rfl
    |true=>exact absurd (h2 j (by lia)) (by rw[tr _ _ _ e2 e];decide)
  |false =>
   simp only[T1,if_false];refine ⟨by lia,λj hj=>?_⟩;by_cases z:j=n+1
   .rw[z];exact e
   .exact h2 j (by lia)
end L2
namespace L3
open L2
end L3
namespace L2
section
variable {P:Program}{w:World}{κ:Type}[DecidableEq κ]{kd:KeyKind P w κ}
end
end L2
namespace L3
open L2
section
variable {K:Fg}{e e1:Expr}{a:AD}{p pos p2:Pos}
def NG(hr:Room k A):A.units+6<cLine:=o4 (m7 (by decide:6<=64) _) hr.units
end
end L3
namespace L2
section
variable {w:World}
def nD(d:Addr):¬((Q2 d==T4)=true):=X0
end
theorem tU{R:α->β->Prop}:∀{l:List α}{m:List β},Paired R l m->∀{i:Nat}{x:α},l[i]?=some x->∃y,m[i]?=some y/\R x y
 |_,_,.nil,i,x,h=>by simp at h
 |_,_,.cons r t,0,x,h=>by simp only[Z7,Option.some.injEq]at h;subst h;exact ⟨_,rfl,r⟩
 |_,_,.cons r t,i+1,x,h=>by simp only[X3]at h;obtain⟨y,e,ry⟩:=tU t h;exact ⟨y,e,ry⟩
section
variable {κ:Type}{hs:κ->Int}
def Mx(e:ObjOk P w H h d (yX hs d' ep xs)):d'=d:=by
 obtain⟨f,⟨o,ho⟩,st⟩:=e;by_cases z:d'=d
 .exact z
 exfalso;obtain⟨⟨vs,pr,o',es,e1,e2,e3,e4⟩,_⟩:=id f;obtain⟨⟨vs2,_,o2,es2,g1,g2,_⟩,_⟩:=st h (h.update d' λ_=>{cls:=.type "tuple",data:=.seq #[]}) f λq hq=>by rw[t7 _ d d' _ (Y1 z)];exact hq
 have g3:(h.update d' λ_=>{cls:=.type "tuple",data:=.seq #[]}).get? d'=some {cls:=.type "tuple",data:=.seq #[]}:=X1 _ e1 rfl;rw[g3]at g1;injection g1 with g1;rw[<-g1]at g2;exact absurd g2.1 (by decide)
def ext_at(I:Inv X pins σ H s)(e:H d=some (yX hs d' ep xs)):∃(vs:List (κ×Addr×Value)) (o:Obj) (es:Array DictEntry),Paired (λx v=>x.1=v.1/\x.2.1=v.2.1/\RelV x.2.2 v.2.2) xs vs/\s.heap.get? d=some o/\o.ExactDict/\o.data=.dict es ep/\(es.toList=vs.map λx=>⟨hs x.1,.ref x.2.1,x.2.2⟩)/\es.size=xs.length/\(xs.map (·.1)).Nodup/\xs.length<=sizeLine/\(d==sysModules)=false:=by
 have ed:=Mx (show ObjOk X.prog X.w H s.heap d (yX hs d' ep xs) from I.hok d _ e);subst ed;obtain⟨⟨⟨vs,pr,o,es,e1,e2,e3,e4⟩,nd,hl,hm⟩,_⟩:=(show ObjOk X.prog X.w H s.heap d' (yX hs d' ep xs) from I.hok d' _ e);refine ⟨vs,o,es,pr,e1,e2,e3,e4,?_,nd,hl,hm⟩;have:=congrArg J3 e4;rw[q0,<-pr.length]at this;simpa using this
end
def tO(K:B0):List V->Hp->VK->Prop:=λvs H1 Q=>∃(k1:Kd) (l1:Addr) (k2:Kd) (l2:Addr) (xs:List (Qa×Addr×V)),vs=[.ref l1,.ref l2]/\Sq k1 K H1 l1 (xs.map λx=>V.ref x.2.1)/\Sq k2 K H1 l2 (xs.map λx=>x.2.2) /\
 (∀x∈xs,H1 x.2.1=some (.tup (x.1.map V.int)))/\(xs.map (·.1)).Nodup/\∀l ep,H1 l=none->Q (.ref l) (DQ H1 l (yX hL l ep xs))
def LO(K:B0)(ta:TA):TE:=λσ H Q=>ta σ H λvs H1=>tO K vs H1 Q
theorem KK{P:Program}{w:World}:∀{ks:Qa}{us:List Value},Vals (ks.map V.int) us->ItemsAre (intKind P w) ks us
 |[],_,r=>by cases r;exact .nil
 |k::ks,_,r=>by
  cases r with
  |cons h t=>obtain⟨tk,rfl⟩:=h;exact .cons (by show u8 k (.int k tk)=true;simp[u8]) (KK t)
theorem HW{R:α->β->Prop}{x:α}{y:β}:∀{l:List α}{m:List β},Paired R l m->R x y->Paired R (l++[x]) (m++[y])
 |_,_,.nil,r=>.cons r .nil
 |_,_,.cons r0 t,r=>.cons r0 (HW t r)
theorem PZ{κ:Type}:∀{xs:List (κ×Addr×V)}{vs:List (κ×Addr×Value)},Paired (λx v=>x.1=v.1/\x.2.1=v.2.1/\RelV x.2.2 v.2.2) xs vs->vs.map (·.1)=xs.map (·.1)
 |_,_,.nil=>rfl
 |_,_,.cons r t=>by simp only[E1,PZ t,r.1]
theorem uU{R:α->β->Prop}:∀{l:List α}{m:List β},Paired R l m->l.length=m.length
 |_,_,.nil=>rfl
 |_,_,.cons _ t=>by simp[uU t]
theorem TY{R:α->β->Prop}:∀{l:List α}{m:List β},Paired R l m->∀y∈m,∃x∈l,R x y
 |_,_,.nil,y,h=>by cases h
 |_,_,.cons r t,y,h=>by
  rcases Y0.mp h with z|z
  .subst z;exact ⟨_,R0,r⟩
  .obtain⟨x,hx,r'⟩:=TY t y z;exact ⟨x,K0 _ hx,r'⟩
def cE[DecidableEq κ]{vs:List (κ×Addr×Value)}{k:κ}(h:k∉vs.map (·.1)):atKey vs k=none:=atKey_none_of_get λj p e=>h (J0.mpr ⟨_,B1 e,rfl⟩)
def Nx{l:List α}{x:α}(h:l[i]?=some x):l.take (i+1)=l.take i++[x]:=by have hi:=(S0.mp h).1;have e:=(S0.mp h).2;rw[List.take_add_one,h];rfl
def iz{κ:Type}{xs:List (κ×Addr×V)}{x:κ×Addr×V}(nd:(xs.map (·.1)).Nodup)(h:xs[i]?=some x):x.1∉(xs.take i).map (·.1):=λz=>by
 obtain⟨y,hy,e⟩:=J0.mp z;obtain⟨j,hj⟩:=Z3.mp hy;rw[List.getElem?_take]at hj;split at hj
 .rename_i hlt;have a1:(xs.map (·.1))[j]?=some x.1:=by rw[Q0,hj,M4,e]
  have a2:(xs.map (·.1))[i]?=some x.1:=by rw[Q0,h];rfl
  have:=(List.getElem?_inj (S0.mp a1).1 nd).mp (a1.trans a2.symm);lia
 .cases hj
def RL{p:Pos}(hcm:X.calm=true)(hu:X.A.units+2<cLine)(hg0:Gl X "dict")(hm0:X.mg "dict"=none)(hv0:bootBuiltins "dict"=some (.type "dict"))(hg:Gl X "zip")(hm:X.mg "zip"=none)(ha:PA X [a,b] ta)(hs:starEach [a,b] X.env=(false,eval a X.env)::starEach [b] X.env) (hpl:(backTo pos (starEach [b] X.env)).any (·.1)=false)(hs0:starEach [.Call (.Name "zip" p) [a,b] [] pos] X.env=(false,eval (.Call (.Name "zip" p) [a,b] [] pos) X.env)::starEach [] X.env) (hpl0:(backTo pos0 (starEach [] X.env)).any (·.1)=false):PE X (.Call (.Name "dict" p0) [.Call (.Name "zip" p) [a,b] [] pos] [] pos0) (LO X.K ta):=by
 intro pins s σ H Q I h;refine wpAny_Call_Name_kw (UX I hg0 hm0 hv0 ?_ (by decide) (by decide));refine S1 ?_ hs0 hpl0;rw[hs0];show wpAny _ _ (spliced ((false,eval (.Call (.Name "zip" p) [a,b] [] pos) X.env)::backTo pos0 (starEach [] X.env))) _ _ s;refine Calls.spliced_cons ?_;refine Call_ (UX I hg hm boot_zip (S1 (eX (ha pos pins s σ H _ I h) λus s1 ⟨vs,H1,I1,r1,q1⟩=>?_) hs hpl));obtain⟨k1,l1,k2,l2,xs,e,q1,q2,hky,hnd,q⟩:=q1;subst e;obtain rfl:us=[.ref l1,.ref l2]:=by cases r1 with|cons r rr=>cases r;cases rr with|cons r rr=>cases r;cases rr;rfl
 obtain⟨its1,rv1,p1,z1⟩:=I1.sq q1;obtain⟨its2,rv2,p2,z2⟩:=I1.sq q2;have lt:∀{k:Kd}{l:Addr}{xs:Array Value},SqAt k s1.heap l xs->l<s1.heap.objs.size:=λ{k l xs} p=>by
  cases k with
  |l=>obtain⟨o,e,_⟩:=p;exact u0 e
  |t=>obtain⟨o,e,_⟩:=p;exact u0 e
 refine callType_new F.called_zip (by decide) (F.typeCall_zip_2 _ _) (F.newCall_zip_2 _ _) (λobj=>F.args_object_init_3 obj _ _) F.entry_zip_new (wK k1 k2 l1 l2 its1.toArray its2.toArray) ⟨p1,p2,?_⟩;have zI:(SW s1.heap k1 k2 l1 l2).objs.size=s1.heap.objs.size+2:=by simp[Z0]
 have zT:(TW s1.heap k1 k2 l1 l2).objs.size=s1.heap.objs.size+3:=by simp[Z0]
 have zO:(UW s1.heap k1 k2 l1 l2).objs.size=s1.heap.objs.size+4:=by simp[Z0]
 have zZ:(jX s1.heap k1 k2 l1 l2).objs.size=s1.heap.objs.size+5:=by simp[Z0]
 have gZ:(jX s1.heap k1 k2 l1 l2).get? (UW s1.heap k1 k2 l1 l2).objs.size=some _:=v0 _ rfl;have gO:(jX s1.heap k1 k2 l1 l2).get? (TW s1.heap k1 k2 l1 l2).objs.size=some _:=i0 _ (v0 _ rfl);have gT:(jX s1.heap k1 k2 l1 l2).get? (SW s1.heap k1 k2 l1 l2).objs.size=some _:=i0 _ (i0 _ (v0 _ rfl));have g1:(jX s1.heap k1 k2 l1 l2).get? s1.heap.objs.size=some (iX k1 l1):=i0 _ (i0 _ (i0 _ (i0 _ (v0 _ (by cases k1<;>rfl)))));have g2:(jX s1.heap k1 k2 l1 l2).get? (s1.heap.push (iX k1 l1)).objs.size=some (iX k2 l2):=i0 _ (i0 _ (i0 _ (v0 _ (by cases k2<;>rfl))));have zz2:(s1.heap.push (iX k1 l1)).objs.size=s1.heap.objs.size+1:=by simp[Z0]
 rw[zO,zT,zI]at gZ;rw[zI,zz2]at gT;rw[zT]at gO;rw[zz2]at g2;show _/\_;rw[zO];have kp:∀b o,s1.heap.get? b=some o->(jX s1.heap k1 k2 l1 l2).get? b=some o:=λb o e=>i0 _ (i0 _ (i0 _ (i0 _ (i0 _ (e)))));refine ⟨⟨_,gZ,rfl⟩,Calls.spliced_nil ?_⟩;have len1:=rv1.length;have len2:=rv2.length;have DD:=bv s1.heap.objs.size l1 l2 (lt p1) (lt p2);have hxl:its1.length=xs.length:=by rw[<-len1,q0]
 have hxl2:its2.length=xs.length:=by rw[<-len2,q0]
 have key:∀{x:Qa×Addr×V}{h':Heap},x∈xs->(∀b ob,s1.heap.get? b=some ob->h'.get? b=some ob)->(tupleKind (intKind X.prog X.w)).is h' x.1 x.2.1:=λ{x h'} hx kk=>by obtain⟨_,its,r,o,h1,h2,n,h3,_⟩:=(show ObjOk X.prog X.w H1 s1.heap x.2.1 (.tup (x.1.map V.int)) from I1.hok _ _ (hky x hx));exact ⟨o,its.toArray,n,kk _ _ h1,h2,h3,by simpa using KK r⟩
 have hb:(s1.heap.objs.size+5==sysModules)=false:=beq_eq_false_iff_ne.mpr (Y1 (N0 (L0 I1.big (E2 _ _))));have hz5:xs.length<=sizeLine:=by lia
 refine cV (s:={s1 with heap:=jX s1.heap k1 k2 l1 l2}) (xs1:=its1.toArray) (xs2:=its2.toArray) (n:=xs.length) (λi h=>(∀b ob,s1.heap.get? b=some ob->h.get? b=some ob)/\∃vs:List (Qa×Addr×Value),Paired (λx v=>x.1=v.1/\x.2.1=v.2.1/\RelV x.2.2 v.2.2) (xs.take i) vs/\∃o es ep,h.get? (s1.heap.objs.size+5)=some o/\o.ExactDict/\o.data=.dict es ep/\es.toList=vs.map λx=>⟨hL x.1,.ref x.2.1,x.2.2⟩)
  (I1.ok.hd hcm) DD (by simp only[V0];lia) (by simp only[V0];lia) (.inl (by simp;lia)) gZ gT gO (ItAt.new k1 g1) (ItAt.new k2 g2)
  (p1.at λo e=>kp _ _ e) (p2.at λo e=>kp _ _ e) (by show l1<(jX s1.heap k1 k2 l1 l2).objs.size;rw[zZ];exact L0 (lt p1) (E2 _ _)) (by show l2<(jX s1.heap k1 k2 l1 l2).objs.size;rw[zZ];exact L0 (lt p2) (E2 _ _)) ?_ ?_ ?_ ?_
 .intro h' kk e;dsimp only at e;rw[zZ]at e;exact ⟨λb o x=>kk b o (kp b o x),[],.nil,_,#[],0,e,⟨rfl,rfl,rfl⟩,rfl,rfl⟩
 .rintro i h1 h2 ⟨kk,vs,rel,o',es,ep,ho,rest⟩ k3;have far:∀{b:Addr},b<s1.heap.objs.size->b≠s1.heap.objs.size+4/\b≠s1.heap.objs.size+3/\b≠s1.heap.objs.size/\b≠s1.heap.objs.size+1:=λ{b} z=>⟨FW 4 z,FW 3 z,FW 0 z,FW 1 z⟩;refine ⟨λb o x=>?_,vs,rel,o',es,ep,?_,rest⟩
  .obtain⟨f1,f2,f3,f4⟩:=far (u0 x);exact k3 b o f1 f2 f3 f4 (kk b o x)
  .refine k3 _ _ ?_ ?_ ?_ ?_ ho<;>(show ¬(@Eq Nat _ _))<;>lia
 .rintro i x y s' Q' E' hi hx hy ⟨kk,vs,rel,o',es,ep,ho,a1,a2,a3⟩ hq';dsimp only at hq' ⊢;rw[zZ]at hq' ⊢;obtain⟨y1,ey1,ry1⟩:=rv1.getV (by simpa using hx);obtain⟨y2,ey2,ry2⟩:=rv2.getV (by simpa using hy);obtain⟨⟨k,b,v⟩,hxi⟩:∃x,xs[i]?=some x:=⟨_,A0 hi⟩;rw[Q0,hxi]at ey1 ey2;cases ey1;cases ey2;cases ry1;have hxm:(k,b,v)∈xs:=B1 hxi;have hvl:=uU rel;rw[P4]at hvl;have hz2:vs.length<=sizeLine:=by lia
  have hfr:=iz hnd hxi;rw[<-PZ rel]at hfr;have hvn:(vs.map (·.1)).Nodup:=by rw[PZ rel,List.map_take];exact hnd.sublist (M7 _ _)
  refine wpAny_dictSet_heap (hsz:=hz2) (knd:=tupleKind (intKind X.prog X.w)) hu (key hxm kk) ⟨o',es,ep,ho,a1,a2,a3,λu hu'=>?_,hvn⟩ λh' dd' sb=>hq' h' _ ⟨λc o e=>?_,vs++[(k,b,y)],?_,?_⟩ sb
  .obtain⟨x',hx',r1,r2,_⟩:=TY rel u hu';have:=key (F8 hx') kk;rw[r1,r2]at this;exact this
  .have hc:c<s1.heap.objs.size:=u0 e;exact (sb.2 c (FW 5 hc)).trans (kk c o e)
  .rw[Nx hxi];exact HW rel ⟨rfl,rfl,ry2⟩
  .obtain⟨q,es,ep,hq,h2,h3,h4,_,h5⟩:=dd';rw[storedH_new (cE hfr)]at h4;exact ⟨q,es,ep,hq,h2,h3,h4⟩
 .rintro h' tk ⟨kk,vs,rel,o',es,ep,f1,f2,f3,f4⟩;rw[Q6 (M0 _)]at rel;have hfr:H1 (s1.heap.objs.size+5)=none:=I1.hok.fresh (E2 _ _);dsimp only;rw[zZ];refine ⟨.ref (s1.heap.objs.size+5),_,I1.laid (t':=tk) kk (E2 _ _) (show ObjOk X.prog X.w _ h' _ (yX hL (s1.heap.objs.size+5) ep xs) from ⟨⟨⟨vs,rel,o',es,f1,f2,f3,f4⟩,hnd,hz5,hb⟩,⟨o',f1⟩,λh1 h2 z k=>?_⟩),rfl,q _ ep hfr⟩;obtain⟨⟨vs,r,o,es,g1,g2⟩,g3⟩:=z;exact ⟨⟨vs,r,o,es,k _ g1,g2⟩,g3⟩
end L2
namespace L3
open L2
noncomputable abbrev tI(k:Qa):D:=.tuple (k.map j0)
noncomputable abbrev b2(k:Qa×Qa):D:=.tuple [tI k.1,tI k.2]
section
variable {K:Fg}{F:Hp}
theorem qD:∀{ks:Qa}{xs:List V},DaAll K F xs (ks.map j0)->xs=ks.map V.int
 |[],_,h=>by cases h;rfl
 |k::ks,_,h=>by
  cases h with
  |cons h t=>rw[qD t];cases h;rfl
def SL(h:Da K F v (tI k)):∃b,v=.ref b/\F b=some (.tup (k.map V.int)):=by
 cases h with
 |tup e t=>have:=qD t;subst this;exact ⟨_,rfl,e⟩
def rD{d0:D}(h:Da K F v (.dict [(.bool false,d0)])):(∃a,v=.ref a/\d0=.none/\F a=some (EI a))\/(∃a a' ep xs ps,v=.ref a/\F a=some (yX hL a' ep xs)/\DaPd K F xs ps/\d0=.list (ps.map λp=>.tuple [tI p.1,p.2])) \/ ∃a a' ep xs ps,v=.ref a/\F a=some (yX hB a' ep xs)/\DaBd K F xs ps/\d0=.tuple (ps.map λp=>.tuple [b2 p.1,p.2]):=by
 generalize e0:(PyData.dict [(.bool false,d0)])=d at h;cases h with
 |opq q=>cases e0;exact .inl ⟨_,rfl,rfl,q⟩
 |pd q t=>injection e0 with e0;injection e0 with e0 _;injection e0 with _ e0;exact .inr (.inl ⟨_,_,_,_,_,rfl,q,t,e0⟩)
 |bd q t=>injection e0 with e0;injection e0 with e0 _;injection e0 with _ e0;exact .inr (.inr ⟨_,_,_,_,_,rfl,q,t,e0⟩)
 |dk q t =>
  injection e0 with e0;subst e0;generalize e9:([(K4 false,d0)]:List (D×D))=es at t;cases t with
  |nil=>cases e9
  |@cons k _ _ _ _ _ _=>cases k<;>cases e9
 |dt q t =>
  injection e0 with e0;subst e0;generalize e9:([(K4 false,d0)]:List (D×D))=es at t;cases t with
  |nil=>cases e9
  |cons _ _=>cases e9
 |_=>cases e0
theorem DaPd.get:∀{xs:List (Qa×Addr×V)}{ps:List (Qa×D)},DaPd K F xs ps->∀{i:Nat}{x:Qa×Addr×V},xs[i]?=some x->∃d,ps[i]?=some (x.1,d)/\F x.2.1=some (.tup (x.1.map V.int))/\Da K F x.2.2 d
 |_,_,.nil,i,x,h=>by simp at h
 |_,_,.cons e h t,0,x,z=>by simp only[Z7,Option.some.injEq]at z;subst z;exact ⟨_,rfl,e,h⟩
 |_,_,.cons e h t,i+1,x,z=>by simp only[X3]at z;exact DaPd.get t z
theorem DaPd.length:∀{xs:List (Qa×Addr×V)}{ps:List (Qa×D)},DaPd K F xs ps->xs.length=ps.length
 |_,_,.nil=>rfl
 |_,_,.cons _ _ t=>by simp[DaPd.length t]
def Rel.newE{G:Gh}{σ:L2.St}{a:Addr}{o:HO}(R:Rel K G F σ H ρ)(h:H a=none)(hk:stk o=false:=by rfl):Sub F (DQ F a o)/\Rel K G (DQ F a o) σ (DQ H a o) ρ:=by have R1:Rel K G F σ (DQ H a o) ρ:=R.laid h;refine R1.grow (a:=a) (o:=o) (R.h0 h) kQ (λi s e w z=>?_) hk;obtain⟨a',o',h1,h2,h3,h4⟩:=R.ow i s e w;rw[z]at h1;cases h1;rw[h]at h3;cases h3
end
def uO:D->D->(Sl->Prop)->Prop:=λd e Q=>∃ps:List (Qa×D),pL d=some (ps.map λp=>tI p.1)/\pL e=some (ps.map (·.2))/\(ps.map (·.1)).Nodup/\Q (.fz (XZ ps))
theorem Ox{K:Fg}{F:Hp}:∀{ps:List (Qa×D)}{ys1 ys2:List V},DaAll K F ys1 (ps.map λp=>tI p.1)->DaAll K F ys2 (ps.map (·.2)) -> ∃xs:List (Qa×Addr×V),xs.map (·.1)=ps.map (·.1)/\ys1=xs.map (λx=>V.ref x.2.1)/\ys2=xs.map (λx=>x.2.2)/\(∀x∈xs,F x.2.1=some (.tup (x.1.map V.int)))/\DaPd K F xs ps
 |[],_,_,h1,h2=>by cases h1;cases h2;exact ⟨[],rfl,rfl,rfl,λx hx=>(by cases hx),.nil⟩
 |p::ps,_,_,h1,h2=>by
  cases h1 with
  |@cons v _ _ _ h1 t1 =>
   cases h2 with
   |@cons u _ _ _ h2 t2 =>
    obtain⟨xs,e1,e2,e3,e4,e5⟩:=Ox t1 t2;obtain⟨b,rfl,eb⟩:=SL h1;refine ⟨(p.1,b,u)::xs,by simp[e1],by simp[e2],by simp[e3],λx hx=>?_,.cons eb h2 e5⟩;rcases Y0.mp hx with z|z
    .subst z;exact eb
    .exact e4 x z
def TL{K:Fg}:UQ K (tO K) (o2 uO):=by
 intro G F σ H ρ vs ds Q Qd R ha w k;rcases ds with _|⟨d,_|⟨e,_|⟨e3,ds⟩⟩⟩<;>first|exact w.elim|skip
 .obtain⟨v1,v2,rfl,h1,h2⟩:=ha.two;obtain⟨ps,e1,e2,nd,w⟩:=w;obtain⟨k1,l1,ys1,rfl,q1,d1⟩:=h1.seq R.sub e1;obtain⟨k2,l2,ys2,rfl,q2,d2⟩:=h2.seq R.sub e2;obtain⟨xs,g1,g2,g3,g4,g5⟩:=Ox d1 d2;rw[g2]at q1;rw[g3]at q2;refine ⟨k1,l1,k2,l2,xs,rfl,q1,q2,λx hx=>R.sub _ _ (g4 x hx),by rw[g1];exact nd,λl ep hl=>?_⟩;obtain⟨sb,R'⟩:=R.newE (o:=yX hL l ep xs) hl;exact k _ _ _ (.fz (XZ ps)) sb R' (Da.pd kQ (g5.mono sb)) w
section
variable {K:Fg}{e e1 e2:Expr}{a b:AD}{p pos p2 tpos apos cpos:Pos}
def QN(hK:X.K=K)(hc:X.calm=true)(hu:X.A.units+2<cLine)(hm:X.mg "dict"=none)(hv:bootBuiltins "dict"=some (.type "dict"))(hm2:X.mg "zip"=none)(ha:WA X [e1,e2] (rQ ([a,b].map (jQ K))))(hg:Gl X "dict":=by rfl)(hg2:Gl X "zip":=by rfl)(he:notStar e1=true:=by rfl)(he2:notStar e2=true:=by rfl) :
  WE X (.Call (.Name "dict" p) [.Call (.Name "zip" p2) [e1,e2] [] pos'] [] pos) (lift K (eY [a,b] (o2 uO))):=by
 subst hK;exact ⟨yY (RL hc hu hg hm hv hg2 hm2 ha.h (starEach_of he) (AQ (by simp[he2])) (starEach_of rfl) (AQ rfl)) λq=>XW TL q⟩
end
end L3
namespace L2
section
variable {w:World}
def wH:Builtin.Dict_items.ownsTuple "dict_keyiterator"=false:=by decide
def Iy{od:Obj}{Q:Option Value->Shared->Prop}(x:s.heap.IsKeyIter it d i es.size ep)(y:s.heap.get? d=some od)(yd:od.data=.dict es ep)(hi:i<es.size)(q:∀h',h'.IsKeyIter it d (i+1) es.size ep->B3 it s.heap h'->Q (some es[i].key) {s with heap:=h'}):wpAny (model prog w) A (pyNext (.ref it)) Q E s:=by
 obtain⟨o,e1,e2,e3⟩:=id x;have ty:=x.typeIs;unfold pyNext;refine wpAny_bind (wpAny_attempt (wpAny_callSpecial?_slot (name:=Str.ofString "__next__") ty F.slot_dict_keyiterator_next (wpAny_call_entry F.slot_dict_keyiterator_next ty F.entry_dict_keyiterator_next ?_ (F.args_dict_keyiterator_next_1 _))));refine wpAny_bind (wpAny_pure (wpAny_bind (wpAny_bind ?_)));first|refine wpAny_bind (wpAny_typeNameOfWhole_keyiter ty (wpAny_pure ?_))|refine wpAny_bind (wpAny_typeNameOf_keyiter ty (wpAny_pure ?_))
 refine wpAny_bind (wpAny_fieldsOf e1 e3 ?_);simp only[wH,T1,if_false];show wpAny _ _ (if (Q2 d==T4)=true then _ else _) _ _ _;rw[if_neg (nD d)];refine wpAny_bind (wpAny_pure (wpAny_bind (wpAny_dictEntries y yd ?_)));rw[if_neg (by simp)];refine wpAny_bind (wpAny_pure (wpAny_bind (wpAny_dictEpoch y yd ?_)));rw[if_neg (by simp)];refine wpAny_pure ?_;simp only[show ¬((i:Int)<0) from by lia,if_false,V5,v3 hi];refine wpAny_bind ?_;first|refine wpAny_bind (wpAny_typeNameOfWhole_keyiter ty (wpAny_pure ?_))|refine wpAny_bind (wpAny_typeNameOf_keyiter ty (wpAny_pure ?_))
 refine wpAny_bind (wpAny_isOneOf_keyiter ty ?_);show wpAny _ _ (setField (.ref it) 1 (rawInt ((i:Int)+1)) >>= _) _ _ s;refine wpAny_bind (wpAny_setField e1 e3 (by simp) ?_);obtain⟨h1,z1⟩:∃h1,h1=s.heap.update it (Obj.mapFields (·.setIfInBounds 1 (rawInt ((i:Int)+1)))):=⟨_,rfl⟩;have x1:h1.IsKeyIter it d (i+1) es.size ep:=by rw[z1];exact ⟨_,X1 _ e1 (n8 (w6 e3 _)),(Obj.cls_mapFields ..).trans e2,by rw[w6 e3];simp[rawInt]⟩
 have b1:B3 it s.heap h1:=by rw[z1];exact G5 ..
 rw[<-z1];refine wpAny_bind (wpAny_holding (wpAny_bind (wpAny_isOneOf_keyiter (s:={s with heap:=h1}) x1.typeIs ?_)));show wpAny _ _ (pure es[i].key) _ _ _;exact wpAny_pure (wpAny_pure ⟨_,rfl,wpAny_pure (q h1 x1 b1)⟩)
def dE{od:Obj}{Q:Option Value->Shared->Prop}(hh:A.handled=none)(x:s.heap.IsKeyIter it d i es.size ep)(y:s.heap.get? d=some od)(yd:od.data=.dict es ep)(hi:es.size<=i)(q:∀h',i9 it s.heap h'->Q none {s with heap:=h'}):wpAny (model prog w) A (pyNext (.ref it)) Q E s:=by
 obtain⟨o,e1,e2,e3⟩:=id x;have ty:=x.typeIs;unfold pyNext;refine wpAny_bind (wpAny_attempt (wpAny_callSpecial?_slot (name:=Str.ofString "__next__") ty F.slot_dict_keyiterator_next (wpAny_call_entry F.slot_dict_keyiterator_next ty F.entry_dict_keyiterator_next ?_ (F.args_dict_keyiterator_next_1 _))));refine wpAny_bind (wpAny_pure (wpAny_bind (wpAny_bind ?_)));first|refine wpAny_bind (wpAny_typeNameOfWhole_keyiter ty (wpAny_pure ?_))|refine wpAny_bind (wpAny_typeNameOf_keyiter ty (wpAny_pure ?_))
 refine wpAny_bind (wpAny_fieldsOf e1 e3 ?_);simp only[wH,T1,if_false];show wpAny _ _ (if (Q2 d==T4)=true then _ else _) _ _ s;rw[if_neg (nD d)];refine wpAny_bind (wpAny_pure (wpAny_bind (wpAny_dictEntries y yd ?_)));rw[if_neg (by simp)];refine wpAny_bind (wpAny_pure (wpAny_bind (wpAny_dictEpoch y yd ?_)));rw[if_neg (by simp)];refine wpAny_pure ?_;simp only[show ¬((i:Int)<0) from by lia,if_false,V5,Array.getElem?_eq_none hi];refine wpAny_bind ?_;first|refine wpAny_bind (wpAny_typeNameOfWhole_keyiter ty (wpAny_pure ?_))|refine wpAny_bind (wpAny_typeNameOf_keyiter ty (wpAny_pure ?_))
 show wpAny _ _ (setField (.ref it) 0 .none >>= _) _ _ s;refine wpAny_bind (wpAny_setField e1 e3 (by simp) ?_);show wpAny _ _ (newExc (.type "StopIteration") [] >>= _) _ _ _;refine wpAny_bind ?_;simp only[newExc,newTuple];refine wpAny_bind (wpAny_newObj_type ?_ (by size_fits));refine wpAny_bind (m:=firstArgMember _ _) (wpAny_of_eq (a:=T4) (by first|rfl|(simp only[firstArgMember];rfl)) ?_);refine wpAny_newObj_type ?_ (by size_fits);simp only[raiseNew];refine wpAny_bind (wpAny_handled ?_);rw[show A.in1.handled=none from hh];refine wpAny_bind (wpAny_pure (wpAny_throw ?_));refine wpAny_bind (wpAny_isInstance (b:=true) (T:="StopIteration") ⟨_,v0 _ rfl,rfl⟩ isSubtype_stop ?_);exact wpAny_pure (q _ (((G5 ..).extBut.push _).push _))
def Jy{od:Obj}(hm:(d==sysModules)=false)(y:s.heap.get? d=some od)(hx:od.ExactDict)(yd:od.data=.dict es ep)(q:Q (.ref s.heap.objs.size) {s with heap:=s.heap.push {cls:=.type "dict_keyiterator",data:=.fields #[.ref d,.int 0 0,.int es.size 0,.int ep 0]}}):wpAny (model prog w) A (pyIter (.ref d)) Q E s:=by
 have ty:s.TypeIs (.ref d) "dict":=⟨od,y,hx.1⟩;refine wpAny_pyIter_slot ty F.slot_dict_iter (wpAny_call_entry F.slot_dict_iter ty F.entry_dict_iter ?_ (F.args_dict_iter_1 _));unfold Builtin.«dict.__iter__»;refine wpAny_bind ?_;unfold Builtin.Dict.dictSlotNone;refine wpAny_bind (wpAny_notOrdered_dict ty ?_);show wpAny _ _ (pure (Q2 d)) _ _ s;refine wpAny_pure ?_;show wpAny _ _ (o8 d >>= _) _ _ s;unfold o8;rw[if_neg (by rw[hm];decide)];refine wpAny_bind (wpAny_pure (wpAny_bind (wpAny_dictEntries y yd (wpAny_bind (wpAny_dictEpoch y yd ?_)))));refine wpAny_bind (wpAny_newObj_type (wpAny_pure ⟨_,rfl,"dict_keyiterator",_,⟨_,v0 _ rfl,rfl⟩,F.slot_dict_keyiterator_next.lookup,?_⟩));simpa [rawInt]using q
end
noncomputable def PM{κ:Type}(hs:κ->Int)(d d':Addr)(ep:Nat)(xs:List (κ×Addr×V)):It :=
 ⟨λi H=>H d=some (yX hs d' ep xs)/\i<xs.length,
  λi H x H'=>∃k b v,x=.ref b/\H'=H/\xs[i]?=some (k,b,v),
  λi H=>H d=some (yX hs d' ep xs)/\xs.length<=i⟩
section
variable {κ:Type}{hs:κ->Int}
def jz{K:B0}(it d d':Addr)(ep:Nat)(xs:List (κ×Addr×V)):Turn P w K tg (PM hs d d' ep xs) [it] it (λi h=>h.IsKeyIter it d i xs.length ep) where
 mem:=by simp
 obj:=λi h st b hb=>by
  have e:b=it:=by simpa using hb
  subst e;obtain⟨o,e,c,d⟩:=st;exact ⟨o,e,λv z=>by rw[d]at z;cases z⟩
 keep:=λi h h' st k=>st.at λo e=>k it (by simp) o e
 item:=by
  intro X hP hw hK hc i pins s σ H E I hf st hg;subst hP hw hK;obtain⟨hd,hi⟩:=hg;obtain⟨vs,o,es,pr,e1,e2,e3,e4,hz,_⟩:=ext_at I hd;obtain⟨⟨k,b,v⟩,hx⟩:∃x,xs[i]?=some x:=⟨_,A0 hi⟩;obtain⟨⟨k',b',u⟩,hv,r1,r2,r3⟩:=tU pr hx;have r2:b=b':=r2;subst r2;have hi':i<es.size:=by rw[hz];exact hi
  have hent:es[i].key=.ref b:=by
   have q:es.toList[i]?=some (⟨hs k',.ref b,u⟩:DictEntry):=by rw[e4,Q0,hv];rfl
   have q2:es.toList[i]?=some es[i]:=by simp[hi']
   rw[q2]at q;rw[O1 q]
  obtain⟨f0,f1,f2,f3,f4,f5⟩:=hf it (by simp);rw[<-hz]at st;refine Iy st e1 e3 hi' λh' st' sb=>?_;have I1:Inv X pins σ H {s with heap:=h'}:=I.turned (t':=s.toks) (λb o hb e=>(sb.2 b hb).trans e) f0 f1 f3 f4 f5;obtain⟨o',g1,g2,g3⟩:=id st';rw[hent];rw[hz]at st';exact ⟨.ref b,rfl,rF (s:={s with heap:=h'}) g1 g2 g3 (by decide) ⟨.ref b,H,I1,rfl,⟨k,b,v,rfl,rfl,hx⟩,st',λc hb=>(hf c hb).1⟩⟩
 done:=by intro X hP hw hK hc i pins s σ H E I hf st hg;subst hP hw hK;obtain⟨hd,hi⟩:=hg;obtain⟨vs,o,es,pr,e1,e2,e3,e4,hz,_⟩:=ext_at I hd;obtain⟨f0,f1,f2,f3,f4,f5⟩:=hf it (by simp);rw[<-hz]at st;exact dE (I.ok.hd hc) st e1 e3 (by lia) λh' eb=>⟨rfl,I.turned (t':=s.toks) (λb o hb e=>eb b o hb e) f0 f1 f3 f4 f5⟩
 self:=λ_ _ _ _ _ st h=>wpAny_pyIter_keyiter st h
def Tu(hs:κ->Int)(to:TE):TI:=λσ H R=>to σ H λx H1=>∃(d d':Addr) (ep:Nat) (xs:List (κ×Addr×V)),x=.ref d/\H1 d=some (yX hs d' ep xs)/\R (PM hs d d' ep xs) H1
def Ky{o:Expr}(ho:PE X o to):PI X tg o (Tu hs to):=by
 intro pins s σ H R I h;refine eX (ho pins s σ H _ I h) λv s1 ⟨x,H1,I1,r1,d,d',ep,xs,ex,hd,q1⟩=>?_;subst ex;cases r1;obtain⟨vs,ob,es,pr,e1,e2,e3,e4,hz,_,_,hm⟩:=ext_at I1 hd;refine Jy hm e1 e2 e3 ?_;rw[hz];refine ⟨_,[s1.heap.objs.size],_,_,H1,rfl,I1.kept (t':=s1.toks) (λb oc e=>i0 _ e),jz (hs:=hs) s1.heap.objs.size d d' ep xs,⟨_,v0 _ rfl,rfl,rfl⟩,λb hb=>?_,q1⟩;have hb:b=s1.heap.objs.size:=by simpa using hb
 subst hb;exact I1.fpOk (M0 _) (I1.hok.fresh (M0 _))
end
end L2
namespace L3
open L2
noncomputable def rY(L:List D):List D:=L.map λd=>match d with
 | .tuple (x::_)=>x
 |_=>.none
noncomputable def Px(a:AD):UU:=λρ Q=>nX [a] ρ λxs ρ1=>match NQ ρ1 xs with
 |true=>False
 |false=>JQ ρ1 xs λds=>match ds with
  |[.dict [(.bool false,.list L)]]=>Q (rY L) ρ1
  |_=>False
def JV(ps:List (Qa×D)):rY (ps.map λp=>.tuple [tI p.1,p.2])=ps.map λp=>tI p.1:=by unfold rY;rw[O0];rfl
def OG{K:Fg}(e1:F a=some (yX hL a' ep xs))(h1:DaPd K F xs ps):Walks K (PM hL a a' ep xs) F (ps.map λp=>tI p.1):=λi H F1 s1 s2=>by
 have hl:=h1.length;refine ⟨λd ed=>?_,λhz=>⟨s2 _ _ (s1 _ _ e1),by rw[q0]at hz;lia⟩⟩;have hi:i<xs.length:=by have:=(S0.mp ed).1;rw[q0]at this;lia
 refine ⟨⟨s2 _ _ (s1 _ _ e1),hi⟩,λz H' ⟨k,b,v,ex,eH,hx⟩=>?_⟩;subst ex eH;obtain⟨d',g1,g2,g3⟩:=h1.get hx;rw[Q0,g1]at ed;cases ed;exact ⟨F1,Sub.refl _,λc o ec=>.inl ec,λc o ec=>s2 _ _ ec,Sub.refl _,.tup (s1 _ _ g2) (DaAll.ints _)⟩
def eE{K:Fg}(h:kX K (Px a) σ H R):Tu hL (jQ K a) σ H R:=by
 obtain⟨G,F,ρ,Qd,Rl,w,k⟩:=h;refine TU (P:=λx H1=>∃(d d':Addr) (ep:Nat) (xs:List (Qa×Addr×V)),x=.ref d/\H1 d=some (yX hL d' ep xs)/\R (PM hL d d' ep xs) H1) (bX Rl w λvs H' F' xs ρ' sb R' o w1=>?_);split at w1
 .exact w1.elim
 rename_i m;obtain⟨ds,da,w1⟩:=RQ R' m o w1;split at w1
 .rename_i L;cases da with
  |cons d1 t =>
   cases t;rcases rD d1 with⟨a,_,z,_⟩|⟨a,a',ep,ys,qs,rfl,e1,g1,z⟩|⟨a,_,ep,ys,qs,_,_,_,z⟩
   .cases z
   .injection z with z;subst z;rw[JV]at w1;exact ⟨_,rfl,a,a',ep,ys,rfl,R'.sub _ _ e1,k _ H' F' _ ρ' sb R' (OG e1 g1) w1⟩
   .cases z
 .exact w1.elim
section
variable {K:Fg}{e1:Expr}{a:AD}
def Qx(ha:WE X e1 (jQ K a)):WI X tg e1 (kX K (Px a)):=⟨cC (Ky ha.h) eE⟩
end
end L3
namespace L2
noncomputable def WJ{α:Type}(xs:List (Qa×Addr×α))(k:Qa)(b:Addr)(v:α):List (Qa×Addr×α):=if k∈xs.map (·.1) then xs.map (λx=>if x.1=k then (x.1,x.2.1,v) else x) else xs++[(k,b,v)]
def xH:storedH vs k b u=WJ vs k b u:=by
 unfold storedH WJ;have e:(atKey vs k).isSome=true↔k∈vs.map (·.1):=by
  unfold atKey;rw[h9,List.find?_isSome];constructor
  .rintro⟨x,hx,e⟩;exact J0.mpr ⟨x,hx,of_decide_eq_true e⟩
  .intro h;obtain⟨x,hx,e⟩:=J0.mp h;exact ⟨x,hx,decide_eq_true e⟩
 by_cases z:k∈vs.map (·.1)
 .rw[if_pos (e.mpr z),if_pos z];rfl
 .rw[if_neg (λy=>z (e.mp y)),if_neg z]
def Rx(xs:List (Qa×Addr×α))(k:Qa)(b:Addr)(v:α):(WJ xs k b v).length<=xs.length+1:=by
 unfold WJ;split
 .rw[q0];lia
 .rw[U0];simp
def QG{xs:List (Qa×Addr×α)}{v:α}(h:(xs.map (·.1)).Nodup):((WJ xs k b v).map (·.1)).Nodup:=by
 unfold WJ;split
 .rw[O0];have e:((λx:Qa×Addr×α=>x.1)∘λx=>if x.1=k then (x.1,x.2.1,v) else x)=λx=>x.1:=by
   funext x;show (if x.1=k then (x.1,x.2.1,v) else x).1=x.1;split<;>rfl
  rw[e];exact h
 .rename_i z;rw[U3,List.nodup_append];refine ⟨h,by simp,λa ha b hb e=>?_⟩;have hb:b=k:=by simpa using hb
  rw[e,hb]at ha;exact z ha
def Ux(h:Paired (λx v=>x.1=v.1/\x.2.1=v.2.1/\RelV x.2.2 v.2.2) xs vs)(r:RelV v u):Paired (λx v=>x.1=v.1/\x.2.1=v.2.1/\RelV x.2.2 v.2.2) (WJ xs k b v) (WJ vs k b u):=by
 unfold WJ;rw[PZ h];split
 .rename_i z;clear z;induction h with
  |nil=>exact .nil
  |@cons x y l m r1 t ih =>
   refine .cons ?_ ih;obtain⟨a1,a2,a3⟩:=r1;by_cases z:x.1=k
   .have z2:y.1=k:=a1.symm.trans z;dsimp only;rw[if_pos z,if_pos z2];exact ⟨a1,a2,r⟩
   .have z2:¬y.1=k:=λq=>z (a1.trans q);dsimp only;rw[if_neg z,if_neg z2];exact ⟨a1,a2,a3⟩
 .exact HW h ⟨rfl,rfl,r⟩
def RG{Q:Unit->Shared->Prop}(hu:A.units+1<cLine)(I:Inv X pins σ H s)(e:H d=some (yX hL d' ep xs)) (hky:∀x∈xs,H x.2.1=some (.tup (x.1.map V.int))) (hk:H b=some (.tup (k.map V.int))) (rv:RelV v u) (hl:xs.length<sizeLine)(q:∀ep' s',Inv X pins σ (DQ H d (yX hL d ep' (WJ xs k b v))) s'->Q () s'):wpAny (model X.prog X.w) A (setItem (.ref d) (.ref b) u) Q E s:=by
 obtain⟨vs,o,es,pr,e1,e2,e3,e4,hz,nd,_,hm⟩:=ext_at I e;have key:∀{k:Qa}{b:Addr},H b=some (.tup (k.map V.int))->(tupleKind (intKind X.prog X.w)).is s.heap k b:=λ{k b} hb=>by obtain⟨_,its,r,o,h1,h2,n,h3,_⟩:=(show ObjOk X.prog X.w H s.heap b (.tup (k.map V.int)) from I.hok _ _ hb);exact ⟨o,its.toArray,n,h1,h2,h3,by simpa using KK r⟩
 have hvl:=uU pr;refine wpAny_setItem_heap (hsz:=by lia) (knd:=tupleKind (intKind X.prog X.w)) (tupleKind_room_in1 hu) (key hk) ⟨o,es,ep,e1,e2,e3,e4,λx hx=>?_,by rw[PZ pr];exact nd⟩ λh' dd' sb=>?_
 .obtain⟨y,hy,r1,r2,_⟩:=TY pr x hx;have:=key (hky y hy);rw[r1,r2]at this;exact this
 .obtain⟨o2,es2,ep2,g1,g2,g3,g4,_,g5⟩:=dd';rw[xH]at g4;have hlen:=Rx xs k b v;refine q ep2 _ (OY I (by rw[e];exact True.intro) sb ⟨o2,g1⟩ ⟨⟨⟨WJ vs k b u,Ux pr rv,o2,es2,g1,g2,g3,g4⟩,QG nd,by lia,hm⟩,⟨o2,g1⟩,λh1 h2 z k'=>?_⟩);obtain⟨⟨vs',r',o',es',f1,f2⟩,f3⟩:=z;exact ⟨⟨vs',r',o',es',k' _ f1,f2⟩,f3⟩
def Uu(td ty tv:TE):TS:=λE σ H=>tv σ H λv H1=>td σ H1 λx H2=>ty σ H2 λy H3=>∃(d d' b:Addr) (ep:Nat) (xs:List (Qa×Addr×V)) (k:Qa),x=.ref d/\y=.ref b/\H3 d=some (yX hL d' ep xs)/\(∀z∈xs,H3 z.2.1=some (.tup (z.1.map V.int))) /\
 H3 b=some (.tup (k.map V.int))/\xs.length<sizeLine/\∀ep',E.nx σ (DQ H3 d (yX hL d ep' (WJ xs k b v)))
def Ly{o:Expr}(hu:X.A.units+1<cLine)(ho:PE X o td)(hi:PE X i ty)(hv:PE X value tv)(hs:swapsWith value (some (.Subscript o i pos')) pos.line X.env=pure false):PS X (.Assign [.Subscript o i pos'] value pos) (Uu td ty tv):=by
 intro pins s σ H D I h;refine wpAny_Assign_Subscript (eX (hv pins s σ H _ I h) λr s1 ⟨v,H1,I1,rv,q1⟩=>eX (ho pins s1 σ H1 _ I1 q1) λu s2 ⟨x,H2,I2,rx,q2⟩=>eX (hi pins s2 σ H2 _ I2 q2) λiv s3 ⟨y,H3,I3,ry,d,d',b,ep,xs,k,ex,ey,e1,e2,e3,e4,q3⟩=>?_) hs;subst ex ey;obtain rfl:u=Q2 d:=rx;obtain rfl:iv=Q2 b:=ry;exact RG hu I3 e1 e2 e3 rv e4 λep' s4 I4=>⟨σ,_,I4,q3 ep'⟩
def Vx:TE:=λ_ H Q=>∀p,H p=none->Q (.ref p) (DQ H p (yX hL p 0 []))
def Wx:PE X (.Dict [] [] pos) Vx:=λpins s σ H Q I h =>
 wpAny_Dict_empty ⟨.ref s.heap.objs.size,_,I.laid (a:=s.heap.objs.size) (o:=yX hL s.heap.objs.size 0 []) (t':=s.toks) (λ_ _ q=>i0 _ q) (M0 _)
   ⟨⟨⟨[],.nil,_,#[],v0 _ rfl,⟨rfl,rfl,rfl⟩,rfl,rfl⟩,List.nodup_nil,P3 _,beq_eq_false_iff_ne.mpr (Y1 (N0 I.big))⟩,⟨_,v0 _ rfl⟩,λh1 h2 z k=>by obtain⟨⟨vs,r,o,es,g1,g2⟩,g3⟩:=z;exact ⟨⟨vs,r,o,es,k _ g1,g2⟩,g3⟩⟩,rfl,h _ (I.hok.fresh (M0 _))⟩
end L2
namespace L3
open L2
noncomputable def jZ(ps:List (Qa×D))(k:Qa)(d:D):List (Qa×D):=if k∈ps.map (·.1) then ps.map (λx=>if x.1=k then (x.1,d) else x) else ps++[(k,d)]
theorem DaPd.keys{K:Fg}{F:Hp}:∀{xs:List (Qa×Addr×V)}{ps:List (Qa×D)},DaPd K F xs ps->xs.map (·.1)=ps.map (·.1)
 |_,_,.nil=>rfl
 |_,_,.cons _ _ t=>by simp only[E1,DaPd.keys t]
theorem DaPd.at{K:Fg}{F:Hp}:∀{xs:List (Qa×Addr×V)}{ps:List (Qa×D)},DaPd K F xs ps->∀z∈xs,F z.2.1=some (.tup (z.1.map V.int))
 |_,_,.nil,z,h=>by cases h
 |_,_,.cons e _ t,z,h=>by
  rcases Y0.mp h with q|q
  .subst q;exact e
  .exact DaPd.at t z q
theorem DaPd.snoc{K:Fg}{F:Hp}{k:Qa}{b:Addr}{v:V}{d:D}(hb:F b=some (.tup (k.map V.int)))(hv:Da K F v d):∀{xs:List (Qa×Addr×V)}{ps:List (Qa×D)},DaPd K F xs ps->DaPd K F (xs++[(k,b,v)]) (ps++[(k,d)])
 |_,_,.nil=>.cons hb hv .nil
 |_,_,.cons e h t=>.cons e h (DaPd.snoc hb hv t)
theorem DaPd.repl{K:Fg}{F:Hp}{k:Qa}{v:V}{d:D}(hv:Da K F v d):∀{xs:List (Qa×Addr×V)}{ps:List (Qa×D)},DaPd K F xs ps->DaPd K F (xs.map λx=>if x.1=k then (x.1,x.2.1,v) else x) (ps.map λx=>if x.1=k then (x.1,d) else x)
 |_,_,.nil=>.nil
 |_,_,@DaPd.cons _ _ k' b' v' d' xs ps e h t=>by
  have ih:=DaPd.repl (k:=k) hv t;rw[E1,E1];by_cases z:k'=k
  .dsimp only;rw[if_pos z,if_pos z];exact .cons e hv ih
  .dsimp only;rw[if_neg z,if_neg z];exact .cons e h ih
def DaPd.put{K:Fg}(h:DaPd K F xs ps)(hb:F b=some (.tup (k.map V.int)))(hv:Da K F v d):DaPd K F (WJ xs k b v) (jZ ps k d):=by
 unfold WJ jZ;rw[h.keys];split
 .exact h.repl hv
 .exact h.snoc hb hv
noncomputable def Vu(j:Nat)(ak:AD)(te:TD):mJ:=λE ρ=>te ρ λr ρ1=>match ρ1[j]? with
 |some (some _)=>nX [ak] ρ1 λxs ρ2=>match NQ ρ2 xs with
  |true=>False
  |false=>JQ ρ2 xs λds=>match ρ2[j]? with
   |some (some s)=>∃(k:Qa) (ps:List (Qa×D)),ds=[tI k]/\s.d=XZ ps/\PQ s=true/\ps.length<sizeLine/\E.nx (ρ2.set j (some (s.put (XZ (jZ ps k r.d)))))
   |_=>False
 |_=>False
def fE{K:Fg}{E:Ends}(h:oQ K (Vu j ak te) E σ H):Uu (CZ j) (jQ K ak) (lift K te) E σ H:=by
 obtain⟨G,F,ρ,D,R,w,n,r,b,c⟩:=h;refine ⟨G,F,ρ,_,R,w,λv H1 F1 x ρ1 s1 R1 r1 w1=>?_⟩;obtain⟨F2,s2,R2,d2⟩:=r1.frz R1;split at w1
 .rename_i s0 e0;obtain⟨u,eu⟩:=R2.bound e0;refine ⟨u,eu,TU (P:=λy H3=>∃(d d' b:Addr) (ep:Nat) (xs:List (Qa×Addr×V)) (k:Qa),u=.ref d/\y=.ref b/\H3 d=some (yX hL d' ep xs)/\(∀z∈xs,H3 z.2.1=some (.tup (z.1.map V.int))) /\
    H3 b=some (.tup (k.map V.int))/\xs.length<sizeLine/\∀ep',E.nx σ (DQ H3 d (yX hL d ep' (WJ xs k b v)))) (bX R2 w1 λvs H3 F3 xs ρ3 s3 R3 o3 w3=>?_)⟩;split at w3
  .exact w3.elim
  rename_i m;obtain⟨ds,ha,w3⟩:=RQ R3 m o3 w3;split at w3
  .rename_i s e;obtain⟨k,ps,rfl,p1,p2,p3,w3⟩:=w3;cases ha with
   |cons hk ht =>
    cases ht;obtain⟨kb,rfl,hb⟩:=IG hk;obtain⟨a,o,g1,g2,g3,g4⟩:=R3.ow j s e p2;rw[eu]at g1;cases g1;rw[p1]at g4;cases o with
    |ext φ =>
     rcases g4.ext with⟨a',ep,ys,qs,z,z2,t⟩|⟨_,_,_,_,_,z2,_⟩
     case inr=>injection z2 with z2;injection z2 with z2 _;injection z2 with _ z2;cases z2
     have t:DaPd K F3 ys ps:=by
      have e2:ps.map (λp=>A1 [A1 (p.1.map j0),p.2])=qs.map (λp=>A1 [A1 (p.1.map j0),p.2]):=by injection z2 with z2;injection z2 with z2 _;injection z2 with _ z2;injection z2
      have e3:ps=qs:=(B6 (λx y q=>by injection q with q;injection q with q1 q2;injection q2 with q2 _;injection q1 with q1;exact Prod.ext ((B6 (λx y z=>by injection z)).mp q1) q2)).mp e2;rw[e3];exact t
     rw[z]at g3;refine ⟨_,rfl,a,a',kb,ep,ys,k,rfl,rfl,g3,λq hq=>R3.sub _ _ (t.at q hq),R3.sub _ _ hb,by have:=congrArg J3 t.keys;rw[q0,q0]at this;lia,λep'=>?_⟩;have R4:=R3.change (o':=yX hL a ep' (WJ ys k kb v)) (d':=XZ (jZ ps k x.d)) e p2 eu (Own1.pd (t.put hb (d2.mono s3)));exact n σ _ F3 _ (s1.trans (s2.trans s3)) R4 w3
    |dK kvs =>
     exfalso;have h:DaKV K F3 kvs [(K4 false,V3 (ps.map λp=>A1 [A1 (p.1.map j0),p.2]))]:=g4;generalize e9:[(K4 false,V3 (ps.map λp=>A1 [A1 (p.1.map j0),p.2]))]=es at h;cases h with
     |nil=>cases e9
     |@cons k _ _ _ _ _ _=>cases k<;>cases e9
    |dT kvs =>
     exfalso;have h:DaKT K F3 kvs [(K4 false,V3 (ps.map λp=>A1 [A1 (p.1.map j0),p.2]))]:=g4;generalize e9:[(K4 false,V3 (ps.map λp=>A1 [A1 (p.1.map j0),p.2]))]=es at h;cases h with
     |nil=>cases e9
     |cons _ _=>cases e9
    |_=>exact g4.elim
  .exact w3.elim
 .exact w1.elim
def Wu:TD:=λρ Q=>Q (.ow (XZ [])) ρ
def jE{K:Fg}{Q:VK}(h:lift K Wu σ H Q):Vx σ H Q:=by obtain⟨G,F,ρ,Qd,R,w,k⟩:=h;intro p hp;obtain⟨R',r'⟩:=R.newOw (o:=yX hL p 0 []) (d:=XZ []) hp (Own1.pd .nil);exact k _ _ F _ ρ (Sub.refl _) R' r' w
section
variable {K:Fg}{e e1 e2:Expr}{a:AD}{td:TD}{pos:Pos}
def Xx{j:Nat}(hu:X.A.units+1<cLine)(ho:WE X e1 (jQ K (.inl j)))(hi:WE X e2 (jQ K a))(hv:WE X e (lift K td))(hs:cJ e=true:=by rfl):WS X (.Assign [.Subscript e1 e2 pos'] e pos) (oQ K (Vu j a td)):=⟨Mq (Ly hu ho.h hi.h hv.h (BJ hs)) fE⟩
def sD:WE X (.Dict [] [] pos) (lift K Wu):=⟨yY Wx jE⟩
end
end L3
namespace L2
end L2
namespace L3
open L2
def UL{K:Fg}{L:List D}(s:Sub F H)(h1:At K F H v (.dict [(.bool false,.list L)])):∃(b b':Addr) (ep:Nat) (ys:List (Qa×Addr×V)) (qs:List (Qa×D)),v=.ref b/\H b=some (yX hL b' ep ys)/\DaPd K F ys qs/\L=qs.map λp=>.tuple [tI p.1,p.2]:=by
 rcases h1 with h1|⟨b,o,rfl,g1,g2,g3⟩
 .rcases rD h1 with⟨_,_,z,_⟩|⟨c,a',ep,ys,qs,rfl,e1,g1,z⟩|⟨_,_,_,_,_,_,_,_,z⟩
  .cases z
  .injection z with z;exact ⟨c,a',ep,ys,qs,rfl,s _ _ e1,g1,z⟩
  .cases z
 .cases o with
  |ext φ =>
   rcases g3.ext with⟨a',ep,ys,qs,z,z2,t⟩|⟨_,_,_,_,_,z2,_⟩
   case inr=>injection z2 with z2;injection z2 with z2 _;injection z2 with _ z2;cases z2
   rw[z]at g2;refine ⟨b,a',ep,ys,qs,rfl,g2,t,?_⟩;injection z2 with z2;injection z2 with z2 _;injection z2 with _ z2;injection z2
  |dK kvs =>
   exfalso;have h:DaKV K F kvs [(K4 false,V3 L)]:=g3;generalize e9:[(K4 false,V3 L)]=es at h;cases h with
   |nil=>cases e9
   |@cons k _ _ _ _ _ _=>cases k<;>cases e9
  |dT kvs =>
   exfalso;have h:DaKT K F kvs [(K4 false,V3 L)]:=g3;generalize e9:[(K4 false,V3 L)]=es at h;cases h with
   |nil=>cases e9
   |cons _ _=>cases e9
  |_=>exact g3.elim
def kE(z2:XZ ps=XZ qs):ps=qs:=by
 have e2:ps.map (λp=>A1 [A1 (p.1.map j0),p.2])=qs.map (λp=>A1 [A1 (p.1.map j0),p.2]):=by injection z2 with z2;injection z2 with z2 _;injection z2 with _ z2;injection z2
 exact (B6 (λx y q=>by injection q with q;injection q with q1 q2;injection q2 with q2 _;injection q1 with q1;exact Prod.ext ((B6 (λx y z=>by injection z)).mp q1) q2)).mp e2
section
variable {K:Fg}{p p1 p2 p3 p4 pos:Pos}{f a x:Str}
end
end L3
namespace L2
def Xu:R2:=λx y H Q=>∃(d d' b:Addr) (ep:Nat) (xs:List (Qa×Addr×V)) (k:Qa) (c:Addr) (v:V),x=.ref d/\y=.ref b/\H d=some (yX hL d' ep xs)/\(∀z∈xs,H z.2.1=some (.tup (z.1.map V.int)))/\H b=some (.tup (k.map V.int))/\(k,c,v)∈xs/\Q v H
def My{o:Expr}(hu:X.A.units+6<cLine)(ho:PE X o td)(hi:PE X i ty)(hs:Zz i):PE X (.Subscript o i pos) (lu Xu td ty):=by
 intro pins s σ H Q I h;refine FF PySem.F.slot_dict_getitem.lookup hs (eX (ho pins s σ H _ I h) λu s1 ⟨x,H1,I1,rx,q1⟩=>eX (hi pins s1 σ H1 _ I1 q1) λiv s2 ⟨y,H2,I2,ry,q2⟩=>?_);obtain⟨d,d',b,ep,xs,k,c,v,ex,ey,hd,hk,hb,hm,q⟩:=q2;subst ex ey;obtain rfl:u=Q2 d:=rx;obtain rfl:iv=Q2 b:=ry;obtain⟨vs,ob,es,pr,e1,e2,e3,e4,hz,hnd,_,_⟩:=ext_at I2 hd;have key:∀{k:Qa}{b:Addr},H2 b=some (.tup (k.map V.int))->(tupleKind (intKind X.prog X.w)).is s2.heap k b:=λ{k b} hb=>by obtain⟨_,its,r,o,h1,h2,n,h3,_⟩:=(show ObjOk X.prog X.w H2 s2.heap b (.tup (k.map V.int)) from I2.hok _ _ hb);exact ⟨o,its.toArray,n,h1,h2,h3,by simpa using KK r⟩
 refine ⟨⟨ob,e1,e2.1⟩,?_⟩;obtain⟨j,hj⟩:=Z3.mp hm;obtain⟨⟨k',b',w'⟩,hv,r1,r2,r3⟩:=tU pr hj;have r1:k=k':=r1;subst r1;have hvn:(vs.map (·.1)).Nodup:=by rw[PZ pr];exact hnd
 have hall:∀x∈vs,(tupleKind (intKind X.prog X.w)).is s2.heap x.1 x.2.1:=λx hx=>by obtain⟨x',hx',r1,r2,_⟩:=TY pr x hx;have:=key (hk x' hx');rw[r1,r2]at this;exact this
 exact wpAny_getItem_heap (knd:=tupleKind (intKind X.prog X.w)) (tupleKind_room_in1 (show X.A.units+1<cLine by lia)) (key hb) ⟨ob,es,ep,e1,e2,e3,e4,hall,hvn⟩ (atKey_of_get hvn hv) ⟨v,H2,I2.tok _,r3,q⟩
end L2
namespace L3
open L2
noncomputable def Yx:D->D->(Sl->Prop)->Prop
 | .dict [(.bool false,.list L)],.tuple ds,Q=>∃(ps:List (Qa×D)) (k:Qa) (d:D),L=ps.map (λp=>.tuple [tI p.1,p.2])/\ds=k.map j0/\(k,d)∈ps/\Q (.fz d)
 |_,_,_=>False
theorem DaPd.has{K:Fg}{F:Hp}{k:Qa}{d:D}:∀{xs:List (Qa×Addr×V)}{ps:List (Qa×D)},DaPd K F xs ps->(k,d)∈ps->∃b v,(k,b,v)∈xs/\Da K F v d
 |_,_,.nil,h=>by cases h
 |_,_,.cons e h t,z=>by
  rcases Y0.mp z with q|q
  .cases q;exact ⟨_,_,R0,h⟩
  .obtain⟨b,v,hb,hv⟩:=DaPd.has t q;exact ⟨b,v,K0 _ hb,hv⟩
def Ny{K:Fg}:UQ K (GY Xu) (o2 Yx):=Dj λG F σ H ρ x y d e Q Qd R h1 h2 w k=>by
 unfold Yx at w;split at w
 rotate_left
 .exact w.elim
 rename_i L ds w;obtain⟨ps,kk,d0,hL',rfl,hm,w⟩:=w;obtain⟨b,b',ep,ys,qs,rfl,hb,t,hq⟩:=UL R.sub h1;have e3:ps=qs:=kE (by unfold XZ;rw[<-hL',hq]);subst e3;obtain⟨c,us,rfl,hc1,hc2,hd⟩:=h2.tuple R.sub;rw[hd.intsV]at hc2;obtain⟨b0,v,hv,dv⟩:=t.has hm;exact ⟨b,b',c,ep,ys,kk,b0,v,rfl,rfl,hb,λz hz=>R.sub _ _ (t.at z hz),hc2,hv,k _ _ F (.fz d0) (Sub.refl _) R dv w⟩
section
variable {K:Fg}{e1 e2:Expr}{a b:AD}{pos:Pos}
def UG(hu:X.A.units+6<cLine)(ha:WE X e1 (jQ K a))(hb:WE X e2 (jQ K b))(hs:Zz e2:=by exact λ_ _=>rfl):WE X (.Subscript e1 e2 pos) (lift K (eY [a,b] (o2 Yx))):=⟨gC Ny (My hu ha.h hb.h hs)⟩
end
end L3
namespace L2
theorem IY(f:Nat->β->Sem (ForInStep β))(I:List Nat->β->Shared->Prop)(Q:β->Shared->Prop)
  (turn:∀x rest b s,I (x::rest) b s->wpAny M A (f x b) (λr s'=>match r with | .yield b'=>I rest b' s' | .done b'=>Q b' s') E s)
  (fin:∀b s,I [] b s->Q b s) (n:Nat) (b:β) (h:I (List.range' 0 n) b s):wpAny M A (forIn [0:n] b f) Q E s:=by
 rw[Std.Legacy.Range.forIn_eq_forIn_range'];simp only[Std.Legacy.Range.size,Nat.sub_zero,Nat.add_sub_cancel,Nat.div_one];exact wpAny_forIn_list f I Q turn fin _ b h
def eV(l:Addr)(items:Array Value)(n:Nat)(dd:Option Addr)(sl:Array (Option Value))(x:Value)(e:Value->Bool)(j:Nat)(hj:j<items.size)(hit:e items[j]=true)(hno:∀m (hm:m<items.size),m<j->e items[m]=false):Meets (Builtin.«tuple.index» ⟨[.ref l,x],[]⟩) (λA R s=>s.heap.get? l=some {cls:=.type "tuple",dict:=dd,data:=.seq items n,slots:=sl}/\(∀y,y∈items->SeqAt.EqAt A.in1 s y x (e y))/\R (.ok (.ret (.int j s.toks))) {s with toks:=s.toks+1}):=
 .of_wp λprog w A R s h=>by
  obtain⟨hp,g,d,tk,os⟩:=s;obtain⟨hl,he,h⟩:=h
  wp_walk using wpAny_loadPart' hl,IY _ (λrest (b:Option Fin×Unit) s'=>s'=⟨hp,g,d,tk,os⟩/\b=(none,())/\∃i,i<=j/\rest=List.range' i (items.size-i)) _
  case turn =>
   rintro k rest b s' ⟨rfl,rfl,i,hij,er⟩;have hi:i<items.size:=by lia
   obtain⟨m,hm⟩:∃m,items.size-i=m+1:=⟨items.size-i-1,by lia⟩;rw[hm,List.range'_succ]at er;cases er;have e1:items[k]?=some items[k]:=v3 hi;rw[e1];refine wpAny_bind (he _ (Array.getElem_mem hi) prog w _ _ ?_);by_cases z:k=j
   .subst z;rw[hit]
    wp_walk
    exact ⟨_,rfl,h⟩
   .rw[hno k hi (by lia)]
    wp_walk
    exact ⟨rfl,rfl,k+1,by lia,by rw[show items.size-(k+1)=m by lia]⟩
  case fin=>rintro b s' ⟨rfl,rfl,i,hij,er⟩;have:=congrArg J3 er;simp at this;lia
  case h=>refine ⟨rfl,rfl,0,P3 _,?_⟩;simp
def tD:R2:=λx y H Q=>∃(a:Addr) (ns:Qa) (n:Int) (k:Nat),x=.ref a/\y=.int n/\H a=some (.tup (ns.map V.int))/\ns[k]?=some n/\(∀m,m<k->ns[m]?≠some n)/\Q (.int (k:Nat)) H
def kz{o e2:Expr}{to:TE}{j:Nat}{apos cpos:Pos}(ho:PE X o to)(h2:PE X e2 (CZ j))(hn:L3.notStar e2=true)
  (hbase:attributeBase o "index" X.env (eval o X.env)=eval o X.env:=by rfl) (hline:(apos.endLine==cpos.line)=true:=by rfl) :
  PE X (.Call (.Attribute o "index" apos) [e2] [] cpos) (lu tD to (CZ j)):=by
 intro pins s σ H Q I h;have hS:starEach [e2] X.env=[(false,eval e2 X.env)]:=L3.starEach_of hn;refine wpAny_Call_method_late hbase (by rw[hS];rfl) hline rfl (eX (ho pins s σ H _ I h) λv s1 ⟨x,H1,I1,r1,q1⟩=>?_);obtain⟨y,ey,a,ns,n,k,rfl,rfl,hH,hk,hno,q⟩:=q1;cases r1;obtain⟨z,its,rv,⟨cls,dd,data,sl⟩,e,c,m,d,dn⟩:=(show ObjOk X.prog X.w H1 s1.heap a (.tup (ns.map V.int)) from I1.hok a _ hH);simp only at c d dn;subst c d dn;refine ⟨"tuple","tuple.index",PySem.F.plainAttrs_tuple,PySem.F.slot_tuple_index,PySem.F.type_tuple_index,⟨_,e,rfl⟩,λb eb=>by cases eb;exact ⟨_,e,rfl⟩,?_⟩;have hA:=(WQ (X:=X) (e:=e2) h2 DZ hS) cpos pins s1 σ H1 (λxs H2=>xs=[.int n]/\Q (.int (k:Nat)) H2/\H2 a=some (.tup (ns.map V.int))) I1 ⟨_,ey,rfl,q,hH⟩;rw[hS]at hA ⊢;refine Calls.callWith_builtin rfl (Calls.evalArgs_plain ?_);refine eX hA λus s2 ⟨vs,H2,I2,r2,q2⟩=>?_;obtain⟨rfl,q2,hH2⟩:=q2;obtain⟨u,rfl,⟨t,rfl⟩⟩:=iZ r2;obtain⟨z,its,rv,⟨cls,dd,data,sl⟩,e,c,m,d,dn⟩:=(show ObjOk X.prog X.w H2 s2.heap a (.tup (ns.map V.int)) from I2.hok a _ hH2);simp only at c d dn;subst c d dn;have hi:IntsAre its ns:=FQ rv;have hkl:k<its.toArray.size:=by have:=hi.length;have:=(S0.mp hk).1;simp;lia
 have at_:∀(m:Nat) (hm:m<its.toArray.size),∃i,ns[m]?=some i/\isInt n its.toArray[m]=decide (i=n):=λm hm=>by
  have hm':m<its.length:=by simpa using hm
  obtain⟨y,e1,ry⟩:=rv.getV (A0 hm');rw[Q0]at e1;cases e2:ns[m]? with
  |none=>rw[e2]at e1;cases e1
  |some i=>rw[e2]at e1;cases e1;obtain⟨t',e3⟩:=ry;refine ⟨i,rfl,?_⟩;rw[show its.toArray[m]=its[m] from rfl,e3];show (i==n)=decide (i=n);rfl
 refine call_meets PySem.F.slot_tuple_index ⟨_,e,rfl⟩ PySem.F.entry_tuple_index (PySem.F.args_tuple_index_2 _ _) (eV a its.toArray m none sl (.int n t) (isInt n) k hkl ?_ ?_) ⟨e,λy hy=>(eq_isInt n t hi y (by simpa using hy)).at _ _,?_⟩
 .obtain⟨i,e1,e2⟩:=at_ k hkl
  rw[hk]at e1;cases e1;rw[e2];exact decide_eq_true rfl
 .intro m hm hlt;obtain⟨i,e1,e2⟩:=at_ m hm
  rw[e2];exact decide_eq_false λz=>hno m hlt (by rw[e1,z])
 .exact ⟨.int (k:Nat),H2,I2.tok _,⟨_,rfl⟩,q2⟩
end L2
namespace L3
open L2
noncomputable def uD:D->D->(Sl->Prop)->Prop
 | .tuple ds,.int n,Q=>∃(ns:Qa) (k:Nat),ds=ns.map j0/\ns[k]?=some n/\(∀m,m<k->ns[m]?≠some n)/\Q (.fz (.int (k:Nat)))
 |_,_,_=>False
def lz{K:Fg}:UQ K (GY tD) (o2 uD):=Dj λG F σ H ρ x y d e Q Qd R h1 h2 w k=>by
 cases d<;>first|exact w.elim|(cases e<;>first|exact w.elim|skip)
 rename_i ds n;obtain⟨ns,kk,e,e2,e3,w⟩:=w;subst e;cases h2.int;obtain⟨a,us,rfl,_,e1,d1⟩:=h1.tuple R.sub;have:=d1.intsV;subst this;exact ⟨a,ns,n,kk,rfl,rfl,e1,e2,e3,k _ H F (.fz _) (Sub.refl _) R (Da.int _) w⟩
section
variable {K:Fg}{e1:Expr}{a:AD}{p apos cpos:Pos}{x:Str}
def Zx{j:Nat}(ho:WE X e1 (jQ K a))(h2:WE X (.Name x p) (jQ K (.inl j)))(hbase:attributeBase e1 "index" X.env (eval e1 X.env)=eval e1 X.env:=by rfl)(hline:(apos.endLine==cpos.line)=true:=by rfl) :
  WE X (.Call (.Attribute e1 "index" apos) [.Name x p] [] cpos) (lift K (eY [a,.inl j] (o2 uD))):=⟨gC lz (kz ho.h h2.h rfl hbase hline)⟩
end
end L3
namespace L2
section
variable {w:World}
noncomputable abbrev ck(h:Heap)(vs:List Value):Heap:=(h.push (seqObj "list" #[] 0)).update h.objs.size (W2 (·++vs.toArray))
def yH{Q:List Value->Shared->Prop}(hl:IsTup s.heap l vs.toArray)(hz:vs.length<=sizeLine)(h:Q vs {s with heap:=ck s.heap vs}):wpAny (model prog w) A (collect (.ref l)) Q E s:=by
 obtain⟨o,ho,hc,n,hd⟩:=id hl;have e0:=v0 s.heap (o:=seqObj "list" #[] 0) rfl;have ho':(s.heap.push (seqObj "list" #[] 0)).get? l=some o:=i0 _ ho;unfold collect;refine wpAny_bind (wpAny_runValue (codeAny_builtin entry_proto_collect' (show wpAny _ _ (do again (.builtin "list.__iadd__" ⟨[<-newList [],.ref l],[]⟩)) _ _ s from wpAny_bind (wpAny_newList (wpAny_pure ⟨Code.quiet_builtin _ (by decide +kernel),codeAny_builtin entry_list_iadd' (show wpAny _ _ (W3 (.ref s.heap.objs.size) (.ref l) (.ref s.heap.objs.size)) _ _ {s with heap:=s.heap.push (seqObj "list" #[] 0)} from ?_)⟩)))));unfold W3;refine wpAny_bind (wpAny_typeOf (T:="tuple") ⟨o,ho',hc⟩ ?_);rw[if_pos (by rw[show (B5 "tuple"==B5 "tuple")=true from rfl];simp)];refine wpAny_bind (listItems_at ho' hd (wpAny_bind (listItems_at (xs:=#[]) (n:=0) e0 rfl ?_)));rw[if_neg (by simp)];refine wpAny_bind (listUpdate_at (xs:=#[]) (n:=0) e0 rfl (wpAny_pure (show wpAny (model prog w) A (do
     let o<-load s.heap.objs.size
     match o.data with
     | .seq xs _=>pure xs.toList
     |_=>unsupported "internal:collect") Q E {s with heap:=ck s.heap vs} from wpAny_bind (wpAny_load (get?_update_seq e0 _) ?_))) (P3 _) (by show (#[]++vs.toArray).size<=sizeLine+1;simp only[Array.size_append,V0,P5];lia));show wpAny _ _ (pure ((#[]:Array Value)++vs.toArray).toList) Q E _;rw[show ((#[]:Array Value)++vs.toArray).toList=vs by simp];exact wpAny_pure h
def VG(hl:IsTup s.heap l vs.toArray)(hI:IntsAre vs ns)(h64:vs.length<64)(h:∀(out:Array Value) (ns':Qa),IntsAre out.toList ns'->ns'.Perm ns->ns'.Pairwise (·<=·)->Q (.ref (s.heap.objs.size+1)) {s with heap:=sortedAll s.heap vs out}):wpAny (model prog w) A (call (.builtin "sorted") [.ref l]) Q E s:=by
 have hsz:(ck s.heap vs).objs.size=s.heap.objs.size+1:=by rw[V6,Z0]
 have hoL:((ck s.heap vs).push (seqObj "list" vs.toArray 0)).get? (s.heap.objs.size+1)=some (seqObj "list" vs.toArray 0):=by rw[<-hsz];exact v0 _ rfl
 refine Calls.call_function_entry kind_sorted plain_sorted entry_sorted (args_sorted1 _) ?_;unfold Builtin.«sorted»;refine wpAny_bind (m:=checkCount "sorted" 1 1 _) (wpAny_pure (wpAny_bind (yH hl (Z1 (B4 h64) (by decide)) (wpAny_bind (wpAny_newList ?_)))));show wpAny _ _ _ _ _ {s with heap:=(ck s.heap vs).push (seqObj "list" vs.toArray 0)};rw[hsz];exact wpAny_bind (wpAny_holding (wpAny_call_entry slot_list_sort ⟨_,hoL,rfl⟩ entry_list_sort (list_sort_tree hoL hI h64 λout ns' a1 a2 a3=>⟨_,rfl,wpAny_pure ⟨_,rfl,h out ns' a1 a2 a3⟩⟩) (args_list_sort _)))
end
def fk:List V->Hp->VK->Prop:=λxs H Q=>∃(a:Addr) (ns:Qa),xs=[.ref a]/\H a=some (.tup (ns.map V.int))/\ns.length<64 /\
 ∀(p:Addr) (ns':Qa),H p=none->ns'.Perm ns->ns'.Pairwise (·<=·)->Q (.ref p) (DQ H p (.lst (ns'.map V.int)))
def XG:fX X (.builtin "sorted") fk:=by intro pins s σ H xs us Q I r h;obtain⟨a,ns,rfl,hs,h64,q⟩:=h;obtain⟨u,rfl,ru⟩:=iZ r;cases ru;obtain⟨z,its,rv,ht⟩:=(show ObjOk X.prog X.w H s.heap a (.tup (ns.map V.int)) from I.hok a _ hs);have hl:=rv.length;rw[q0]at hl;refine VG (vs:=its) (ns:=ns) ht.t (FQ rv) (by lia) λout ns' hI hp hw=>?_;obtain⟨ep,he⟩:=sortedAll_at s.heap its out;have hn:H (s.heap.objs.size+1)=none:=I.hok.fresh (X5 _);have hl2:ns'.length=ns.length:=hp.length_eq;refine ⟨.ref (s.heap.objs.size+1),DQ H (s.heap.objs.size+1) (.lst (ns'.map V.int)),I.laid (t':=s.toks) (λb u e=>sortedAll_old e) (X5 _) ?_,rfl,q _ ns' hn hp hw⟩;exact ⟨by rw[q0,sizeLine_eq];lia,out.toList,ep,HK hI,by rw[he]⟩
end L2
namespace L3
open L2
noncomputable def lE:D->(Sl->Prop)->Prop
 | .tuple ds,Q=>∃ns:Qa,ds=ns.map j0/\ns.length<64/\∀ns':Qa,ns'.Perm ns->ns'.Pairwise (·<=·)->Q (.ow (.list (ns'.map j0)))
 |_,_=>False
def gk{K:Fg}:UQ K fk (o1 lE):=NF λG F σ H ρ x d Q Qd R h1 w k=>by
 cases d<;>first|exact w.elim|skip
 obtain⟨ns,e,h64,w⟩:=w;subst e;obtain⟨a,us,rfl,_,e1,d1⟩:=h1.tuple R.sub;have:=d1.intsV;subst this;refine ⟨a,ns,rfl,e1,h64,λp ns' hp h2 h3=>?_⟩;obtain⟨R',r'⟩:=R.newOw (o:=.lst (ns'.map V.int)) (d:=.list (ns'.map j0)) hp (DaAll.ints ns');exact k _ _ F _ (Sub.refl _) R' r' (w ns' h2 h3)
def mE{K:Fg}{e:Expr}{td:TD}{x:Str}{pos:Pos}{i:Nat}(hN:X.N.Nodup)(hi:X.N[i]?=some x)(hx:Dw X.env.scope x)(he:WE X e (lift K td))(hs:swapsWith e (some (.Name x pos')) pos.line X.env=pure false:=by rfl)
  (hf:X.fn x=true\/X.env.scope.names.lookup x=some .local:=by first|exact .inl rfl|exact .inr rfl|assumption):WS X (.Assign [.Name x pos'] e pos) (oQ K (fG i td)):=⟨Oj (QH hN hi hx he.h hs hf)⟩
end L3
namespace L2
abbrev XX(h:Heap)(z TI TO:Addr)(f0:Value)(fl:Bool):Prop:=h.get? z=some {cls:=.type "zip",dict:=none,data:=.fields #[f0,.bool fl,.bool false,.ref TI,.ref TO],slots:=#[]}
section
variable {w:World}
def RN{Q:Option Obj->Shared->Prop}(ho:s.heap.get? a=none)(h:Q none s):wpAny (model prog w) A (loadIfAlive a) Q E s:=λΓ p _=>by show Sem.wp _ Γ (.loadIfAlive a λx=>.pure x) _ _ p s;rw[Sem.wp_loadIfAlive,ho];exact h
def vD{TI TO:Addr}{Q:Bool->Shared->Prop}(hz:XX s.heap z TI TO f0 fl)(hf:f0=.none\/∃T:Addr,f0=rawInt T/\s.heap.get? T=none)(h:Q true s):wpAny (model prog w) A (W0 (.ref z)) Q E s:=by
 unfold W0;refine wpAny_bind (wpAny_field hz rfl (x:=f0) rfl ?_);rcases hf with rfl|⟨T,rfl,hT⟩
 .exact wpAny_pure h
 .show wpAny _ _ (loadIfAlive T >>= _) _ _ _;exact wpAny_bind (RN hT (wpAny_pure h))
def YG{TI TO:Addr}(D:ZAp2 z TI TO i1 i2 l1 l2)(hz:XX s.heap z TI TO f0 fl) (hf:f0=.none\/∃T:Addr,f0=rawInt T/\s.heap.get? T=none) (hTI:lQ s.heap TI (.ref i1) (.ref i2)) (hTO:lQ s.heap TO a1 a2)(h1:ItAt k1 s.heap i1 l1 k) (h2:ItAt k2 s.heap i2 l2 k) (hl1:SqAt k1 s.heap l1 xs1) (hl2:SqAt k2 s.heap l2 xs2) (hx1:xs1[k]?=some x1) (hx2:xs2[k]?=some x2)(hQ:∀h',XX h' z TI TO (rawInt s.heap.objs.size) false->lQ h' TO x1 x2->ItAt k1 h' i1 l1 (k+1)->ItAt k2 h' i2 l2 (k+1)->lQ h' s.heap.objs.size x1 x2->h'.objs.size=s.heap.objs.size+1 ->(∀c o,c≠z->c≠TO->c≠i1->c≠i2->s.heap.get? c=some o->h'.get? c=some o)->Q (.ref s.heap.objs.size) {s with heap:=h'}):wpAny (model prog w) A (Builtin.«zip.__next__» ⟨[.ref z],[]⟩) (λfin s'=>∃v,fin=.done (.ret v)/\Q v s') E s:=by
 show wpAny _ _ (field (.ref z) 2 >>= _) _ _ _;refine wpAny_bind (wpAny_field hz rfl (x:=.bool false) rfl ?_);show wpAny _ _ (field (.ref z) 3 >>= _) _ _ _;refine wpAny_bind (wpAny_field hz rfl (x:=.ref TI) rfl ?_);refine wpAny_bind (wpAny_seqItems hTI rfl ?_);show wpAny _ _ (W0 (.ref z) >>= _) _ _ _;refine wpAny_bind (vD hz hf ?_);simp only[if_true];refine wpAny_bind (wpAny_rule ?_);refine wpAny_bind (wpAny_field hz rfl (x:=.ref TO) rfl ?_);refine wpAny_bind (wpAny_setField_rec hz (by simp) λh₁ hz₁ hs₁=>?_)
 replace hz₁:XX h₁ z TI TO .ellipsis fl:=hz₁
 refine wpAny_bind ?_;simp only[i6,h7,U4,i5];have up₁:∀c o,c≠z->s.heap.get? c=some o->h₁.get? c=some o:=λc o c1 e=>hs₁.extBut _ _ c1 e;refine wpAny_bind (wpAny_bind (wpAny_onRaise ?_));show wpAny _ _ (T0 (.ref i1) >>= _) _ _ _;refine wpAny_bind (TQ (h1.at λo e=>hs₁.extBut _ o D.i1z e) (hl1.at λo e=>hs₁.extBut _ o D.l1z e) hx1 λha1 hi1 hsa1=>wpAny_pure ?_);have hTOa1:lQ ha1 TO a1 a2:=hsa1.extBut _ _ D.i1TO.symm (hs₁.extBut _ _ D.TOz hTO);refine wpAny_bind (wpAny_seqItems hTOa1 rfl ?_);refine wpAny_bind (bY hTOa1 λhb1 hTOb1 hsb1=>?_)
 replace hTOb1:lQ hb1 TO x1 a2:=hTOb1
 refine wpAny_bind (wpAny_letGo (wpAny_pure ?_));refine wpAny_bind (wpAny_bind (wpAny_onRaise ?_));show wpAny _ _ (T0 (.ref i2) >>= _) _ _ _;refine wpAny_bind (TQ (((h2.at λo e=>hs₁.extBut _ o D.i2z e).at λo e=>hsa1.extBut _ o D.i2i1 e).at λo e=>hsb1.extBut _ o D.i2TO e) (((hl2.at λo e=>hs₁.extBut _ o D.l2z e).at λo e=>hsa1.extBut _ o D.l2i1 e).at λo e=>hsb1.extBut _ o D.l2TO e) hx2 λha2 hi2 hsa2=>wpAny_pure ?_);have hTOa2:lQ ha2 TO x1 a2:=hsa2.extBut _ _ D.i2TO.symm hTOb1;refine wpAny_bind (wpAny_seqItems hTOa2 rfl ?_);refine wpAny_bind (bY hTOa2 λhb2 hTOb2 hsb2=>?_)
 replace hTOb2:lQ hb2 TO x1 x2:=hTOb2
 refine wpAny_bind (wpAny_letGo (wpAny_pure (wpAny_pure ?_)));refine wpAny_bind (wpAny_seqItems hTOb2 rfl ?_);refine wpAny_bind (wpAny_newTuple ?_);have hsz:hb2.objs.size=s.heap.objs.size:=by rw[hsb2.1,hsa2.1,hsb1.1,hsa1.1,hs₁.1]
 have hzG:XX hb2 z TI TO .ellipsis fl:=(hsb2.extBut _ _ D.TOz.symm (hsa2.extBut _ _ D.i2z.symm (hsb1.extBut _ _ D.TOz.symm (hsa1.extBut _ _ D.i1z.symm hz₁))));have hkG:∀c o,c≠z->c≠TO->c≠i1->c≠i2->s.heap.get? c=some o->hb2.get? c=some o:=λc o c1 c2 d1 d2 e=>(hsb2.extBut _ _ c2 (hsa2.extBut _ _ d2 (hsb1.extBut _ _ c2 (hsa1.extBut _ _ d1 (hs₁.extBut _ _ c1 e)))));have hiG1:ItAt k1 hb2 i1 l1 (k+1):=(((hi1.at λo e=>hsb1.extBut _ o D.i1TO e).at λo e=>hsa2.extBut _ o D.i2i1.symm e).at λo e=>hsb2.extBut _ o D.i1TO e);have hiG2:ItAt k2 hb2 i2 l2 (k+1):=(hi2.at λo e=>hsb2.extBut _ o D.i2TO e);have hzlt:z<hb2.objs.size:=u0 hzG;show wpAny _ _ (X2 (.ref z) (.ref hb2.objs.size) >>= _) _ _ _;refine wpAny_bind ?_;unfold X2;have hz₆:XX (hb2.push {cls:=.type "tuple",data:=.seq #[x1,x2]}) z TI TO .ellipsis fl:=i0 _ hzG;refine wpAny_bind (wpAny_setField_rec hz₆ (by simp) λh₇ hz₇ hs₇=>?_)
 replace hz₇:XX h₇ z TI TO (rawInt hb2.objs.size) fl:=hz₇
 refine wpAny_setField_rec hz₇ (by simp) λh₈ hz₈ hs₈=>?_
 replace hz₈:XX h₈ z TI TO (rawInt hb2.objs.size) false:=hz₈
 have up:∀c o,c≠z->hb2.get? c=some o->h₈.get? c=some o:=λc o c1 e=>hs₈.extBut _ _ c1 (hs₇.extBut _ _ c1 (i0 _ e));have hT₈:lQ h₈ hb2.objs.size x1 x2:=hs₈.extBut _ _ (N1 hzlt) (hs₇.extBut _ _ (N1 hzlt) (v0 _ rfl));have hz8:h₈.objs.size=hb2.objs.size+1:=by rw[hs₈.1,hs₇.1,Z0]
 rw[hsz]at hz₈ hT₈ hz8;refine wpAny_pure ⟨_,rfl,?_⟩;show Q (.ref hb2.objs.size) _;rw[hsz];exact hQ h₈ hz₈ (up _ _ D.TOz hTOb2) (hiG1.at λo e=>up _ o D.i1z e) (hiG2.at λo e=>up _ o D.i2z e) hT₈ hz8 λc o c1 c2 d1 d2 e=>up c o c1 (hkG c o c1 c2 d1 d2 e)
def mz{TI TO:Addr}{Q:Fin->Shared->Prop}(hh:A.handled=none)(D:ZAp2 z TI TO i1 i2 l1 l2)(hz:XX s.heap z TI TO f0 fl) (hf:f0=.none\/∃T:Addr,f0=rawInt T/\s.heap.get? T=none) (hTI:lQ s.heap TI (.ref i1) (.ref i2)) (hTO:lQ s.heap TO a1 a2)(h1:ItAt k1 s.heap i1 l1 k) (h2:ItAt k2 s.heap i2 l2 k) (hl1:SqAt k1 s.heap l1 xs1) (hl2:SqAt k2 s.heap l2 xs2) (hend:xs1[k]?=none\/xs2[k]?=none)(hE:∀h' e,(∀c o,c≠z->c≠TO->c≠i1->c≠i2->s.heap.get? c=some o->h'.get? c=some o)->(∃o,h'.get? e=some o/\o.cls=.type "StopIteration")->E (.ref e) {s with heap:=h'}):wpAny (model prog w) A (Builtin.«zip.__next__» ⟨[.ref z],[]⟩) Q E s:=by
 show wpAny _ _ (field (.ref z) 2 >>= _) _ _ _;refine wpAny_bind (wpAny_field hz rfl (x:=.bool false) rfl ?_);show wpAny _ _ (field (.ref z) 3 >>= _) _ _ _;refine wpAny_bind (wpAny_field hz rfl (x:=.ref TI) rfl ?_);refine wpAny_bind (wpAny_seqItems hTI rfl ?_);show wpAny _ _ (W0 (.ref z) >>= _) _ _ _;refine wpAny_bind (vD hz hf ?_);simp only[if_true];refine wpAny_bind (wpAny_rule ?_);refine wpAny_bind (wpAny_field hz rfl (x:=.ref TO) rfl ?_);refine wpAny_bind (wpAny_setField_rec hz (by simp) λh₁ hz₁ hs₁=>?_)
 replace hz₁:XX h₁ z TI TO .ellipsis fl:=hz₁
 refine wpAny_bind ?_;simp only[i6,h7,U4,i5];refine wpAny_bind (wpAny_bind (wpAny_onRaise ?_));show wpAny _ _ (T0 (.ref i1) >>= _) _ _ _;cases hx1:xs1[k]? with
 |none =>
  refine wpAny_bind (sX hh (h1.at λo e=>hs₁.extBut _ o D.i1z e) (hl1.at λo e=>hs₁.extBut _ o D.l1z e) hx1 λhq e hsq he=>?_);obtain⟨oe,hoe,hce⟩:=he;have hzq:XX hq z TI TO .ellipsis fl:=hsq _ _ D.i1z.symm hz₁;have hez:e≠z:=λx=>by subst x;rw[hzq]at hoe;cases hoe;simp at hce
  refine wpAny_setField_rec hzq (by simp) λh₉ _ hs₉=>hE h₉ e (λc o c1 c2 d1 d2 x=>hs₉.extBut _ _ c1 (hsq _ _ d1 (hs₁.extBut _ _ c1 x))) ⟨oe,hs₉.extBut _ _ hez hoe,hce⟩
 |some x1 =>
  refine wpAny_bind (TQ (h1.at λo e=>hs₁.extBut _ o D.i1z e) (hl1.at λo e=>hs₁.extBut _ o D.l1z e) hx1 λha1 hi1 hsa1=>wpAny_pure ?_);have hTOa1:lQ ha1 TO a1 a2:=hsa1.extBut _ _ D.i1TO.symm (hs₁.extBut _ _ D.TOz hTO);refine wpAny_bind (wpAny_seqItems hTOa1 rfl ?_);refine wpAny_bind (bY hTOa1 λhb1 hTOb1 hsb1=>?_)
  replace hTOb1:lQ hb1 TO x1 a2:=hTOb1
  refine wpAny_bind (wpAny_letGo (wpAny_pure ?_));refine wpAny_bind (wpAny_bind (wpAny_onRaise ?_));show wpAny _ _ (T0 (.ref i2) >>= _) _ _ _;have hx2:xs2[k]?=none:=by
   rcases hend with h|h
   .rw[hx1]at h;cases h
   .exact h
  refine wpAny_bind (sX hh (((h2.at λo e=>hs₁.extBut _ o D.i2z e).at λo e=>hsa1.extBut _ o D.i2i1 e).at λo e=>hsb1.extBut _ o D.i2TO e) (((hl2.at λo e=>hs₁.extBut _ o D.l2z e).at λo e=>hsa1.extBut _ o D.l2i1 e).at λo e=>hsb1.extBut _ o D.l2TO e) hx2 λhq e hsq he=>?_);obtain⟨oe,hoe,hce⟩:=he;have hzq:XX hq z TI TO .ellipsis fl:=hsq _ _ D.i2z.symm (hsb1.extBut _ _ D.TOz.symm (hsa1.extBut _ _ D.i1z.symm hz₁));have hez:e≠z:=λx=>by subst x;rw[hzq]at hoe;cases hoe;simp at hce
  refine wpAny_setField_rec hzq (by simp) λh₉ _ hs₉=>hE h₉ e (λc o c1 c2 d1 d2 x=>hs₉.extBut _ _ c1 (hsq _ _ d2 (hsb1.extBut _ _ c2 (hsa1.extBut _ _ d1 (hs₁.extBut _ _ c1 x))))) ⟨oe,hs₉.extBut _ _ hez hoe,hce⟩
structure ZStE(k1 k2:Kd)(z TI TO i1 i2 l1 l2:Addr)(i:Nat)(h:Heap):Prop where
 z:∃f0 fl,XX h z TI TO f0 fl/\(f0=.none\/∃T:Addr,f0=rawInt T)
 ti:lQ h TI (.ref i1) (.ref i2)
 to:∃a1 a2,lQ h TO a1 a2
 i1:ItAt k1 h i1 l1 i
 i2:ItAt k2 h i2 l2 i
def ZStE.keep{TI TO:Addr}(H:ZStE k1 k2 z TI TO i1 i2 l1 l2 i h)(k:∀b∈[z,TI,TO,i1,i2],∀o,h.get? b=some o->h'.get? b=some o):ZStE k1 k2 z TI TO i1 i2 l1 l2 i h':=by obtain⟨⟨f0,fl,hz,hf⟩,hTI,⟨a1,a2,hTO⟩,t1,t2⟩:=H;exact ⟨⟨f0,fl,k _ (by simp) _ hz,hf⟩,k _ (by simp) _ hTI,⟨a1,a2,k _ (by simp) _ hTO⟩,t1.at λo e=>k _ (by simp) _ e,t2.at λo e=>k _ (by simp) _ e⟩
def zH{TI TO:Addr}(D:ZAp2 z TI TO i1 i2 l1 l2)(st:ZStE k1 k2 z TI TO i1 i2 l1 l2 i s.heap)(hl1:SqAt k1 s.heap l1 xs1) (hl2:SqAt k2 s.heap l2 xs2) (hx1:xs1[i]?=some x1) (hx2:xs2[i]?=some x2)(hQ:∀h',ZStE k1 k2 z TI TO i1 i2 l1 l2 (i+1) h'->lQ h' s.heap.objs.size x1 x2->h'.objs.size=s.heap.objs.size+1->(∀c o,c∉[z,TI,TO,i1,i2]->s.heap.get? c=some o->h'.get? c=some o)->Q (.ref s.heap.objs.size) {s with heap:=h'}):wpAny (model prog w) A (T0 (.ref z)) Q E s:=by
 obtain⟨⟨f0,fl,hz,hf⟩,hTI,⟨a1,a2,hTO⟩,t1,t2⟩:=st;have hT:s.TypeIs (.ref z) "zip":=⟨_,hz,rfl⟩;have go:∀(R:Value->Shared->Prop),(∀h',ZStE k1 k2 z TI TO i1 i2 l1 l2 (i+1) h'->lQ h' s.heap.objs.size x1 x2->h'.objs.size=s.heap.objs.size+1->(∀c o,c∉[z,TI,TO,i1,i2]->s.heap.get? c=some o->h'.get? c=some o)->R (.ref s.heap.objs.size) {s with heap:=h'}) ->
   ∀{A:Around}{E:Value->Shared->Prop},wpAny (model prog w) A (Builtin.«zip.__next__» ⟨[.ref z],[]⟩) (λfin s'=>∃v,fin=.done (.ret v)/\R v s') E s:=λR hR A E=>by
  have free:(f0=.none\/∃T:Addr,f0=rawInt T/\s.heap.get? T=none)->wpAny (model prog w) A (Builtin.«zip.__next__» ⟨[.ref z],[]⟩) (λfin s'=>∃v,fin=.done (.ret v)/\R v s') E s:=λhfr =>
   YG D hz hfr hTI hTO t1 t2 hl1 hl2 hx1 hx2 λh' b1 b2 c1 c2 b5 b6 b7=>hR h' ⟨⟨_,_,b1,.inr ⟨_,rfl⟩⟩,b7 _ _ D.TIz D.TOTI.symm D.i1TI.symm D.i2TI.symm hTI,⟨_,_,b2⟩,c1,c2⟩ b5 b6 λc o hc e=>by
    have hc:c≠z/\c≠TI/\c≠TO/\c≠i1/\c≠i2:=by simpa using hc
    exact b7 c o hc.1 hc.2.2.1 hc.2.2.2.1 hc.2.2.2.2 e
  rcases hf with hf|⟨T,hf⟩
  .exact free (.inl hf)
  .cases hg:s.heap.get? T with
   |none=>exact free (.inr ⟨T,hf,hg⟩)
   |some ot =>
    subst hf;refine vW D hz hTI hg t1 t2 hl1 hl2 hx1 hx2 λh' b1 c1 c2 b5 b6 b7=>hR h' ⟨⟨_,_,b1,.inr ⟨_,rfl⟩⟩,b7 _ _ D.TIz D.i1TI.symm D.i2TI.symm hTI,⟨_,_,b7 _ _ D.TOz D.i1TO.symm D.i2TO.symm hTO⟩,c1,c2⟩ b5 b6 λc o hc e=>?_;have hc:c≠z/\c≠TI/\c≠TO/\c≠i1/\c≠i2:=by simpa using hc
    exact b7 c o hc.1 hc.2.2.2.1 hc.2.2.2.2 e
 unfold T0;exact wpAny_bind (wpAny_callSpecial?_slot (name:=Str.ofString "__next__") hT F.slot_zip_next
   (wpAny_call_entry F.slot_zip_next hT F.entry_zip_next (go _ λh' a b c d=>wpAny_pure (hQ h' a b c d)) (F.args_zip_next_1 _)))
def IW{TI TO:Addr}(hh:A.handled=none)(D:ZAp2 z TI TO i1 i2 l1 l2)(st:ZStE k1 k2 z TI TO i1 i2 l1 l2 i s.heap)(hl1:SqAt k1 s.heap l1 xs1) (hl2:SqAt k2 s.heap l2 xs2) (hend:xs1[i]?=none\/xs2[i]?=none)(hE:∀h' e,(∀c o,c∉[z,TI,TO,i1,i2]->s.heap.get? c=some o->h'.get? c=some o)->(∃o,h'.get? e=some o/\o.cls=.type "StopIteration")->E (.ref e) {s with heap:=h'}):wpAny (model prog w) A (T0 (.ref z)) Q E s:=by
 obtain⟨⟨f0,fl,hz,hf⟩,hTI,⟨a1,a2,hTO⟩,t1,t2⟩:=st;have hT:s.TypeIs (.ref z) "zip":=⟨_,hz,rfl⟩;unfold T0;refine wpAny_bind (wpAny_callSpecial?_slot (name:=Str.ofString "__next__") hT F.slot_zip_next
   (wpAny_call_entry F.slot_zip_next hT F.entry_zip_next ?_ (F.args_zip_next_1 _)));have free:(f0=.none\/∃T:Addr,f0=rawInt T/\s.heap.get? T=none)->∀{A':Around}{Qf:Fin->Shared->Prop},A'.handled=none->wpAny (model prog w) A' (Builtin.«zip.__next__» ⟨[.ref z],[]⟩) Qf E s:=λhfr A' Qf hh' =>
  mz hh' D hz hfr hTI hTO t1 t2 hl1 hl2 hend λh' e b7 he=>hE h' e (λc o hc e=>by
    have hc:c≠z/\c≠TI/\c≠TO/\c≠i1/\c≠i2:=by simpa using hc
    exact b7 c o hc.1 hc.2.2.1 hc.2.2.2.1 hc.2.2.2.2 e) he;rcases hf with hf|⟨T,hf⟩
 .exact free (.inl hf) hh
 .cases hg:s.heap.get? T with
  |none=>exact free (.inr ⟨T,hf,hg⟩) hh
  |some ot =>
   subst hf;refine eK hh D hz hTI hg t1 t2 hl1 hl2 hend λh' e b7 he=>hE h' e (λc o hc e=>?_) he;have hc:c≠z/\c≠TI/\c≠TO/\c≠i1/\c≠i2:=by simpa using hc
   exact b7 c o hc.1 hc.2.2.2.1 hc.2.2.2.2 e
def vU{TI TO:Addr}{i:Nat}{Q:Option Value->Shared->Prop}(D:ZAp2 z TI TO i1 i2 l1 l2)(ne:e∉[z,TI,TO,i1,i2])(he:IsEnum s.heap e z i old)(st:ZStE k1 k2 z TI TO i1 i2 l1 l2 i s.heap)(hl1:SqAt k1 s.heap l1 xs1) (hl2:SqAt k2 s.heap l2 xs2) (hx1:xs1[i]?=some x1) (hx2:xs2[i]?=some x2)(hQ:∀h' tk,IsEnumOut h' e z ((i:Int)+1) (.ref s.heap.objs.size) (s.heap.objs.size+1)->ZStE k1 k2 z TI TO i1 i2 l1 l2 (i+1) h'->lQ h' s.heap.objs.size x1 x2->lQ h' (s.heap.objs.size+1) (.int i tk) (.ref s.heap.objs.size) ->(∀c o,c∉[e,z,TI,TO,i1,i2]->s.heap.get? c=some o->h'.get? c=some o)->Q (some (.ref (s.heap.objs.size+1))) {s with heap:=h',toks:=tk+1}):wpAny (model prog w) A (pyNext (.ref e)) Q E s:=by
 obtain⟨hp,g,d,tk,os⟩:=s;have hT:Shared.TypeIs ⟨hp,g,d,tk,os⟩ (.ref e) "enumerate":=⟨_,he,rfl⟩;unfold pyNext;refine wpAny_bind (wpAny_attempt (wpAny_callSpecial?_slot (name:=Str.ofString "__next__") hT F.slot_enumerate_next
   (wpAny_call_entry F.slot_enumerate_next hT F.entry_enumerate_next ?_ (F.args_enumerate_next_1 _))));show wpAny _ _ (field (.ref e) 2 >>= _) _ _ _;refine wpAny_bind (wpAny_field he rfl (x:=.ref z) rfl ?_);refine wpAny_bind (zH D st hl1 hl2 hx1 hx2 λh₁ st₁ ht₁ hz₁ hk₁=>?_);have he₁:IsEnum h₁ e z i old:=hk₁ e _ ne he;have hz₁:h₁.objs.size=hp.objs.size+1:=hz₁;have hel:e<hp.objs.size:=u0 he;show wpAny _ _ (field (.ref e) 3 >>= _) _ _ ⟨h₁,g,d,tk,os⟩;refine wpAny_bind (wpAny_field he₁ rfl (x:=rawInt i) rfl ?_);show wpAny _ _ (field (.ref e) 4 >>= _) _ _ ⟨h₁,g,d,tk,os⟩;refine wpAny_bind (wpAny_field he₁ rfl (x:=.none) rfl ?_);show wpAny _ _ (mkInt i >>= _) _ _ ⟨h₁,g,d,tk,os⟩;refine wpAny_bind (wpAny_mkInt ?_);show wpAny _ _ (setField (.ref e) 3 (rawInt ((i:Int)+1)) >>= _) _ _ ⟨h₁,g,d,tk+1,os⟩;refine wpAny_bind (wpAny_setField_rec he₁ (by simp) λh₂ he₂ hs₂=>?_)
 replace hs₂:B3 e h₁ h₂:=hs₂
 replace he₂:IsEnum h₂ e z ((i:Int)+1) old:=he₂
 show wpAny _ _ (setField (.ref e) 4 .none >>= _) _ _ ⟨h₂,g,d,tk+1,os⟩;refine wpAny_bind (wpAny_setField_rec he₂ (by simp) λh₃ he₃ hs₃=>?_)
 replace hs₃:B3 e h₂ h₃:=hs₃
 replace he₃:IsEnum h₃ e z ((i:Int)+1) old:=he₃
 show wpAny _ _ (newTuple [.int i tk,.ref hp.objs.size] >>= _) _ _ ⟨h₃,g,d,tk+1,os⟩;refine wpAny_bind (wpAny_newTuple ?_);have hsz:h₃.objs.size=hp.objs.size+1:=by rw[hs₃.1,hs₂.1,hz₁]
 have he₄:IsEnum (h₃.push {cls:=.type "tuple",data:=.seq #[.int i tk,.ref hp.objs.size]}) e z ((i:Int)+1) old:=i0 _ he₃;have ht₄:lQ (h₃.push {cls:=.type "tuple",data:=.seq #[.int i tk,.ref hp.objs.size]}) (hp.objs.size+1) (.int i tk) (.ref hp.objs.size):=by rw[<-hsz];exact v0 _ rfl
 have up₄:∀c o,c≠e->h₁.get? c=some o->(h₃.push {cls:=.type "tuple",data:=.seq #[.int i tk,.ref hp.objs.size]}).get? c=some o:=λc o hc x=>i0 _ (hs₃.extBut c o hc (hs₂.extBut c o hc x));generalize (h₃.push {cls:=.type "tuple",data:=.seq #[.int i tk,.ref hp.objs.size]})=h₄ at he₄ ht₄ up₄;show wpAny _ _ (W0 (.ref e) >>= _) _ _ ⟨h₄,g,d,tk+1,os⟩;rw[hsz];refine wpAny_bind ?_;unfold W0;refine wpAny_bind (wpAny_field he₄ rfl (x:=.none) rfl (wpAny_pure ?_));simp only[if_true];refine wpAny_bind (wpAny_rule ?_);refine wpAny_bind (wpAny_field he₄ rfl (x:=old) rfl ?_);refine wpAny_bind (wpAny_setField_rec he₄ (by simp) λh₅ he₅ hs₅=>?_)
 replace hs₅:B3 e h₄ h₅:=hs₅
 replace he₅:IsEnum h₅ e z ((i:Int)+1) (.ref hp.objs.size):=he₅
 show wpAny _ _ (X2 (.ref e) (.ref (hp.objs.size+1)) >>= _) _ _ ⟨h₅,g,d,tk+1,os⟩;refine wpAny_bind ?_;unfold X2;refine wpAny_bind (wpAny_setField_rec he₅ (by simp) λh₆ he₆ hs₆=>?_)
 replace hs₆:B3 e h₅ h₆:=hs₆
 replace he₆:IsEnumOut h₆ e z ((i:Int)+1) (.ref hp.objs.size) (hp.objs.size+1):=he₆
 refine wpAny_setField_rec he₆ (by simp) λh₇ he₇ hs₇=>?_
 replace hs₇:B3 e h₆ h₇:=hs₇
 replace he₇:IsEnumOut h₇ e z ((i:Int)+1) (.ref hp.objs.size) (hp.objs.size+1):=he₇
 have up:∀c o,c≠e->h₄.get? c=some o->h₇.get? c=some o:=λc o hc x=>hs₇.extBut c o hc (hs₆.extBut c o hc (hs₅.extBut c o hc x));refine wpAny_bind (wpAny_letGo (wpAny_pure ⟨_,rfl,wpAny_pure (hQ h₇ tk he₇ (st₁.keep λb hb o x=>?_) ?_ ?_ λc o hc x=>?_)⟩))
 .have hbe:b≠e:=λq=>ne (q ▸ hb);exact up b o hbe (up₄ b o hbe x)
 .exact up _ _ (N1 hel) (up₄ _ _ (N1 hel) ht₁)
 .exact up _ _ (N1 (E4 hel)) ht₄
 .have hc:c≠e/\c∉[z,TI,TO,i1,i2]:=by simpa using hc
  exact up c o hc.1 (up₄ c o hc.1 (hk₁ c o hc.2 x))
def AH{TI TO:Addr}{Q:Option Value->Shared->Prop}(hh:A.in1.handled=none)(D:ZAp2 z TI TO i1 i2 l1 l2)(he:IsEnum s.heap e z j old)(st:ZStE k1 k2 z TI TO i1 i2 l1 l2 i s.heap)(hl1:SqAt k1 s.heap l1 xs1) (hl2:SqAt k2 s.heap l2 xs2) (hend:xs1[i]?=none\/xs2[i]?=none)(hQ:∀h',(∀c o,c∉[z,TI,TO,i1,i2]->s.heap.get? c=some o->h'.get? c=some o)->Q none {s with heap:=h'}):wpAny (model prog w) A (pyNext (.ref e)) Q E s:=by
 have hT:s.TypeIs (.ref e) "enumerate":=⟨_,he,rfl⟩;unfold pyNext;refine wpAny_bind (wpAny_attempt (wpAny_callSpecial?_slot (name:=Str.ofString "__next__") hT F.slot_enumerate_next (wpAny_call_entry F.slot_enumerate_next hT F.entry_enumerate_next ?_ (F.args_enumerate_next_1 _))));show wpAny _ _ (field (.ref e) 2 >>= _) _ _ _;refine wpAny_bind (wpAny_field he rfl (x:=.ref z) rfl ?_);refine wpAny_bind (IW hh D st hl1 hl2 hend λh' x kp hx'=>?_);obtain⟨o,ho,hcl⟩:=hx';refine wpAny_bind (wpAny_isInstance (T:="StopIteration") (b:=true) ⟨o,ho,hcl⟩ isSubtype_stop ?_);exact wpAny_pure (hQ h' kp)
end
noncomputable def nE(K:B0)(k1 k2:Kd)(l1 l2:Addr):It :=
 ⟨λi H=>∃ys1 x1 ys2 x2,Sq k1 K H l1 ys1/\Sq k2 K H l2 ys2/\ys1[i]?=some x1/\ys2[i]?=some x2,
  λi H x H'=>∃T T2 x1 x2,T2≠T/\H T=none/\H T2=none/\x=.ref T2/\H'=DQ (DQ H T (.tup [x1,x2])) T2 (.tup [.int (i:Nat),.ref T])/\(∀ys,Sq k1 K H l1 ys->ys[i]?=some x1)/\(∀ys,Sq k2 K H l2 ys->ys[i]?=some x2),
  λi H=>∃ys1 ys2,Sq k1 K H l1 ys1/\Sq k2 K H l2 ys2/\(ys1.length<=i\/ys2.length<=i)⟩
def wU{K:B0}(k1 k2:Kd)(e z TI TO i1 i2 l1 l2:Addr)(D:ZAp2 z TI TO i1 i2 l1 l2)(ne:e∉[z,TI,TO,i1,i2]):Turn P w K (.Tuple es kk pos) (nE K k1 k2 l1 l2) [e,z,TI,TO,i1,i2] e (λi h=>(∃old,IsEnum h e z (i:Nat) old)/\ZStE k1 k2 z TI TO i1 i2 l1 l2 i h) where
 mem:=by simp
 obj:=λi h st b hb=>by
  obtain⟨⟨old,he⟩,⟨f0,fl,hz,hf⟩,hTI,⟨a1,a2,hTO⟩,t1,t2⟩:=st;have hb:b=e\/b=z\/b=TI\/b=TO\/b=i1\/b=i2:=by simpa using hb
  rcases hb with rfl|rfl|rfl|rfl|rfl|rfl
  .exact ⟨_,he,λv e=>by cases e⟩
  .exact ⟨_,hz,λv e=>by cases e⟩
  .exact ⟨_,hTI,λv e=>by cases e⟩
  .exact ⟨_,hTO,λv e=>by cases e⟩
  .exact t1.obj
  .exact t2.obj
 keep:=λi h h' st kp=>by obtain⟨⟨old,he⟩,t⟩:=st;exact ⟨⟨old,kp _ (by simp) _ he⟩,t.keep λb hb o x=>kp b (K0 _ hb) o x⟩
 item:=by
  intro X hP hw hK hc i pins s σ H E I hf st hg;subst hP hw hK;obtain⟨⟨old,he⟩,st⟩:=st;obtain⟨ys1,x1,ys2,x2,q1,q2,e1,e2⟩:=hg;obtain⟨its1,rv1,p1,z1⟩:=I.sq q1;obtain⟨u1,hu1,ru1⟩:=rv1.get e1;obtain⟨its2,rv2,p2,z2⟩:=I.sq q2;obtain⟨u2,hu2,ru2⟩:=rv2.get e2;have lts:∀b∈[e,z,TI,TO,i1,i2],b<s.heap.objs.size:=λb hb=>by
   obtain⟨f0,fl,hz,_⟩:=st.z;obtain⟨a1,a2,hTO⟩:=st.to;have hb:b=e\/b=z\/b=TI\/b=TO\/b=i1\/b=i2:=by simpa using hb
   rcases hb with rfl|rfl|rfl|rfl|rfl|rfl
   .exact u0 he
   .exact u0 hz
   .exact u0 st.ti
   .exact u0 hTO
   .obtain⟨o,eo,_⟩:=st.i1.obj;exact u0 eo
   .obtain⟨o,eo,_⟩:=st.i2.obj;exact u0 eo
  refine vU D ne he st p1 p2 (show its1.toArray[i]?=some u1 by simpa using hu1) (show its2.toArray[i]?=some u2 by simpa using hu2) λh' tk b1 b2 b3 b4 b5=>?_;have hel:e<s.heap.objs.size:=u0 he;refine ⟨_,rfl,wpAny_letOwnedTupleGo_enum (s:={s with heap:=h',toks:=tk+1}) b1 λh2 he2 hs2=>?_⟩;have kp:∀b o,b∉[e,z,TI,TO,i1,i2]->s.heap.get? b=some o->h2.get? b=some o:=λb o hb x=>hs2.extBut _ _ (λq=>hb (by rw[q];simp)) (b5 b o hb x);have hT2:lQ h2 s.heap.objs.size u1 u2:=hs2.extBut _ _ (N1 hel) b3;have hT3:lQ h2 (s.heap.objs.size+1) (.int (i:Nat) tk) (.ref s.heap.objs.size):=hs2.extBut _ _ (N1 (E4 hel)) b4;have hfr:H s.heap.objs.size=none:=I.hok.fresh (M0 _);have hfr2:H (s.heap.objs.size+1)=none:=I.hok.fresh (X5 _);have nn:s.heap.objs.size+1≠s.heap.objs.size:=Nat.succ_ne_self _;have old:∀{b o},H b=some o->DQ (DQ H s.heap.objs.size (.tup [x1,x2])) (s.heap.objs.size+1) (.tup [.int (i:Nat),.ref s.heap.objs.size]) b=some o:=λ{b o} x=>by rw[eQ (gQ x hfr2),eQ (gQ x hfr)];exact x
  have I2:Inv X pins σ (DQ (DQ H s.heap.objs.size (.tup [x1,x2])) (s.heap.objs.size+1) (.tup [.int (i:Nat),.ref s.heap.objs.size])) {s with heap:=h2}:=by
   have nfp:∀b u,H b=some u->b∉[e,z,TI,TO,i1,i2]:=λb u eb hb=>by have:=(hf b hb).1;rw[eb]at this;cases this
   refine I.step (g':=s.gens) (d':=s.drawn) (ch:=[e,z,TI,TO,i1,i2]) (λb hb=>?_) (λb o _ _ hc' eb _=>kp b o hc' eb) (λb o _ _ hc' eb _=>⟨o.slots,kp b o hc' eb⟩) (λb o _ eb n=>?_)
    (λb o hc' eb=>⟨o,kp b o hc' eb⟩) (λb xs eb=>old eb) (λb o xs eb=>old eb) (λb ps eb=>⟨#[],?_⟩) (λm hm=>?_) (λb o eb=>?_) I.bare
   .obtain⟨f0,f1,f2,f3,f4,f5⟩:=hf b hb;exact ⟨f3,f1,f4,f5⟩
   .rw[eQ (N0 (E4 (u0 eb))),eQ (N0 (u0 eb))];exact n
   .rw[old eb];simp
   .obtain⟨o,es',ep,ho,r⟩:=hm;exact ⟨o,es',ep,kp _ o (λhb=>(hf _ hb).2.1 rfl) ho,r⟩
   .by_cases hb2:b=s.heap.objs.size+1
    .subst hb2;rw[kQ]at eb;cases eb;exact ⟨by show 2<=sizeLine;decide,[.int (i:Nat) tk,.ref s.heap.objs.size],.cons ⟨tk,rfl⟩ (.cons rfl .nil),_,hT3,rfl,_,rfl,rfl⟩
    .rw[eQ hb2]at eb;by_cases hb:b=s.heap.objs.size
     .subst hb;rw[kQ]at eb;cases eb;exact ⟨by show 2<=sizeLine;decide,[u1,u2],.cons ru1 (.cons ru2 .nil),_,hT2,rfl,_,rfl,rfl⟩
     .rw[eQ hb]at eb;refine (I.hok b o eb).stay (λc v hc' q=>kp c v ?_ q) (λc q=>old q) λc xs q=>old q;rcases hc' with rfl|hc'
      .exact nfp _ _ eb
      .exact nfp _ _ hc'
  refine ⟨.ref (s.heap.objs.size+1),_,I2.tok (tk+1),rfl,⟨_,_,x1,x2,nn,hfr,hfr2,rfl,rfl,(λys hy=>by rw[I.sq_inj hy q1];exact e1),(λys hy=>by rw[I.sq_inj hy q2];exact e2)⟩,⟨⟨_,by simpa using he2⟩,b2.keep λb hb o x=>hs2.extBut _ _ (λq=>ne (q ▸ hb)) x⟩,λb hb=>?_⟩;have:=lts b hb;rw[eQ (N0 (E4 this)),eQ (N0 this)];exact (hf b hb).1
 done:=by
  intro X hP hw hK hc i pins s σ H E I hf st hg;subst hP hw hK;obtain⟨⟨old,he⟩,st⟩:=st;obtain⟨ys1,ys2,q1,q2,hend⟩:=hg;obtain⟨its1,rv1,p1,z1⟩:=I.sq q1;have len1:=rv1.length;obtain⟨its2,rv2,p2,z2⟩:=I.sq q2;have len2:=rv2.length;refine AH (I.ok.hd hc) D he st p1 p2 ?_ λh' kp=>⟨rfl,?_⟩
  .rcases hend with h|h
   .exact .inl (by simp;lia)
   .exact .inr (by simp;lia)
  .have nfp:∀b u,H b=some u->b∉[e,z,TI,TO,i1,i2]:=λb u e hb=>by have:=(hf b hb).1;rw[e]at this;cases this
   have kp':∀b o,b∉[e,z,TI,TO,i1,i2]->s.heap.get? b=some o->h'.get? b=some o:=λb o hb x=>kp b o (λq=>hb (K0 _ q)) x;refine I.step (g':=s.gens) (d':=s.drawn) (ch:=[e,z,TI,TO,i1,i2]) (λb hb=>?_) (λb o _ _ hc' e _=>kp' b o hc' e) (λb o _ _ hc' e _=>⟨o.slots,kp' b o hc' e⟩) (λb o _ e n=>n)
    (λb o hc' e=>⟨o,kp' b o hc' e⟩) (λb xs e=>e) (λb o xs e=>e) (λb ps e=>⟨#[],by rw[e];simp⟩) (λm hm=>?_) (λb o e=>?_) I.bare
   .obtain⟨f0,f1,f2,f3,f4,f5⟩:=hf b hb;exact ⟨f3,f1,f4,f5⟩
   .obtain⟨o,es',ep,ho,r⟩:=hm;exact ⟨o,es',ep,kp' _ o (λhb=>(hf _ hb).2.1 rfl) ho,r⟩
   .refine (I.hok b o e).stay (λc v hc' q=>kp' c v ?_ q) (λ_ q=>q) λ_ _ q=>q;rcases hc' with rfl|hc'
    .exact nfp _ _ e
    .exact nfp _ _ hc'
 self:=λ_ _ _ _ _ st h=>by obtain⟨⟨old,he⟩,_⟩:=st;exact wpAny_pyIter_enum he h
noncomputable abbrev QM(h:Heap)(z:Addr):Heap:=h.push {cls:=.type "enumerate",data:=.fields #[.none,.bool false,.ref z,rawInt 0,.none,.none]}
def nz(z TI TO:Addr)(f0:Value):Meets (Builtin.«enumerate.__new__» ⟨[.type "enumerate",.ref z],[]⟩) (λ_ R s=>IsZip s.heap z TI TO f0/\R (.ok (.ret (.ref s.heap.objs.size))) {s with heap:=QM s.heap z}):=
 .of_wp λprog w A R s h=>by
  obtain⟨hp,g,d,tk,os⟩:=s;obtain⟨hl,h⟩:=h;have hsub:=sub_enumerate;have hL:IsZip (Shared.heap ⟨hp,g,d,tk,os⟩) z TI TO f0:=hl
  wp_walk using AutoSeq1.wpAny_loadPart' hL
  refine wpAny_stack_any λst=>wpAny_pure ?_;split
  .rename_i c _ _ _ _ _;cases (c==B5 "enumerate")
   .wp_walk using AutoSeq1.wpAny_loadPart' hL,wpAny_pyIter_zip hL
    exact ⟨_,rfl,h⟩
   .wp_walk using AutoSeq1.wpAny_loadPart' hL,wpAny_pyIter_zip hL
    exact ⟨_,rfl,h⟩
  .wp_walk using AutoSeq1.wpAny_loadPart' hL,wpAny_pyIter_zip hL
   exact ⟨_,rfl,h⟩
def ik(K:B0)(ta:TA):TI:=λσ H R=>ta σ H λvs H1=>∃(k1:Kd) (l1:Addr) (ys1:List V) (k2:Kd) (l2:Addr) (ys2:List V),vs=[.ref l1,.ref l2]/\Sq k1 K H1 l1 ys1/\Sq k2 K H1 l2 ys2/\R (nE K k1 k2 l1 l2) H1
def jk{es:List Expr}{kk:Nat}{tpos:Pos}{a b:Expr}{ta:TA}{p pos p0 pos0:Pos}(hg0:Gl X "enumerate")(hm0:X.mg "enumerate"=none)(hg:Gl X "zip")(hm:X.mg "zip"=none)(ha:PA X [a,b] ta)
  (hs:starEach [a,b] X.env=(false,eval a X.env)::starEach [b] X.env:=by rfl) (hpl:(backTo pos (starEach [b] X.env)).any (·.1)=false:=by rfl)
  (hs0:starEach [.Call (.Name "zip" p) [a,b] [] pos] X.env=(false,eval (.Call (.Name "zip" p) [a,b] [] pos) X.env)::starEach [] X.env:=by rfl) (hpl0:(backTo pos0 (starEach [] X.env)).any (·.1)=false:=by rfl) :
  PI X (.Tuple es kk tpos) (.Call (.Name "enumerate" p0) [.Call (.Name "zip" p) [a,b] [] pos] [] pos0) (ik X.K ta):=by
 intro pins s σ H R I h;refine Call_ (UX I hg0 hm0 boot_enumerate ?_);refine S1 ?_ hs0 hpl0;rw[hs0];show wpAny _ _ (spliced ((false,eval (.Call (.Name "zip" p) [a,b] [] pos) X.env)::backTo pos0 (starEach [] X.env))) _ _ s;refine Calls.spliced_cons ?_;refine Call_ (UX I hg hm boot_zip (S1 (eX (ha pos pins s σ H _ I h) λus s1 ⟨vs,H1,I1,r1,q1⟩=>?_) hs hpl));obtain⟨k1,l1,ys1,k2,l2,ys2,e,q1,q2,q⟩:=q1;subst e;obtain rfl:us=[.ref l1,.ref l2]:=by cases r1 with|cons r rr=>cases r;cases rr with|cons r rr=>cases r;cases rr;rfl
 obtain⟨its1,rv1,p1,z1⟩:=I1.sq q1;obtain⟨its2,rv2,p2,z2⟩:=I1.sq q2;have lt:∀{k:Kd}{l:Addr}{xs:Array Value},SqAt k s1.heap l xs->l<s1.heap.objs.size:=λ{k l xs} p=>by
  cases k with
  |l=>obtain⟨o,e,_⟩:=p;exact u0 e
  |t=>obtain⟨o,e,_⟩:=p;exact u0 e
 refine callType_new F.called_zip (by decide) (F.typeCall_zip_2 _ _) (F.newCall_zip_2 _ _) (λobj=>F.args_object_init_3 obj _ _) F.entry_zip_new (wK k1 k2 l1 l2 its1.toArray its2.toArray) ⟨p1,p2,?_⟩;have zI:(SW s1.heap k1 k2 l1 l2).objs.size=s1.heap.objs.size+2:=by simp[Z0]
 have zT:(TW s1.heap k1 k2 l1 l2).objs.size=s1.heap.objs.size+3:=by simp[Z0]
 have zO:(UW s1.heap k1 k2 l1 l2).objs.size=s1.heap.objs.size+4:=by simp[Z0]
 have zZ:(jX s1.heap k1 k2 l1 l2).objs.size=s1.heap.objs.size+5:=by simp[Z0]
 have gZ:(jX s1.heap k1 k2 l1 l2).get? (UW s1.heap k1 k2 l1 l2).objs.size=some _:=v0 _ rfl;have gO:(jX s1.heap k1 k2 l1 l2).get? (TW s1.heap k1 k2 l1 l2).objs.size=some _:=i0 _ (v0 _ rfl);have gT:(jX s1.heap k1 k2 l1 l2).get? (SW s1.heap k1 k2 l1 l2).objs.size=some _:=i0 _ (i0 _ (v0 _ rfl));have g1:(jX s1.heap k1 k2 l1 l2).get? s1.heap.objs.size=some (iX k1 l1):=i0 _ (i0 _ (i0 _ (i0 _ (v0 _ (by cases k1<;>rfl)))));have g2:(jX s1.heap k1 k2 l1 l2).get? (s1.heap.push (iX k1 l1)).objs.size=some (iX k2 l2):=i0 _ (i0 _ (i0 _ (v0 _ (by cases k2<;>rfl))));have zz2:(s1.heap.push (iX k1 l1)).objs.size=s1.heap.objs.size+1:=by simp[Z0]
 rw[zO,zT,zI]at gZ;rw[zI,zz2]at gT;rw[zT]at gO;rw[zz2]at g2;show _/\_;rw[zO];have kp:∀b o,s1.heap.get? b=some o->(jX s1.heap k1 k2 l1 l2).get? b=some o:=λb o e=>i0 _ (i0 _ (i0 _ (i0 _ (i0 _ (e)))));refine ⟨⟨_,gZ,rfl⟩,Calls.spliced_nil ?_⟩;refine callType_new F.called_enumerate (by decide) (F.typeCall_enumerate_1 _) (F.newCall_enumerate_1 _) (λobj=>F.args_object_init_2 obj _) F.entry_enumerate_new (nz _ _ _ _) ⟨gZ,?_⟩;have gE:(QM (jX s1.heap k1 k2 l1 l2) (s1.heap.objs.size+4)).get? (jX s1.heap k1 k2 l1 l2).objs.size=some _:=v0 _ rfl;rw[zZ]at gE;show _/\_;rw[zZ];have kp2:∀b o,(jX s1.heap k1 k2 l1 l2).get? b=some o->(QM (jX s1.heap k1 k2 l1 l2) (s1.heap.objs.size+4)).get? b=some o:=λb o e=>i0 _ e;refine ⟨⟨_,gE,rfl⟩,wpAny_pyIter_enum (s:={s1 with heap:=QM (jX s1.heap k1 k2 l1 l2) (s1.heap.objs.size+4)}) gE ?_⟩;refine ⟨_,[s1.heap.objs.size+5,s1.heap.objs.size+4,s1.heap.objs.size+2,s1.heap.objs.size+3,s1.heap.objs.size,s1.heap.objs.size+1],_,_,H1,rfl,I1.kept (t':=s1.toks) (λb o e=>kp2 b o (kp b o e)),wU k1 k2 _ _ _ _ _ _ l1 l2 (bv _ l1 l2 (lt p1) (lt p2)) ?_,⟨⟨_,gE⟩,⟨⟨_,_,kp2 _ _ gZ,.inl rfl⟩,kp2 _ _ gT,⟨_,_,kp2 _ _ gO⟩,(ItAt.new k1 g1).at λo e=>kp2 _ _ e,(ItAt.new k2 g2).at λo e=>kp2 _ _ e⟩⟩,λb hb=>?_,q⟩
 .intro hm;have hm:s1.heap.objs.size+5=s1.heap.objs.size+4\/s1.heap.objs.size+5=s1.heap.objs.size+2\/s1.heap.objs.size+5=s1.heap.objs.size+3\/s1.heap.objs.size+5=s1.heap.objs.size\/s1.heap.objs.size+5=s1.heap.objs.size+1:=by simpa using hm
  lia
 have hb:s1.heap.objs.size<=b:=by
  have hb:b=s1.heap.objs.size+5\/b=s1.heap.objs.size+4\/b=s1.heap.objs.size+2\/b=s1.heap.objs.size+3\/b=s1.heap.objs.size\/b=s1.heap.objs.size+1:=by simpa using hb
  rcases hb with rfl|rfl|rfl|rfl|rfl|rfl;all_goals first|exact E2 _ _|exact M0 _
 exact I1.fpOk hb (I1.hok.fresh hb)
end L2
namespace L3
open L2
noncomputable def wD(a b:AD):UU:=λρ Q=>nX [a,b] ρ λxs ρ1=>match NQ ρ1 xs with
 |false=>JQ ρ1 xs λds=>match ds with
  |[x,y]=>match kY x,kY y with
   |some us,some vs=>Q (vZ (BX us vs)) ρ1
   |_,_=>False
  |_=>False
 |true=>False
def BH{K:Fg}(e1:F a=some (match k1 with|Kd.l=>HO.lst xs|Kd.t=>HO.tup xs))(h1:DaAll K F xs ds)(e2:F b=some (match k2 with|Kd.l=>HO.lst ys|Kd.t=>HO.tup ys))(h2:DaAll K F ys es):Walks K (nE K k1 k2 a b) F (vZ (BX ds es)):=λi H F1 s1 s2=>by
 have q1:Sq k1 K H a xs:=cK (s2 _ _ (s1 _ _ e1));have q2:Sq k2 K H b ys:=cK (s2 _ _ (s1 _ _ e2));refine ⟨λd ed=>?_,λhl=>⟨xs,ys,q1,q2,?_⟩⟩
 .simp only[vZ,Q0,G3]at ed;obtain⟨⟨x,j⟩,ez,rfl⟩:=ed;rw[e7,G3]at ez;obtain⟨x',ex,ep⟩:=ez;cases ep;simp only[BX,Q0,G3]at ex;obtain⟨⟨d1,d2⟩,ezz,rfl⟩:=ex;rw[o6]at ezz;obtain⟨v1,g1,g2⟩:=h1.get ezz.1;obtain⟨v2,g3,g4⟩:=h2.get ezz.2;refine ⟨⟨xs,v1,ys,v2,q1,q2,g1,g3⟩,λz H' ⟨T,T2,y1,y2,nT,hT,hT2,ex,eH,f1,f2⟩=>?_⟩;subst ex eH;have f1:=f1 xs q1;rw[g1]at f1;cases f1;have f2:=f2 ys q2;rw[g3]at f2;cases f2;have fr:∀{T},H T=none->F1 T=none:=λ{T} hT=>by
   cases z:F1 T with
   |none=>rfl
   |some o=>rw[s2 _ _ z]at hT;cases hT
  have fT:=fr hT;have fT2:=fr hT2;have sA:Sub F1 (DQ F1 T (.tup [v1,v2])):=Sub.new fT;have fT2':DQ F1 T (.tup [v1,v2]) T2=none:=by rw[eQ nT];exact fT2
  have sB:Sub (DQ F1 T (.tup [v1,v2])) (DQ (DQ F1 T (.tup [v1,v2])) T2 (.tup [.int (i:Nat),.ref T])):=Sub.new fT2';have hA:Sub H (DQ H T (.tup [v1,v2])):=Sub.new hT;have hT2':DQ H T (.tup [v1,v2]) T2=none:=by rw[eQ nT];exact hT2
  have hB:Sub (DQ H T (.tup [v1,v2])) (DQ (DQ H T (.tup [v1,v2])) T2 (.tup [.int (i:Nat),.ref T])):=Sub.new hT2';have dIn:Da K (DQ (DQ F1 T (.tup [v1,v2])) T2 (.tup [.int (i:Nat),.ref T])) (.ref T) (.tuple [d1,d2]):=.tup (sB _ _ kQ) (.cons (g2.mono (s1.trans (sA.trans sB))) (.cons (g4.mono (s1.trans (sA.trans sB))) .nil));refine ⟨_,sA.trans sB,λc o ec=>?_,λc o ec=>?_,hA.trans hB,.tup kQ (.cons (by rw[J6];exact .int _) (.cons dIn .nil))⟩
  .by_cases z:c=T2
   .subst z;exact .inr hT2
   .rw[eQ z]at ec;by_cases z2:c=T
    .subst z2;exact .inr hT
    .rw[eQ z2]at ec;exact .inl ec
  .by_cases z:c=T2
   .subst z;rw[kQ]at ec ⊢;exact ec
   .rw[eQ z]at ec ⊢;by_cases z2:c=T
    .subst z2;rw[kQ]at ec ⊢;exact ec
    .rw[eQ z2]at ec ⊢;exact s2 _ _ ec
 .simp only[vZ,BX,q0,N5,P2]at hl;rw[h1.length,h2.length];lia
def Oy{K:Fg}(h:kX K (wD a b) σ H R):ik K (rQ ([a,b].map (jQ K))) σ H R:=by
 obtain⟨G,F,ρ,Qd,Rl,w,k⟩:=h;refine bX Rl w λvs H' F' xs ρ' sb R' o w1=>?_;split at w1
 .rename_i e;obtain⟨ds,da,w1⟩:=RQ R' e o w1;split at w1
  .rename_i x y;split at w1
   .rename_i us vs p1 p2;cases da with
    |cons d1 t =>
     cases t with
     |cons d2 t=>cases t;obtain⟨k1,a1,us',rfl,e1,g1⟩:=CK d1 p1;obtain⟨k2,a2,vs',rfl,e2,g2⟩:=CK d2 p2;exact ⟨k1,a1,us',k2,a2,vs',rfl,cK (R'.sub _ _ e1),cK (R'.sub _ _ e2),k _ H' F' _ ρ' sb R' (BH e1 g1 e2 g2) w1⟩
   .exact w1.elim
  .exact w1.elim
 .exact w1.elim
section
variable {K:Fg}{e1 e2:Expr}{a b:AD}{p pos p0 pos0 tpos:Pos}
def Py{ts:List Expr}{kk:Nat}(hK:X.K=K)(hm0:X.mg "enumerate"=none)(hm:X.mg "zip"=none)(ha:WA X [e1,e2] (rQ ([a,b].map (jQ K))))(hg0:Gl X "enumerate":=by rfl)(hg:Gl X "zip":=by rfl)(he:notStar e1=true:=by rfl)(hpl:[e2].all notStar=true:=by rfl) :
  WI X (.Tuple ts kk tpos) (.Call (.Name "enumerate" p0) [.Call (.Name "zip" p) [e1,e2] [] pos] [] pos0) (kX K (wD a b)):=by
 subst hK;exact ⟨cC (jk hg0 hm0 hg hm ha.h (starEach_of he) (AQ hpl) (by rfl) (by rfl)) Oy⟩
end
end L3
namespace L2
section
open PySem.SeqAt
open PySem.AutoSeq1 (wpAny_loadPart')
open PySem.MeetsSeq PySem.MeetsSeq2 PySem.MeetsSeq3
def xU(l b:Addr)(items items2:Array Value)(n n2:Nat)(dd dd2:Option Addr)(sl sl2:Array (Option Value))(e lt:Nat->Bool):Meets (Builtin.«tuple.__gt__» ⟨[.ref l,.ref b],[]⟩) (λA R s=>s.heap.get? l=some {cls:=.type "tuple",dict:=dd,data:=.seq items n,slots:=sl}/\s.heap.get? b=some {cls:=.type "tuple",dict:=dd2,data:=.seq items2 n2,slots:=sl2} /\ (∀(k:Nat) (x y:Value),items[k]?=some x->items2[k]?=some y->SeqAt.EqAt A.in1 s x y (e k)) /\ (∀(k:Nat) (x y:Value),items[k]?=some x->items2[k]?=some y->e k=false->∀(prog:Program) (w:World) (E:Value->Shared->Prop) (Q:Value->Shared->Prop),Q (.bool (lt k)) s->wpAny (model prog w) A.in1 (richCompare .Gt x y) Q E s) /\ R (.ok (.ret (.bool (az e lt (decide (items2.size<items.size)) 0 (min items.size items2.size))))) s):=.of_wp λprog w A R s h=>by
 obtain⟨hp,g,d,tk,os⟩:=s;obtain⟨hl,hb,hE,hL,h⟩:=h;have f2:=AutoSeq1.sub_tuple_tuple
 wp_walk using wpAny_loadPart' hl,wpAny_loadPart' hb,wpAny_forIn_list _ (λrest b s'=>b.1=none/\s'=⟨hp,g,d,tk,os⟩/\∃k,rest=(items.toList.zip items2.toList).drop k/\k<=min items.size items2.size/\R (.ok (.ret (.bool (az e lt (decide (items2.size<items.size)) k (min items.size items2.size-k))))) ⟨hp,g,d,tk,os⟩) _
 case turn =>
  rintro⟨y,x⟩ rest b s' ⟨hb',rfl,k,hz,hk,hR⟩;have hlt:k<(items.toList.zip items2.toList).length:=by
   by_cases q:k<(items.toList.zip items2.toList).length
   .exact q
   .rw[S3 (by lia)]at hz;cases hz
  rw[W1 hlt]at hz;injection hz with hyx hrest;rw[X4]at hyx;injection hyx with hy hx;rw[P2,P0,P0]at hlt;have g1:items[k]?=some y:=by rw[hy,<-V2];exact A0 _
  have g2:items2[k]?=some x:=by rw[hx,<-V2];exact A0 _
  obtain⟨m,hm⟩:∃m,min items.size items2.size-k=m+1:=⟨min items.size items2.size-k-1,by lia⟩;rw[hm]at hR;refine wpAny_bind (hE k y x g1 g2 prog w _ _ ?_);have hR:R (.ok (.ret (.bool (if e k=true then az e lt (decide (items2.size<items.size)) (k+1) m else lt k)))) ⟨hp,g,d,tk,os⟩:=hR;cases he:e k with
  |true =>
   rw[he,if_pos rfl]at hR
   wp_walk
   exact ⟨rfl,rfl,k+1,hrest,by lia,by rw[show min items.size items2.size-(k+1)=m by lia];exact hR⟩
  |false =>
   rw[he,if_neg X0]at hR;have hri:=hL k y x g1 g2 he prog w
   wp_walk using hri
   exact ⟨_,rfl,by simpa using hR⟩
 case fin =>
  rintro⟨b1,b2⟩ s' ⟨hb',rfl,k,hz,hk,hR⟩;simp only at hb';subst hb';have hk2:min items.size items2.size-k=0:=by have:=congrArg J3 hz;rw[j6,P2,P0,P0]at this;simp at this;lia
  rw[hk2]at hR;have hR:R (.ok (.ret (.bool (decide (items2.size<items.size))))) ⟨hp,g,d,tk,os⟩:=hR
  wp_walk
  exact ⟨_,rfl,by simpa [S6]using hR⟩
 case h=>exact ⟨rfl,rfl,0,rfl,P3 _,h⟩
end
section
variable {w:World}{R:Result->Shared->Prop}{I:Addr}{wr:List Addr}{P:Nat->Value->Prop}{St:Nat->Heap->Prop}{base:Heap}
abbrev oE(prog:Program)(w:World)(A:Around)(base:Heap)(P:Nat->Value->Prop)(bt:Nat->Nat->Bool):Prop:=∀i j vi vj (s:Shared) (Q E:Value->Shared->Prop),P i vi->P j vj->(∀b o,base.get? b=some o->s.heap.get? b=some o)->Q (.bool (bt i j)) s->wpAny (model prog w) A (richCompare .Gt vi vj) Q E s
def oz(W:Walks prog w A.in1 I fp wr n P St)(bt:Nat->Nat->Bool)(hcmp:oE prog w A.in1 base P bt)(S:Addr)(hSf:S∉fp)(hSb:base.get? S=none)(hwb:∀b∈wr,base.get? b=none):∀(k j:Nat) (s:Shared) (vb:Value) (c:Nat),n-(j+1)=k->j+1<=n->St (j+1) s.heap->P (argBest bt j) vb->(∀b o,base.get? b=some o->s.heap.get? b=some o) -> s.heap.get? S=some {cls:=.type "list",dict:=none,data:=.seq #[vb,vb] c,slots:=#[]} -> (∀v h' tk,P (argBest bt (n-1)) v->(∀b o,base.get? b=some o->h'.get? b=some o)->R (.ok (.ret v)) {s with heap:=h',toks:=tk}) -> codeAny (model prog w) A (.builtin "max.loop" ⟨[.ref I,.none,.ref S],[]⟩) R s:=by
 have hSw:S∉wr:=λh=>hSf (W.sub _ h);have nw:∀{b o},base.get? b=some o->b∉wr:=λe h=>by rw[hwb _ h]at e;cases e
 have nS:∀{b o},base.get? b=some o->b≠S:=λe h=>by rw[h,hSb]at e;cases e
 have hname:(toString "max"++toString ".loop":String) = "max.loop":=by decide
 intro k;induction k with
 |zero =>
  intro j s vb c hk hj hst hPb hB hS hR;have hin:j+1=n:=by lia
  refine codeAny_builtin F.entry_max_loop ?_;rw[Around.under_plainId F.plain_max_loop _];refine wpAny_bind (wpAny_seqItems hS rfl ?_);refine wpAny_bind (wpAny_tryCatch (W.done s _ _ (hin ▸ hst) λh' tk hk'=>?_));have hS':=hk' S _ hSw hS;refine wpAny_bind ?_;refine wpAny_updateSeq hS' rfl (wpAny_bind (wpAny_letGo (wpAny_pure ?_)));exact hR vb _ tk (by rw[<-hin];exact hPb) λb o e=>(K1 _ _ (Y1 (nS e))).trans (hk' b o (nw e) (hB b o e))
 |succ k ih =>
  intro j s vb c hk hj hst hPb hB hS hR;have hlt:j+1<n:=by lia
  refine codeAny_builtin F.entry_max_loop ?_;rw[Around.under_plainId F.plain_max_loop _];refine wpAny_bind (wpAny_seqItems hS rfl ?_);refine wpAny_bind (wpAny_tryCatch (W.item (j+1) s _ _ hlt hst λv h' tk hP hst' hk'=>?_));have hS':=hk' S _ hSw hS;have hB':∀b o,base.get? b=some o->h'.get? b=some o:=λb o e=>hk' b o (nw e) (hB b o e);show wpAny _ A.in1 (tryCatch (holding [v,v] (richCompare .Gt v vb >>= _)) _ >>= _) _ _ _;refine wpAny_bind (wpAny_tryCatch (wpAny_holding (wpAny_bind (hcmp (j+1) (argBest bt j) v vb _ _ _ hP hPb hB' ?_))));refine wpAny_bind (wpAny_holding (wpAny_truthy_bool ?_));refine wpAny_bind (wpAny_letGo (wpAny_pure ?_));cases hb:bt (j+1) (argBest bt j) with
  |true =>
   simp only[if_true];refine wpAny_bind ?_;refine wpAny_updateSeq hS' rfl (wpAny_bind (wpAny_letGo ?_));rw[hname];exact wpAny_pure ⟨plainId_quiet F.plain_max_loop _,ih (j+1) _ v _ (by lia) hlt (W.frame _ _ _ hst' λb hbf o e=>(K1 _ _ (λh:S=b=>hSf (by rw[h];exact hbf))).trans e) (by simp only[argBest,hb,if_true];exact hP)
     (λb o e=>(K1 _ _ (Y1 (nS e))).trans (hB' b o e)) (X1 _ hS' rfl) λv' h'' tk'' hP' hk''=>hR v' h'' tk'' hP' hk''⟩
  |false=>simp only[T1,if_false];refine wpAny_bind (wpAny_letGo ?_);rw[hname];exact wpAny_pure ⟨plainId_quiet F.plain_max_loop _,ih (j+1) _ vb c (by lia) hlt hst' (by simp only[argBest,hb,T1,if_false];exact hPb) hB' hS' λv' h'' tk'' hP' hk''=>hR v' h'' tk'' hP' hk''⟩
end
def aF{St:Nat->Heap->Prop}(W:Walks prog w A.in1 I fp wr n P St)(bt:Nat->Nat->Bool)(hcmp:oE prog w A.in1 base P bt)(S:Addr)(hSf:S∉fp)(hSb:base.get? S=none)(hwb:∀b∈wr,base.get? b=none)(hn:0<n){s:Shared}{c:Nat}(hst:St 0 s.heap)(hB:∀b o,base.get? b=some o->s.heap.get? b=some o)(hS:s.heap.get? S=some {cls:=.type "list",dict:=none,data:=.seq #[] c,slots:=#[]})(hR:∀v h' tk,P (argBest bt (n-1)) v->(∀b o,base.get? b=some o->h'.get? b=some o)->R (.ok (.ret v)) {s with heap:=h',toks:=tk}):codeAny (model prog w) A (.builtin "max.loop" ⟨[.ref I,.none,.ref S],[]⟩) R s:=by
 have hSw:S∉wr:=λh=>hSf (W.sub _ h);have hname:(toString "max"++toString ".loop":String) = "max.loop":=by decide
 refine codeAny_builtin F.entry_max_loop ?_;rw[Around.under_plainId F.plain_max_loop _];refine wpAny_bind (wpAny_seqItems hS rfl ?_);refine wpAny_bind (wpAny_tryCatch (W.item 0 s _ _ hn hst λv h' tk hP hst' hk'=>?_));have hS':=hk' S _ hSw hS;show wpAny _ A.in1 (updateSeq S (λ_=>#[v,v]) >>= _) _ _ _;refine wpAny_bind ?_;refine wpAny_updateSeq hS' rfl ?_;rw[hname];refine wpAny_pure ⟨plainId_quiet F.plain_max_loop _,oz W bt hcmp S hSf hSb hwb _ 0 _ v _ rfl hn (W.frame _ _ _ hst' λb hbf o e=>(K1 _ _ (λh:S=b=>hSf (by rw[h];exact hbf))).trans e) hP (λb o e=>?_) (X1 _ hS' rfl) λv' h'' tk'' hP' hk''=>hR v' h'' tk'' hP' hk''⟩;refine (K1 _ _ λh=>?_).trans (hk' b o (λh=>?_) (hB b o e))
 .rw[<-h,hSb]at e;cases e
 .rw[hwb _ h]at e;cases e
def pz(bt:Nat->Nat->Bool)(hh:A.handled=none)(hl:s.heap.IsList l xs)(hn:0<xs.size)(hcmp:oE prog w A.in1 s.heap (λi v=>xs[i]?=some v) bt)(hQ:∀v h' tk,xs[argBest bt (xs.size-1)]?=some v->(∀b o,s.heap.get? b=some o->h'.get? b=some o)->Q v {s with heap:=h',toks:=tk}):wpAny (model prog w) A (call (.builtin "max") [.ref l]) Q E s:=by
 have hname:(toString "max"++toString ".loop":String) = "max.loop":=by decide
 refine call_function_tree F.kind_max F.plain_max F.entry_max (F.args_max1 _) ?_;show wpAny _ A.in1 (V4 "max" ["key","default"] 0 ⟨[],[]⟩ >>= _) _ _ s;refine wpAny_bind (wpAny_of_eq (show V4 "max" ["key","default"] 0 ⟨[],[]⟩=pure [none,none] from rfl) ?_);refine wpAny_bind (wpAny_pure ?_);refine wpAny_bind (wpAny_pyIter_list hl ?_);refine wpAny_bind (wpAny_newObj_type ?_);have hll:l<s.heap.objs.size:=by obtain⟨o,ho,_⟩:=hl;exact u0 ho
 have W:=Walks.list (prog:=prog) (w:=w) (A:=A.in1) hh s.heap.objs.size l (N0 hll) xs;rw[hname];have none_of:∀b:Addr,s.heap.objs.size<=b->s.heap.get? b=none:=λb h=>by
  cases e:s.heap.get? b with
  |none=>rfl
  |some o=>exact absurd (u0 e) (Q8.mpr h)
 refine wpAny_pure ⟨plainId_quiet F.plain_max_loop _,aF W bt hcmp _ (λhm=>?_) (none_of _ ?_) (λb hb=>?_) hn ?_ (λb o e=>i0 _ (i0 _ e)) (v0 _ rfl) λv h' tk hv hk=>hQ v h' tk hv hk⟩
 .simp[Z0]at hm;exact absurd (hm ▸ hll) (by simp)
 .simp[Z0]
 .rw[G1.mp hb];exact none_of _ (M0 _)
 .obtain⟨o,ho,hc,m,hd⟩:=hl;exact ⟨⟨_,i0 _ (v0 _ rfl),rfl,rfl⟩,⟨o,i0 _ (i0 _ ho),hc,m,hd⟩⟩
def mk(A:Around)(s:Shared)(a:Int)(t:Tok)(c:Int)(u:Tok)(prog:Program)(w:World)(E:Value->Shared->Prop)(Q:Value->Shared->Prop)(h:Q (.bool (decide (a > c))) s):wpAny (model prog w) A (richCompare .Gt (.int a t) (.int c u)) Q E s:=
 (PyProof.Rows.gt_int h:wpAny (model prog w) A (compareOp .Gt (.int a t) (.int c u)) Q E s)
theorem xD(ns ms:Qa):∀(m k:Nat),m+k=min ns.length ms.length->az (λj=>decide (ns.getD j 0=ms.getD j 0)) (λj=>decide (ns.getD j 0 > ms.getD j 0)) (decide (ms.length<ns.length)) k m=HT.lexLt (ms.drop k) (ns.drop k)
 |0,k,h=>by
  show decide (ms.length<ns.length)=_;rcases g6 k ns.length with z|z
  .rw[S3 (l:=ms) (by lia),W1 z,HT.lexLt_nil_cons];exact decide_eq_true (by lia)
  .rw[S3 (l:=ns) z];rcases g6 k ms.length with y|y
   .rw[W1 y,HT.lexLt_cons_nil];exact decide_eq_false (by lia)
   .rw[S3 (l:=ms) y,HT.lexLt_nil_nil];exact decide_eq_false (by lia)
 |m+1,k,h=>by
  have h1:k<ns.length:=by lia
  have h2:k<ms.length:=by lia
  show (if decide (ns.getD k 0=ms.getD k 0)=true then az _ _ _ (k+1) m else decide (ns.getD k 0 > ms.getD k 0))=_;rw[xD ns ms m (k+1) (by lia),W1 h1,W1 h2,HT.lexLt_cons,G0,G0,A0 h1,A0 h2];show (if decide (ns[k]=ms[k])=true then _ else decide (ns[k] > ms[k]))=_;by_cases z:ns[k]=ms[k]
  .rw[if_pos (decide_eq_true z),if_pos z.symm]
  .rw[if_neg (by simpa using z),if_neg λq=>z q.symm]
theorem eZ:∀{vs:List Value}{ns:Qa},IntsAre vs ns->∀(k:Nat) (x:Value),vs[k]?=some x->∃t,x=.int (ns.getD k 0) t
 |_,_,.nil,k,x,h=>by simp at h
 |_,_,.cons a t h,0,x,e=>by cases e;exact ⟨t,rfl⟩
 |_,_,.cons a t h,k+1,x,e=>by obtain⟨t',q⟩:=eZ h k x e;exact ⟨t',q⟩
def bF(hl:IsTup s.heap l items)(hb:IsTup s.heap b items2)(hi:IntsAre items.toList ns)(hj:IntsAre items2.toList ms)(hu:A.units<cLine) (h:Q (.bool (HT.lexLt ms ns)) s):wpAny (model prog w) A (richCompare .Gt (.ref l) (.ref b)) Q E s:=by
 obtain⟨⟨cls,dd,data,sl⟩,ho,hc,n,hd⟩:=id hl;obtain⟨⟨cls2,dd2,data2,sl2⟩,ho2,hc2,n2,hd2⟩:=id hb;simp only at hc hd hc2 hd2;subst hc hd hc2 hd2;have z1:items.size=ns.length:=by rw[<-hi.length];simp
 have z2:items2.size=ms.length:=by rw[<-hj.length];simp
 have e:=xD ns ms (min ns.length ms.length) 0 (by lia);rw[A8,A8]at e;refine richCompare_meets_room (op:=.Gt) ⟨_,ho,rfl⟩ ⟨_,ho2,rfl⟩ PySem.F.slot_tuple_gt PySem.F.entry_tuple_gt (PySem.F.args_tuple_gt_2 _ _)
  (xU l b items items2 n n2 dd dd2 sl sl2 (λj=>decide (ns.getD j 0=ms.getD j 0)) (λj=>decide (ns.getD j 0 > ms.getD j 0))) ⟨ho,ho2,λk x y hx hy=>?_,λk x y hx hy he prog w E Q hq=>?_,?_⟩ hu
 .obtain⟨t1,rfl⟩:=eZ hi k x (by rw[V2];exact hx);obtain⟨t2,rfl⟩:=eZ hj k y (by rw[V2];exact hy);have:=SeqAt.EqAt.int_int (A:=A.in1) (s:=s) (ns.getD k 0) t1 (ms.getD k 0) t2;have e:∀a b:Int,(a==b)=decide (a=b):=λa b=>by by_cases z:a=b<;>simp[z]
  rw[e]at this;exact this
 .obtain⟨t1,rfl⟩:=eZ hi k x (by rw[V2];exact hx);obtain⟨t2,rfl⟩:=eZ hj k y (by rw[V2];exact hy);exact mk _ s _ t1 _ t2 prog w E Q hq
 .rw[z1,z2,e];exact ⟨(λz=>by cases z),h⟩
def SN(mx:Bool)(K:B0):List V->Hp->VK->Prop:=λxs H Q=>∃(l:Addr) (ys:List V) (ps:List Qa),xs=[.ref l]/\SqL K H l ys/\ys.length=ps.length/\0<ps.length/\(∀(i:Nat) y,ys[i]?=some y->∃c p,ps[i]?=some p/\y=.ref c/\H c=some (.tup (p.map V.int))) /\
 ∀(i:Nat) y p,ys[i]?=some y->ps[i]?=some p->(∀q∈ps,(if mx then HT.lexLt p q else HT.lexLt q p)=false)->Q y H
def qz{K:B0}(hK:X.K=K)(hc:X.calm=true)(hu:X.A.units+2<cLine):fX X (.builtin "min") (SN false K):=by
 subst hK;intro pins s σ H xs us Q I r h;obtain⟨l,ys,ps,rfl,hq,hl,hp,hy,q⟩:=h;obtain⟨u,rfl,ru⟩:=iZ r;cases ru;obtain⟨its,rv,p,hz⟩:=I.list hq;have len:=rv.length;have W:=SG.lex_wk;have hu1:X.A.in1.units<cLine:=Nat.lt_of_succ_lt hu;obtain⟨g1,g2⟩:=nK (bt:=λi j=>HT.lexLt (ps.getD i []) (ps.getD j [])) (λi=>W.irr _) (λi j k h1 h2=>W.tr _ _ _ h1 h2) (ps.length-1);refine dz (xs:=its.toArray) (λi j=>HT.lexLt (ps.getD i []) (ps.getD j [])) (I.ok.hd hc) p.isList (by simp;lia) (λi j vi vj s' Q' E' hi hj kk hq'=>?_) λv h' tk hv hk=>?_
 .obtain⟨y1,e1,r1⟩:=rv.getV (by simpa using hi);obtain⟨y2,e2,r2⟩:=rv.getV (by simpa using hj);obtain⟨c1,p1,f1,rfl,f2⟩:=hy i y1 e1;obtain⟨c2,p2,k1,rfl,k2⟩:=hy j y2 e2;cases r1;cases r2;have hq':Q' (.bool (HT.lexLt (ps.getD i []) (ps.getD j []))) s':=hq';rw[G0,G0,f1,k1]at hq';have I':Inv X pins σ H {s with heap:=s'.heap}:=I.kept (t':=s.toks) kk;obtain⟨_,ia,ra,ta⟩:=(show ObjOk X.prog X.w H s'.heap c1 (.tup (p1.map V.int)) from I'.hok c1 _ f2);obtain⟨_,ib,rb,tb⟩:=(show ObjOk X.prog X.w H s'.heap c2 (.tup (p2.map V.int)) from I'.hok c2 _ k2);exact HT.lt_tupInts (prog:=X.prog) (w:=X.w) ta.t tb.t (FQ ra) (FQ rb) hu1 hq'
 .have hsz:its.toArray.size=ps.length:=by simp;lia
  rw[hsz,r8]at hv;obtain⟨y,ey,ry⟩:=rv.getV hv;obtain⟨c,p0,f1,rfl,f2⟩:=hy _ y ey;refine ⟨.ref c,H,I.kept hk,ry,q _ _ p0 ey f1 λx hx=>?_⟩;obtain⟨j,hj⟩:=Z3.mp hx;have hjl:j<ps.length:=(S0.mp hj).1;have:=g2 j (by lia);have this:HT.lexLt (ps.getD j []) (ps.getD _ [])=false:=this;rw[G0,G0,f1,hj]at this;exact this
def rz{K:B0}(hK:X.K=K)(hc:X.calm=true)(hu:X.A.units+2<cLine):fX X (.builtin "max") (SN true K):=by
 subst hK;intro pins s σ H xs us Q I r h;obtain⟨l,ys,ps,rfl,hq,hl,hp,hy,q⟩:=h;obtain⟨u,rfl,ru⟩:=iZ r;cases ru;obtain⟨its,rv,p,hz⟩:=I.list hq;have len:=rv.length;have W:=SG.lex_wk;have hu1:X.A.in1.units<cLine:=Nat.lt_of_succ_lt hu;obtain⟨g1,g2⟩:=nK (bt:=λi j=>HT.lexLt (ps.getD j []) (ps.getD i [])) (λi=>W.irr _) (λi j k h1 h2=>W.tr _ _ _ h2 h1) (ps.length-1);refine pz (xs:=its.toArray) (λi j=>HT.lexLt (ps.getD j []) (ps.getD i [])) (I.ok.hd hc) p.isList (by simp;lia) (λi j vi vj s' Q' E' hi hj kk hq'=>?_) λv h' tk hv hk=>?_
 .obtain⟨y1,e1,r1⟩:=rv.getV (by simpa using hi);obtain⟨y2,e2,r2⟩:=rv.getV (by simpa using hj);obtain⟨c1,p1,f1,rfl,f2⟩:=hy i y1 e1;obtain⟨c2,p2,k1,rfl,k2⟩:=hy j y2 e2;cases r1;cases r2;have hq':Q' (.bool (HT.lexLt (ps.getD j []) (ps.getD i []))) s':=hq';rw[G0,G0,f1,k1]at hq';have I':Inv X pins σ H {s with heap:=s'.heap}:=I.kept (t':=s.toks) kk;obtain⟨_,ia,ra,ta⟩:=(show ObjOk X.prog X.w H s'.heap c1 (.tup (p1.map V.int)) from I'.hok c1 _ f2);obtain⟨_,ib,rb,tb⟩:=(show ObjOk X.prog X.w H s'.heap c2 (.tup (p2.map V.int)) from I'.hok c2 _ k2);exact bF (prog:=X.prog) (w:=X.w) ta.t tb.t (FQ ra) (FQ rb) hu1 hq'
 .have hsz:its.toArray.size=ps.length:=by simp;lia
  rw[hsz,r8]at hv;obtain⟨y,ey,ry⟩:=rv.getV hv;obtain⟨c,p0,f1,rfl,f2⟩:=hy _ y ey;refine ⟨.ref c,H,I.kept hk,ry,q _ _ p0 ey f1 λx hx=>?_⟩;obtain⟨j,hj⟩:=Z3.mp hx;have hjl:j<ps.length:=(S0.mp hj).1;have:=g2 j (by lia);have this:HT.lexLt (ps.getD _ []) (ps.getD j [])=false:=this;rw[G0,G0,f1,hj]at this;exact this
end L2
namespace L3
open L2
noncomputable def MO(mx:Bool):D->(Sl->Prop)->Prop
 | .list ds,Q=>∃ps:List Qa,ds=ps.map (λp=>A1 (p.map j0))/\0<ps.length/\∀m∈ps,(∀q∈ps,(if mx then HT.lexLt m q else HT.lexLt q m)=false)->Q (.fz (.tuple (m.map j0)))
 |_,_=>False
def Yu{K:Fg}:UQ K (SN mx K) (o1 (MO mx)):=NF λG F σ H ρ x d Q Qd R h1 w k=>by
 cases d<;>first|exact w.elim|skip
 obtain⟨ps,rfl,hp,w⟩:=w;obtain⟨a,us,rfl,e1,d1⟩:=h1.list R.sub;have hl:=d1.length;rw[q0]at hl;refine ⟨a,us,ps,rfl,SqL.of e1,hl,hp,λi y e=>?_,λi y p e1 e2 hm=>?_⟩
 .have hi:i<ps.length:=by rw[<-hl];exact (S0.mp e).1
  obtain⟨v,f1,f2⟩:=d1.get (i:=i) (d:=.tuple (ps[i].map j0)) (by rw[Q0,A0 hi];rfl);rw[e]at f1;cases f1;cases f2 with
  |tup q2 t2=>rw[t2.intsV]at q2;exact ⟨_,ps[i],A0 hi,rfl,R.sub _ _ q2⟩
 .obtain⟨v,f1,f2⟩:=d1.get (i:=i) (d:=.tuple (p.map j0)) (by rw[Q0,e2];rfl);rw[e1]at f1;cases f1;exact k _ H F (.fz _) (Sub.refl _) R f2 (w p (B1 e2) hm)
end L3
namespace R54
open L2 L3
abbrev ZS(K:Fg)(x:Str)(st:Stmt)(f:Addr)(fd:FuncData):=Fun K x x st f fd
noncomputable abbrev ZA(d:D):Option Sl:=some (.fz d)
noncomputable abbrev YA(d:D):Option Sl:=some (.ow d)
noncomputable def top(i:Nat):Stmt:=PySem.Challenge.pw_boxsums_k54_exchanged_and_mirrored.main.body.getD i (.Pass ⟨0,0,0,0⟩)
structure Txt(mg:Str->Option Value):Prop where
 Qb:∃t,mg "MOST_CELLS"=some (.int 120 t)
 Qc:mg "len"=none
 Qe:mg "abs"=none
 Qg:mg "min"=none
 Qh:mg "max"=none
 Qi:mg "sum"=none
 Ql:mg "dict"=none
 Qm:mg "all"=none
 Qn:mg "isinstance"=none
 Qo:mg "tuple"=none
 Qr:mg "list"=none
 Qs:mg "int"=none
 Qt:mg "bool"=none
 QA:mg "range"=none
 QO:mg "enumerate"=none
 QP:mg "zip"=none
 QR:mg "sorted"=none
 QS:mg "ValueError"=none
 QT:mg "BoxError"=some (.ref (cA mg "BoxError"))
 Xa:mg "NoField"=some (.ref (cA mg "NoField"))
 Xb:mg "NoBox"=some (.ref (cA mg "NoBox"))
 Xc:mg "NoTurn"=some (.ref (cA mg "NoTurn"))
section
variable {P:Program}{w:World}{K:B0}{mg:Str->Option Value}{base:Heap}
noncomputable abbrev dF(ns:Qa)(k l:Int):List (PyData×PyData):=[(.str "script",VJ ns),(.str "at",.int k),(.str "left",.int l)]
noncomputable abbrev JX(ns:Qa)(k l:Int):PyData:=.dict (dF ns k l)
def nk(ns:Qa)(k l:Int):Kq (dF ns k l) (.str "script")=some (VJ ns):=by rfl
def TN(ns:Qa)(k l:Int):Kq (dF ns k l) (.str "at")=some (.int k):=by rfl
def fF(ns:Qa)(k l:Int):Kq (dF ns k l) (.str "left")=some (.int l):=by rfl
def UN(ns:Qa)(k l:Int):(mY (dF ns k l) (.inr "at")).isSome=true:=by rfl
def qk(ns:Qa)(k l:Int):(mY (dF ns k l) (.inr "left")).isSome=true:=by rfl
def z3(ns:Qa)(k l:Int):(dF ns k l).length<sizeLine:=by show 3<sizeLine;decide
def VL:Con:=λargs Q=>∃ns:Qa,args=[.fz (VJ ns)]/\∀o,Q (.ow (JX ns 0 0)) o
def pE{f:Addr}(F:ZS K "_law_pen" (top 32) f fd):FnOk P w K mg base DX 1 f fd ["_law_script"] (dQ K VL):=by
 have S:FnScope ["_law_script"] ["_law_script"] (cQ (top 32)):={};refine DN F S (λcdv A outer s H E hr=>(mQ (BQ (CC [(.inr "script",.inl 0),(.inr "at",.inr (.int 0)),(.inr "left",.inr (.int 0))] (by decide +kernel) (by decide) (by simp) (Yw (dW WV (pv 0) (dW WV PH (dW WV PH Xw))) rfl rfl (by simp) (by simp)))))) ?_ ?_
 .rintro args Qd ⟨ns,rfl,_⟩;rfl
 .rintro args Qd ⟨ns,rfl,q⟩;exact ⟨RJ rfl,q _⟩
def sk:Con:=λargs Q=>∃(ns:Qa) (k l m:Int),args=[.io (JX ns k l),.fz (.int m)]/\0<=k/\0<=l/\0<m/\m<1000000 /\
 ∀(r k' l':Int) (o:Ev),0<=r->r<m->0<=k'->0<=l'->Q (.fz (.int r)) (some (.io (JX ns k' l'))::o)
def Qy{f:Addr}(F:ZS K "_law_take" (top 33) f fd)(T:Txt mg):FnOk P w K mg base DX 1 f fd ["_law_pen_here","_law_many"] (dQ K sk):=by
 have S:FnScope ["_law_pen_here","_law_many","_law_digit","_law_script","_law_at","_law_cell","_law_number_here"] ["_law_pen_here","_law_many"] (cQ (top 33)):={};refine nJ F S (λcdv A outer s H E hr=>(fQ (tZ (sZ SF tF (wx (rW (ZJ hr) (wn 0) (wx AY))) (wx iQ)) (fQ (zs 2 S.nd (w_bin dJ SZ (wx (rW (ZJ hr) (wn 0) (wx AY))) (wn 1)))
     (fQ (Vj (ZJ hr) (wn 0) (wx AY) (w_bin RY KY (wx (rW (ZJ hr) (wn 0) (wx AY))) (wn 1)))
     (mQ (uW (wn 2))))) xX)
     (fQ (zs 3 S.nd (rW (ZJ hr) (wn 0) (wx AY)))
     (fQ (zs 4 S.nd (rW (ZJ hr) (wn 0) (wx AY)))
     (fQ (Vj (ZJ hr) (wn 0) (wx AY) (w_bin IX mX (wn 4) (wx iQ)))
     (fQ (zs 5 S.nd (w_bin IX mX (wx (w_bin bJ kZ (wx iQ) (wn 4))) (wx iQ)))
     (fQ (tZ (sZ cL nu (wn 4) (wx (sQ AX (HQ (K:=K) rfl) T.Qc PySem.boot_len (aQ (wn 3) bQ)))) (fQ (zs 5 S.nd (bZ rfl (wn 3) (wn 4)))
     (mQ (tZ (sZ eL oI (wx (sQ jG XY T.Qe boot_abs (aQ (wn 5) bQ))) (wx (w_bin sG UH (wx iQ) (wx iQ)))) (fQ (Vj (ZJ hr) (wn 0) (wx AY) (w_bin RY KY (wx (sQ jG XY T.Qe boot_abs (aQ (wn 5) bQ))) (wn 1)))
     (mQ (BQ (w_bin dJ SZ (wx (sQ jG XY T.Qe boot_abs (aQ (wn 5) bQ))) (wn 1))))) xX))) (mQ (tZ (sZ SF tF (wx (sQ AX (HQ (K:=K) rfl) T.Qc PySem.boot_len (aQ (wn 3) bQ))) (wx iQ)) (mQ (zs 5 S.nd (w_bin IX mX (wx (w_bin dJ SZ (wx (bZ rfl (wn 3) (wx (w_bin dJ SZ (wn 4) (wx (sQ AX (HQ (K:=K) rfl) T.Qc PySem.boot_len (aQ (wn 3) bQ))))))) (wx (w_bin sG UH (wx iQ) (wx iQ))))) (wx (w_bin bJ kZ (wx iQ) (wn 4)))))) xX)))
     (fQ (zs 6 S.nd (w_bin dJ SZ (wx (w_bin bJ kZ (wx (w_bin IX mX (wx (w_bin IX mX (wx (w_bin dJ SZ (wn 5) (wx iQ))) (wx (w_bin bJ kZ (wx iQ) (wn 4))))) (wx iQ))) (wx iQ))) (wx iQ)))
     (fQ (zs 6 S.nd (w_bin dJ SZ (wx (w_bin IX mX (wx (w_bin bJ kZ (wn 6) (wx (w_bin IX mX (wx (w_bin dJ SZ (wn 6) (wx iQ))) (wx iQ))))) (wx iQ))) (wx iQ)))
     (mQ (BQ (w_bin dJ SZ (wx (w_bin RY KY (wn 6) (wx iQ))) (wn 1))))))))))))) ?_;rintro args Qd ⟨ns,k,l,m,rfl,hk,hl,m0,m1,q⟩;have hmd:∀x:Int,0<=x % m/\x % m<m:=λx=>⟨Int.emod_nonneg _ (by lia),Int.emod_lt_of_pos _ m0⟩;refine ⟨_,fF ns k l,?_⟩;refine oZ (λh1=>?_) (λh1=>?_)
 .exact ⟨_,fF ns k l,m0,_,fF ns k l,⟨m0,by lia⟩,z3 ns k l,qk ns k l,q _ _ _ _ (hmd _).1 (hmd _).2 hk (Int.ediv_nonneg hl (by lia))⟩
 refine ⟨_,nk ns k l,?_⟩;refine ⟨_,TN ns k l,?_⟩;refine ⟨z3 ns k l,UN ns k l,?_⟩;refine ⟨.inl ⟨by decide,by decide⟩,?_⟩;refine ⟨ns,rfl,?_⟩;refine oZ (λh2=>?_) (λh2=>?_)
 .have h2:k<(ns.length:Int):=of_decide_eq_true h2;obtain⟨j,hj⟩:=G6 hk;have hjl:j<ns.length:=by lia
  refine ⟨ns,ns[j],rfl,by rw[hj];exact ZV (A0 hjl),?_⟩;have hab:0<=(if ns[j]<0 then -ns[j] else ns[j]):=by split<;>lia
  refine ⟨⟨by decide,by decide,by decide⟩,?_⟩;refine oZ (λh3=>?_) (λh3=>?_)
  .exact ⟨⟨m0,by lia⟩,z3 ns (k+1) l,qk ns (k+1) l,m0,q _ _ _ _ (hmd _).1 (hmd _).2 (by lia) (Int.ediv_nonneg hab (by lia))⟩
  .refine ⟨by show (0:Int)<2147483629;decide,.inl ⟨by decide,by decide⟩,.inr ⟨by decide,by decide⟩,by show (0:Int)<2147483587;decide,?_⟩;refine ⟨by show (0:Int)<65521;decide,.inl ⟨by lia,by lia⟩,by show (0:Int)<2147483563;decide,?_⟩;exact ⟨⟨by decide,by decide⟩,m0,q _ _ _ _ (hmd _).1 (hmd _).2 (by lia) hl⟩
 .refine ⟨ns,rfl,?_⟩;refine oZ (λh3=>?_) (λh3=>?_)
  .have hpos:(0:Int)<(ns.length:Int):=of_decide_eq_true h3;have hb:=Int.emod_lt_of_pos k hpos;have ha:=Int.emod_nonneg k (show (ns.length:Int)≠0 by lia);obtain⟨j,hj⟩:=G6 ha;have hjl:j<ns.length:=by lia
   refine ⟨ns,rfl,hpos,ns,ns[j],rfl,by rw[hj];exact ZV (A0 hjl),⟨by decide,by decide,by decide⟩,by show (0:Int)<10 ^ 17;decide,.inl ⟨by decide,by decide⟩,?_⟩;refine ⟨by show (0:Int)<2147483629;decide,.inl ⟨by decide,by decide⟩,.inr ⟨by decide,by decide⟩,by show (0:Int)<2147483587;decide,?_⟩;refine ⟨by show (0:Int)<65521;decide,.inl ⟨by lia,by lia⟩,by show (0:Int)<2147483563;decide,?_⟩;exact ⟨⟨by decide,by decide⟩,m0,q _ _ _ _ (hmd _).1 (hmd _).2 (by lia) hl⟩
  .refine ⟨by show (0:Int)<2147483629;decide,.inl ⟨by decide,by decide⟩,.inr ⟨by decide,by decide⟩,by show (0:Int)<2147483587;decide,?_⟩;refine ⟨by show (0:Int)<65521;decide,.inl ⟨by lia,by lia⟩,by show (0:Int)<2147483563;decide,?_⟩;exact ⟨⟨by decide,by decide⟩,m0,q _ _ _ _ (hmd _).1 (hmd _).2 (by lia) hl⟩
def BY(lo:Int)(n:Nat):KQ lo (n+1)=j0 lo::KQ (lo+1) n:=by simp only[KQ,List.range_succ_eq_map,E1,O0];refine congr (congrArg List.cons (by simp)) (M3 λa _=>?_);simp only[Function.comp_def,PyData.int.injEq,Int.natCast_succ];lia
noncomputable def CQ:Qa->Int
 |[]=>1
 |a::r=>a*CQ r
theorem TJ:∀{l:Qa},(∀c∈l,1<=c)->1<=CQ l
 |[],_=>j9 _
 |a::r,h=>by have h1:=h a R0;have h2:=TJ (l:=r) λc hc=>h c (K0 _ hc);show 1<=a*CQ r;have:=Int.mul_le_mul h1 h2 (by decide) (by lia);lia
def gJ(l r:Qa):CQ (l++r)=CQ l*CQ r:=by
 induction l with
 |nil=>show CQ r=1*CQ r;rw[K7]
 |cons a l ih=>show a*CQ (l++r)=a*CQ l*CQ r;rw[ih,Z6]
structure Sd(sd:Qa):Prop where
 l1:1<=sd.length
 l3:sd.length<=3
 p:∀c∈sd,1<=c
 m:CQ sd<=120
noncomputable abbrev tupD(p:Qa):PyData:=.tuple (p.map j0)
def gK(l:Qa):CQ l.reverse=CQ l:=by
 induction l with
 |nil=>rfl
 |cons a l ih=>rw[U5,gJ,ih];show CQ l*(a*1)=a*CQ l;rw[v8,Int.mul_comm]
variable (P w K mg base) in
structure CalsB:Prop where
 Xd:Cal P w K mg base 1 "_law_take" ["_law_pen_here","_law_many"] (dQ K sk)
def uk:Con:=λargs Q=>∃(ns:Qa) (k l m:Int),args=[.io (JX ns k l),.fz (.int m)]/\0<=k/\0<=l/\1<=m/\m<=120 /\
 ∀(sd:Qa) (k' l':Int) (o:Ev),Sd sd->CQ sd<=m->0<=k'->0<=l'->Q (.ow (.list (sd.map j0))) (some (.io (JX ns k' l'))::o)
def vk{f:Addr}(F:ZS K "_law_sides" (top 36) f fd)(T:Txt mg)(C:CalsB P w K mg base):FnOk P w K mg base DX 2 f fd ["_law_pen_here","_law_most"] (dQ K uk):=by
 have S:FnScope ["_law_pen_here","_law_most","_law_ways","_law_thin","_law_sides_here","_law_left","_law_way","_law_top","_law_side"] ["_law_pen_here","_law_most"] (cQ (top 36)):={};refine nJ F S (λcdv A outer s H E hr=>(fQ (zs 2 S.nd (w_bin IX mX (wx iQ) (wx (oX C.Xd hr.m (aQ (wn 0) (aQ (wx iQ) bQ))))))
     (fQ (zs 3 S.nd (zV DK (eJ (K:=K) rfl hr.units) (wx (oX C.Xd hr.m (aQ (wn 0) (aQ (wx iQ) bQ)))) (wx iQ)))
     (fQ (zs 4 S.nd (MZ bQ))
     (fQ (uG (i:=5) S.nd rfl (Or.inl rfl) (wn 1))
     (fQ (BZ [6,7,8] PassesOwn.never rfl (oY T.QA (aQ (wn 2) bQ)) (nQ (i:=6) S.nd rfl (Or.inl rfl)) (fQ (zs 7 S.nd (bZ rfl (wx (MZ (aQ (wx iQ) (aQ (wx iQ) (aQ (wx iQ) bQ))))) (wx (w_bin RX NX (wn 2) (wx iQ)))))
     (fQ (tZ (cZ (wv 3)) (mQ (zs 7 S.nd (bZ rfl (wx (MZ (aQ (wx iQ) (aQ (wx iQ) bQ)))) (wx (IQ kG YK T.Qs boot_int (aQ (wx (zV DK (eJ (K:=K) rfl hr.units) (wn 6) (wx (w_bin RX NX (wn 2) (wx iQ))))) bQ)))))) xX)
     (fQ (zs 8 S.nd (w_bin IX mX (wx iQ) (wx (oX C.Xd hr.m (aQ (wn 0) (aQ (wx (sQ Gj (oV rfl) T.Qg boot_min (aQ (wn 5) (aQ (wn 7) bQ)))) bQ))))))
     (fQ (WX (VE PJ rfl PySem.F.slot_list_append PySem.F.type_list_append KJ (wn 4) (aQ (wx (wv 8)) bQ)))
     (mQ (zs 5 S.nd (w_bin RY KY (wn 5) (wn 8)))))))))
     (fQ (tZ (Du (lL (cZ (wv 3)) (DC (sZ DK (eJ (K:=K) rfl hr.units) (wx (oX C.Xd hr.m (aQ (wn 0) (aQ (wx iQ) bQ)))) (wx iQ))))) (mQ (WX (BN mG rfl PySem.F.slot_list_reverse PySem.F.type_list_reverse YH (wn 4)))) xX)
     (mQ (uW (wn 4)))))))))) ?_;rintro args Qd ⟨ns,k,l,m,rfl,hk,hl,m1,m2,q⟩;refine ⟨ns,k,l,_,rfl,hk,hl,by decide,by decide,λw0 k1 l1 _ w00 w01 hk1 hl1=>?_⟩;refine ⟨ns,k1,l1,_,rfl,hk1,hl1,by decide,by decide,λth k2 l2 _ _ _ hk2 hl2=>?_⟩;refine ⟨by lia,by lia,qZ (λrest ρ=>∃(lc:Int) (fs:Qa) (k4 l4:Int),ρ=[some (.io (JX ns k4 l4)),ZA (.int m),ZA (.int (1+w0)),ZA (.bool (decide (th=3))),YA (.list (fs.map j0)),ZA (.int lc),none,none,none] /\
     (∃n:Nat,rest=KQ fs.length n/\(fs.length:Int)+n=1+w0)/\(∀c∈fs,1<=c)/\1<=lc/\CQ fs*lc<=m/\0<=k4/\0<=l4) ?_ ?_
   ⟨m,[],k2,l2,rfl,⟨(1+w0).toNat,rfl,by simp;lia⟩,λc hc=>by simp at hc,m1,by show 1*m<=m;lia,hk2,hl2⟩⟩
 .rintro d ds ρ ⟨lc,fs,k4,l4,rfl,⟨n,en,hlen⟩,hfp,hm1,hpm,hk4,hl4⟩ N hN;cases n with
  |zero=>cases en
  |succ n =>
   rw[BY]at en;cases en;have hp1:=TJ hfp;have hmc:lc<=m:=Int.le_trans (by have:=M5 hp1 (show (0:Int)<=lc by lia);lia) hpm;have pick:∃x:Int,NY [j0 120,j0 12,j0 6] (1+w0-1)=some (.int x)/\1<=x:=by
    have:w0=0\/w0=1\/w0=2:=by lia
    rcases this with rfl|rfl|rfl
    .exact ⟨120,rfl,by decide⟩
    .exact ⟨12,rfl,by decide⟩
    .exact ⟨6,rfl,by decide⟩
   obtain⟨x,hx,hx1⟩:=pick;refine ⟨_,hx,?_⟩;refine oZ (λhb=>?_) (λhb=>?_)
   .have pick2:∃y:Int,NY [j0 2,j0 120] (if decide ((fs.length:Int)=1+w0-1)=true then 1 else 0)=some (.int y)/\1<=y:=by
     split
     .exact ⟨120,rfl,by decide⟩
     .exact ⟨2,rfl,by decide⟩
    obtain⟨y,hy,hy1⟩:=pick2;refine ⟨_,hy,?_⟩;refine ⟨ns,k4,l4,_,rfl,hk4,hl4,by split<;>lia,by split<;>lia,λr6 k6 l6 _ r60 r61 hk6 hl6=>?_⟩;have hs1:1+r6<=lc:=by
     have:(if y<lc then y else lc)<=lc:=by split<;>lia
     lia
    refine ⟨by rw[q0];exact L0 (show fs.length<1000 by lia) (by decide),⟨by lia,by lia⟩,?_⟩;refine hN _ ⟨lc / (1+r6),fs++[1+r6],k6,l6,by rw[U3];rfl,⟨n,by rw[U0];rfl,by rw[U0,Z2];lia⟩,?_,t8 (by lia) (by lia),?_,hk6,hl6⟩
    .intro c hc;rcases A3.mp hc with z|z
     .exact hfp c z
     .rw[G1.mp z];lia
    .rw[gJ];show CQ fs*((1+r6)*1)*(lc / (1+r6))<=m;have h1:(1+r6)*(lc / (1+r6))<=lc:=K8 (by lia);have h2:CQ fs*((1+r6)*(lc / (1+r6)))<=CQ fs*lc:=S4 h1 (by lia);rw[v8,Z6];lia
   .obtain⟨y,ey⟩:∃y,y=x:=⟨x,rfl⟩;subst ey;refine ⟨ns,k4,l4,_,rfl,hk4,hl4,by split<;>lia,by split<;>lia,λr6 k6 l6 _ r60 r61 hk6 hl6=>?_⟩;have hs1:1+r6<=lc:=by
     have:(if y<lc then y else lc)<=lc:=by split<;>lia
     lia
    refine ⟨by rw[q0];exact L0 (show fs.length<1000 by lia) (by decide),⟨by lia,by lia⟩,?_⟩;refine hN _ ⟨lc / (1+r6),fs++[1+r6],k6,l6,by rw[U3];rfl,⟨n,by rw[U0];rfl,by rw[U0,Z2];lia⟩,?_,t8 (by lia) (by lia),?_,hk6,hl6⟩
    .intro c hc;rcases A3.mp hc with z|z
     .exact hfp c z
     .rw[G1.mp z];lia
    .rw[gJ];show CQ fs*((1+r6)*1)*(lc / (1+r6))<=m;have h1:(1+r6)*(lc / (1+r6))<=lc:=K8 (by lia);have h2:CQ fs*((1+r6)*(lc / (1+r6)))<=CQ fs*lc:=S4 h1 (by lia);rw[v8,Z6];lia
 .rintro ρ ⟨lc,fs,k4,l4,rfl,⟨n,en,hlen⟩,hfp,hm1,hpm,hk4,hl4⟩;cases n with
  |succ n=>rw[BY]at en;cases en
  |zero =>
   have hp1:=TJ hfp;have hpp:=S4 hm1 (show (0:Int)<=CQ fs by lia);have hsd:Sd fs:=⟨by lia,by lia,hfp,by lia⟩;have hsr:Sd fs.reverse:=⟨by rw[j7];lia,by rw[j7];lia,λc hc=>hfp c (V7.mp hc),by rw[gK];lia⟩;refine oZ (λhb=>?_) (λhb=>?_)
   .refine ⟨ns,k4,l4,_,rfl,hk4,hl4,by decide,by decide,λr6 k6 l6 _ r60 r61 hk6 hl6=>?_⟩;refine oZ (λhb=>?_) (λhb=>?_)
    .have e:(fs.map j0).reverse=fs.reverse.map j0:=by rw[List.map_reverse]
     refine (?_:Qd (Sl.ow (V3 (fs.map j0).reverse)) _);rw[e];exact q fs.reverse k6 l6 _ hsr (by rw[gK];lia) hk6 hl6
    .exact q fs k6 l6 _ hsd (by lia) hk6 hl6
   .exact q fs k4 l4 _ hsd (by lia) hk4 hl4
noncomputable def vX{α:Type}(acc:List (List α)):List (List α)->List (List α)
 |[]=>acc
 |c::cs=>vX (acc.flatMap λp=>c.map λx=>p++[x]) cs
noncomputable def wZ{α:Type}:List (List α)->Nat
 |[]=>1
 |c::cs=>c.length*wZ cs
theorem JW{α:Type}:∀{cs:List (List α)},(∀c∈cs,c≠[])->1<=wZ cs
 |[],_=>M0 _
 |c::cs,h=>by have h1:1<=c.length:=List.length_pos_iff.mpr (h c R0);have h2:=JW (cs:=cs) λd hd=>h d (K0 _ hd);exact Nat.mul_le_mul h1 h2
theorem LK(c:List α):∀acc:List (List α),(acc.flatMap λp=>c.map λx=>p++[x]).length=acc.length*c.length
 |[]=>by simp
 |p::acc=>by rw[G4,U0,LK c acc,q0,Y2,Nat.succ_mul,Nat.add_comm]
theorem UJ:∀(cs acc:List (List α)),(vX acc cs).length=acc.length*wZ cs
 |[],acc=>by simp[vX,wZ]
 |c::cs,acc=>by rw[vX,UJ cs,LK,wZ,P8]
noncomputable def rng(s:Int):Qa:=(K2 s.toNat).map λ(n:Nat)=>(n:Int)
def wX(s:Int):KQ 0 s.toNat=(rng s).map j0:=by simp[KQ,rng,O0,Function.comp_def]
def mZ(s:Int):(rng s).length=s.toNat:=by simp[rng]
noncomputable def nZ(sd:Qa):List Qa:=vX [[]] (sd.map rng)
theorem MK:∀{sd:Qa},(∀c∈sd,1<=c)->(wZ (sd.map rng):Int)=CQ sd
 |[],_=>rfl
 |a::r,h=>by have h1:=h a R0;have h2:=MK (sd:=r) λc hc=>h c (K0 _ hc);show ((((rng a).length*wZ (r.map rng):Nat)):Int)=a*CQ r;rw[mZ,Int.natCast_mul,h2];congr 1;lia
open L2 L3
def qX(a b:Qa):BX (a.map j0) (b.map j0)=(a.zip b).map λp=>A1 [.int p.1,.int p.2]:=by rw[BX,List.zip_map,O0];rfl
noncomputable def SQ(a b:Int):Qa:=(K2 (b+1-a).toNat).map λ(n:Nat)=>a+(n:Int)
def CY(a b:Int):KQ a (b+1-a).toNat=(SQ a b).map j0:=by simp[KQ,SQ,O0,Function.comp_def]
def LV(s:Int):SQ 0 (s-1)=rng s:=by unfold SQ rng;rw[show s-1+1-0=s by lia];simp
noncomputable def fV(low high:Qa):List Qa:=vX [[]] ((low.zip high).map λp=>SQ p.1 p.2)
theorem IJ:∀sd:Qa,((sd.map λ_=>(0:Int)).zip (sd.map λs=>s-1))=sd.map λs=>(0,s-1)
 |[]=>rfl
 |a::r=>by simp[IJ r]
theorem QZ:∀{sd:Qa},(∀c∈sd,1<=c)->∀c∈sd,c<=CQ sd
 |a::r,h,c,hc=>by
  have h1:=h a R0;have hr:∀c∈r,1<=c:=λc hc=>h c (K0 _ hc);have h2:=TJ hr;show c<=a*CQ r;rcases Y0.mp hc with rfl|hc
  .have:=S4 h2 (show (0:Int)<=c by lia);lia
  .have h3:=QZ hr c hc;have:=M5 h1 (show (0:Int)<=CQ r by lia);lia
noncomputable def qE(sd pl:Qa):Int:=(sd.zip pl).foldl (λi p=>i*p.1+p.2) 0
noncomputable def rE{α:Type}:List α->List (List α)->Prop
 |[],[]=>True
 |x::xs,c::cs=>x∈c/\rE xs cs
 |_,_=>False
theorem CH{α:Type}:∀{cs acc:List (List α)}{p:List α},p∈vX acc cs->∃a∈acc,∃q,p=a++q/\rE q cs
 |[],acc,p,h=>⟨p,h,[],by simp,trivial⟩
 |c::cs,acc,p,h=>by obtain⟨a',ha',q,rfl,hq⟩:=CH (cs:=cs) h;obtain⟨a,ha,hb⟩:=m6.mp ha';obtain⟨x,hx,rfl⟩:=J0.mp hb;exact ⟨a,ha,x::q,by simp,hx,hq⟩
def MV{α:Type}{cs:List (List α)}{p:List α}(h:p∈vX [[]] cs):rE p cs:=by obtain⟨a,ha,q,rfl,hq⟩:=CH h;simp at ha;subst ha;exact hq
def yD{x s:Int}(h:x∈rng s):0<=x/\x<s:=by unfold rng at h;obtain⟨n,hn,rfl⟩:=J0.mp h;have:=J5.mp hn;lia
noncomputable def Wi:Qa->Qa->Prop
 |[],[]=>True
 |x::xs,s::ss=>(0<=x/\x<s)/\Wi xs ss
 |_,_=>False
def sY(hm:p∈nZ sd):Wi p sd:=by
 have h:=MV hm;clear hm;induction sd generalizing p with
 |nil=>cases p with
  |nil=>trivial
  |cons _ _=>exact h.elim
 |cons s ss ih=>cases p with
  |nil=>exact h.elim
  |cons x xs=>exact ⟨yD h.1,ih h.2⟩
def iJ(hp:∀c∈sd,1<=c):((nZ sd).length:Int)=CQ sd:=by rw[nZ,UJ,<-MK hp];simp
theorem oK:∀{p sd:Qa},Wi p sd->p.length=sd.length
 |[],[],_=>rfl
 |[],_::_,h=>h.elim
 |_::_,[],h=>h.elim
 |_::_,_::_,h=>by simp[oK h.2]
theorem Zu:∀{sd pl:Qa}{i m:Int},Wi pl sd->0<=i->i<m->0<=(sd.zip pl).foldl (λi p=>i*p.1+p.2) i/\(sd.zip pl).foldl (λi p=>i*p.1+p.2) i<m*CQ sd
 |[],[],i,m,_,h0,h1=>by simp[CQ];lia
 |[],_::_,_,_,h,_,_=>h.elim
 |_::_,[],_,_,h,_,_=>h.elim
 |s::ss,x::xs,i,m,h,h0,h1=>by
  have hx:=h.1;have hs:0<=s:=by lia
  have e1:0<=i*s:=Int.mul_nonneg h0 hs;have e2:i*s<=(m-1)*s:=M5 (by lia) hs;rw[Int.sub_mul,K7]at e2;have:=Zu (sd:=ss) (pl:=xs) (i:=i*s+x) (m:=m*s) h.2 (by lia) (by lia);rw[Z6]at this;exact this
def sE{s:Int}{j:Nat}{x:Int}(h:(rng s)[j]?=some x):x=j/\(j:Int)<s:=by unfold rng at h;rw[Q0,G3]at h;obtain⟨n,hn,rfl⟩:=h;rw[S0]at hn;obtain⟨h1,h2⟩:=hn;simp at h1 h2;lia
theorem zD{s:Int}(hs:1<=s):∀{acc:List Qa}{j':Nat}{a':Qa},(acc.flatMap λp=>(rng s).map λx=>p++[x])[j']?=some a' -> ∃(j:Nat) (a:Qa) (x:Int),acc[j]?=some a/\a'=a++[x]/\(0<=x/\x<s)/\(j':Int)=j*s+x
 |[],j',a',h=>by simp at h
 |a::acc,j',a',h=>by
  rw[G4]at h;rcases g6 j' ((rng s).map λx=>a++[x]).length with g|g
  .rw[J2 g,Q0,G3]at h;obtain⟨x,hx,rfl⟩:=h;obtain⟨rfl,h2⟩:=sE hx;exact ⟨0,a,_,rfl,rfl,⟨by lia,h2⟩,by simp⟩
  .rw[P1 g]at h;obtain⟨j,b,x,h1,h2,h3,h4⟩:=zD hs h;rw[q0,mZ]at g h4;refine ⟨j+1,b,x,h1,h2,h3,?_⟩;rw[show ((j+1:Nat):Int)=(j:Int)+1 by lia,Int.add_mul,K7];lia
theorem BD:∀{sd:Qa}{acc:List Qa}{k:Nat}{p:Qa},(∀c∈sd,1<=c)->(vX acc (sd.map rng))[k]?=some p -> ∃(j:Nat) (a q:Qa),acc[j]?=some a/\p=a++q/\Wi q sd/\(sd.zip q).foldl (λi p=>i*p.1+p.2) (j:Int)=k
 |[],acc,k,p,_,h=>⟨k,p,[],h,by simp,trivial,rfl⟩
 |s::ss,acc,k,p,hp,h=>by obtain⟨j',a',q',h1,h2,h3,h4⟩:=BD (sd:=ss) (λc hc=>hp c (K0 _ hc)) h;obtain⟨j,a,x,g1,g2,g3,g4⟩:=zD (hp s R0) h1;refine ⟨j,a,x::q',g1,by rw[h2,g2];simp,⟨g3,h3⟩,?_⟩;rw[g4]at h4;exact h4
def gF(hp:∀c∈sd,1<=c){k:Nat}{p:Qa}(h:(nZ sd)[k]?=some p):Wi p sd/\qE sd p=k:=by
 obtain⟨j,a,q,h1,h2,h3,h4⟩:=BD hp h;have hj:j=0:=by
  rcases j with _|j
  .rfl
  .simp at h1
 subst hj;simp at h1;subst h1;simp at h2;subst h2;exact ⟨h3,h4⟩
def NK{xs:Qa}{i:Nat}(h:i<xs.length):NY (xs.map j0) (i:Int)=some (.int (xs.getD i 0)):=by refine ZV ?_;rw[Q0,A0 h,G0,A0 h];rfl
def tE{i:Nat}(h:i<n):dq n (i:Int)=some i:=by unfold dq;simp;lia
noncomputable def IT:Nat->PyData->Prop
 |0,d=>∃i,d=.int i
 |n+1,d=>(∃i,d=.int i)\/∃l,(d=.list l\/d=.tuple l)/\l.length<=20000/\∀x∈l,IT n x
def uE(n:Nat)(i:Int):IT n (.int i):=by
 cases n
 .exact ⟨i,rfl⟩
 .exact .inl ⟨i,rfl⟩
def zl(l:List PyData)(h:l.length<=20000):(BX l l).length<=sizeLine:=by unfold BX;rw[q0,P2,Z8];exact Z1 h (by decide)
def zm{l:List PyData}{x:PyData}(h:x∈BX l l):∃a∈l,x=.tuple [a,a]:=by unfold BX at h;obtain⟨p,hp,rfl⟩:=J0.mp h;obtain⟨i,hi,e⟩:=K3 hp;rw[X4]at e;subst e;rw[P2,Z8]at hi;exact ⟨l[i],N2 _,rfl⟩
def zr(l:List PyData):(BX l l).map (λ_=>K4 true)=L1 l.length (.bool true):=by unfold BX;rw[O0,List.eq_replicate_iff];refine ⟨by rw[q0,P2,Z8],λb hb=>?_⟩;obtain⟨p,_,rfl⟩:=J0.mp hb;rfl
noncomputable def NV:Nat->Con
 |0=>λ_ _=>False
 |n+1=>λargs Q=>∃d,args=[.fz d,.fz d]/\IT n d/\∀o,Q (.fz (.bool true)) o
structure CalsSm(n k:Nat)(P:Program)(w:World)(K:B0)(mg:Str->Option Value)(base:Heap):Prop where
 Xe:Cal P w K mg base k "_law_same" ["_law_found","_law_due"] (dQ K (NV n))
def KW{k:Nat}{f:Addr}(F:ZS K "_law_same" (top 34) f fd)(T:Txt mg)(C:CalsSm n k P w K mg base):FnOk P w K mg base DX (k+1) f fd ["_law_found","_law_due"] (dQ K (NV (n+1))):=by
 have S:FnScope ["_law_found","_law_due"] ["_law_found","_law_due"] (cQ (top 34)):={};refine nJ F S (λcdv A outer s H E hr=>(fQ (tZ (cZ (lD rfl T.Qn T.Qr T.Qo (wn 1))) (fQ (tZ (Du (tG (yZ (cZ (lD rfl T.Qn T.Qr T.Qo (wn 0)))) (sW (sZ fH (pW (K:=K) rfl hr.units) (wx (iH .lst rfl T.Qn T.Qr boot_list (wn 0))) (wx (iH .lst rfl T.Qn T.Qr boot_list (wn 1))))))) (mQ (BQ kU)) xX)
     (mQ (BQ (WF (zV DK (eJ (K:=K) rfl hr.units) (wx (sQ AX (HQ (K:=K) rfl) T.Qc PySem.boot_len (aQ (wn 0) bQ))) (wx (sQ AX (HQ (K:=K) rfl) T.Qc PySem.boot_len (aQ (wn 1) bQ)))) (Tj (sQ gU (LJ (K:=K) rfl rfl) T.Qm boot_all (aQ (wx (dX rfl (own:=["_law_one","_law_other"]) (fr:=[]) (by kernel_rfl) (pY rfl T.QP (aQ (wn 0) (aQ (wn 1) bQ))) (λ_ _ _ _=>(AZ rfl rfl (yQ (nQ (i:=0) (by decide +kernel:V1 (["_law_one","_law_other"]:List Str)) rfl (Or.inl rfl)) (yQ (nQ (i:=1) (by decide +kernel:V1 (["_law_one","_law_other"]:List Str)) rfl (Or.inl rfl)) SX)))) (λ_ _ _ _=>tW) (λ_ _ _ _=>(QQ C.Xe hr.m (aQ (wn 0) (aQ (wn 1) bQ)))))) bQ))))))) xX)
     (mQ (BQ (WF (iH .int rfl T.Qn T.Qs boot_int (wn 0)) (WF (w_not (iH .bl rfl T.Qn T.Qt boot_bool (wn 0))) (Tj (zV DK (eJ (K:=K) rfl hr.units) (wn 0) (wn 1))))))))) ?_;rintro args Qd ⟨d,rfl,hd,q⟩;have key:(∃i,d=.int i)\/∃m l,n=m+1/\(d=.list l\/d=.tuple l)/\l.length<=20000/\∀x∈l,IT m x:=by
  cases n with
  |zero=>exact .inl hd
  |succ m =>
   rcases hd with h|⟨l,h1,h2,h3⟩
   .exact .inl h
   .exact .inr ⟨m,l,rfl,h1,h2,h3⟩
 rcases key with⟨i,rfl⟩|⟨m,l,rfl,hd|hd,hl,hi⟩
 .refine (?_:Qd (.fz (.bool (decide (i=i)))) _);rw[decide_eq_true (rfl:i=i)];exact q _
 .subst hd;have nb:=Nice.bool 0 true;refine ⟨nb.p,nb.p,nb.sh (by decide),nb.sh (by decide),uZ _ nb.p,oZ (λh=>?_) (λh=>?_)⟩
  .have h:(!same (.bool true) (.bool true))=true:=h;rw[same_self]at h;cases h
  refine oZ (λh=>?_) (λh=>?_)
  .refine ⟨zl l hl,rZ (λ_=>.bool true) ?_ ?_⟩
   .intro x hx R hR;obtain⟨a,ha,rfl⟩:=zm hx;exact ⟨rfl,a,rfl,hi a ha,λo=>hR⟩
   .refine ⟨L1 l.length true,?_,?_⟩
    .rw[X8];exact zr l
    .have e:(L1 l.length true).all id=true:=by simp
     refine (?_:Qd (.fz (.bool ((L1 l.length true).all id))) _);rw[e];exact q _
  .exact absurd (decide_eq_true rfl) h
 .subst hd;have nb:=Nice.bool 0 false;refine ⟨nb.p,nb.p,nb.sh (by decide),nb.sh (by decide),uZ _ nb.p,oZ (λh=>?_) (λh=>?_)⟩
  .have h:(!same (.bool false) (.bool false))=true:=h;rw[same_self]at h;cases h
  refine oZ (λh=>?_) (λh=>?_)
  .refine ⟨zl l hl,rZ (λ_=>.bool true) ?_ ?_⟩
   .intro x hx R hR;obtain⟨a,ha,rfl⟩:=zm hx;exact ⟨rfl,a,rfl,hi a ha,λo=>hR⟩
   .refine ⟨L1 l.length true,?_,?_⟩
    .rw[X8];exact zr l
    .have e:(L1 l.length true).all id=true:=by simp
     refine (?_:Qd (.fz (.bool ((L1 l.length true).all id))) _);rw[e];exact q _
  .exact absurd (decide_eq_true rfl) h
noncomputable def OK(acc:List Qa)(c:Qa):List Qa:=c.flatMap λx=>acc.map λp=>p++[x]
noncomputable def iF(acc:List Qa):List Qa->List Qa
 |[]=>acc
 |c::cs=>iF (OK acc c) cs
theorem DH(g:α->β)(h:α->List β):∀c:List α,(c.map g++c.flatMap h).Perm (c.flatMap λx=>g x::h x)
 |[]=>List.Perm.refl _
 |x::c=>by rw[E1,G4,G4,Q4,Q4];refine List.Perm.cons _ ?_;rw[<-S2];refine (T6.append_right _).trans ?_;rw[S2];exact (DH g h c).append_left _
theorem OV{γ:Type}(f:α->β->γ)(c:List β):∀acc:List α,(c.flatMap λx=>acc.map λp=>f p x).Perm (acc.flatMap λp=>c.map λx=>f p x)
 |[]=>by simp
 |a::acc=>by rw[G4];exact (DH (f a) (λx=>acc.map λp=>f p x) c).symm.trans ((OV f c acc).append_left _)
theorem tY:∀{cs acc acc':List Qa},acc.Perm acc'->(iF acc cs).Perm (vX acc' cs)
 |[],_,_,h=>h
 |c::cs,acc,acc',h=>tY (cs:=cs) ((OV (λp x=>p++[x]) c acc).trans (h.flatMap_right _))
theorem ED:∀{a b:Qa} (x y:Int),a.length=b.length->HT.lexLt a b=true->HT.lexLt (a++[x]) (b++[y])=true
 |[],[],x,y,_,h=>by cases h
 |[],_::_,x,y,e,_=>by simp at e
 |_::_,[],x,y,e,_=>by simp at e
 |u::a,v::b,x,y,e,h=>by
  rw[Q4,Q4,HT.lexLt_cons];rw[HT.lexLt_cons]at h;by_cases q:u=v
  .rw[if_pos q]at h ⊢;exact ED x y (by simpa using e) h
  .rw[if_neg q]at h ⊢;exact h
theorem FD:∀(a:Qa) {x y:Int},x<y->HT.lexLt (a++[x]) (a++[y])=true
 |[],x,y,h=>by show HT.lexLt [x] [y]=true;rw[HT.lexLt_cons,if_neg (by lia)];exact decide_eq_true h
 |u::a,x,y,h=>by rw[Q4,Q4,HT.lexLt_cons,if_pos rfl];exact FD a h
theorem PK:∀{cs acc:List Qa}{n:Nat},acc.Pairwise (λa b=>HT.lexLt a b=true)->(∀p∈acc,p.length=n)->(∀c∈cs,c.Pairwise (· < ·))->(vX acc cs).Pairwise (λa b=>HT.lexLt a b=true)
 |[],_,_,h,_,_=>h
 |c::cs,acc,n,h,hn,hc=>by
  refine PK (cs:=cs) (n:=n+1) ?_ ?_ λd hd=>hc d (K0 _ hd)
  .rw[List.pairwise_flatMap];refine ⟨λp hp=>?_,?_⟩
   .rw[x5];exact (hc c R0).imp λh=>FD p h
   .refine List.Pairwise.imp_of_mem (λ{a b} ha hb h=>?_) h;intro x hx y hy;obtain⟨u,_,rfl⟩:=J0.mp hx;obtain⟨v,_,rfl⟩:=J0.mp hy;exact ED u v (by rw[hn a ha,hn b hb]) h
  .intro p hp;obtain⟨q,hq,hx⟩:=m6.mp hp;obtain⟨x,_,rfl⟩:=J0.mp hx;rw[U0,hn q hq];rfl
def Ry(a b:Int):(SQ a b).Pairwise (· < ·):=by unfold SQ;rw[x5];exact List.pairwise_lt_range.imp λh=>by lia
def jF(lo hi:Qa):(fV lo hi).Pairwise (λa b=>HT.lexLt b a=false):=by
 have h:=PK (cs:=(lo.zip hi).map λp=>SQ p.1 p.2) (acc:=[[]]) (n:=0) (E6 _ _) (by simp) λc hc=>by obtain⟨p,_,rfl⟩:=J0.mp hc;exact Ry _ _
 refine List.Pairwise.imp (λ{a b} h=>?_) h;cases e:HT.lexLt b a
 .rfl
 .have:=SG.lex_wk.tr a b a h e;rw[SG.lex_wk.irr]at this;cases this
def LW(cs acc:List Qa):(iF acc cs).length=acc.length*wZ cs:=by rw[<-UJ];exact (tY (List.Perm.refl acc)).length_eq
def xk(a b:Int):(SQ a b).length=(b+1-a).toNat:=by simp[SQ]
noncomputable def yk(x:Int):PyData->PyData
 | .tuple l=>.tuple (l++[.int x])
 |_=>.none
def tz(p:Qa):noMut (tupD p)=true:=by show noMutAll (p.map j0)=true;exact LQ p
theorem HZ:∀ps:List Qa,noMutAll (ps.map tupD)=true
 |[]=>rfl
 |p::ps=>by show (noMut (tupD p)&&noMutAll (ps.map tupD))=true;rw[tz,HZ ps];rfl
noncomputable abbrev VN(p:Int×Int):PyData:=.tuple [.int p.1,.int p.2]
def vE:Con:=λargs Q=>∃(A B:PyData) (lo hi:Qa),args=[.fz A,.fz B]/\kY A=some (lo.map j0)/\kY B=some (hi.map j0)/\lo.length=hi.length/\lo.length<=3/\1<=lo.length/\(∀p∈lo.zip hi,0<=p.1/\p.1<=p.2/\p.2<=1000)/\wZ ((lo.zip hi).map λp=>SQ p.1 p.2)<=1000/\∀o,Q (.ow (.list ((fV lo hi).map tupD))) o
def wE{f:Addr}(F:ZS K "_law_places" (top 37) f fd)(T:Txt mg):FnOk P w K mg base DX 1 f fd ["_law_low","_law_high"] (dQ K vE):=by
 have S:FnScope ["_law_low","_law_high","_law_found","_law_first","_law_last","_law_longer","_law_one"] ["_law_low","_law_high"] (cQ (top 37)):={};refine nJ F S (λcdv A outer s H E hr=>(fQ (zs 2 S.nd (MZ (aQ (wx (xZ bQ)) bQ)))
     (fQ (BZ [3,4,5,6] PassesOwn.never rfl (pY rfl T.QP (aQ (wn 0) (aQ (wn 1) bQ))) (AZ rfl rfl (yQ (nQ (i:=3) S.nd rfl (Or.inl rfl)) (yQ (nQ (i:=4) S.nd rfl (Or.inl rfl)) SX))) (fQ (zs 5 S.nd (MZ bQ))
     (fQ (BZ [6] PassesOwn.never rfl (EC T.QA (aQ (wn 3) (aQ (wx (w_bin IX mX (wn 4) (wx iQ))) bQ))) (nQ (i:=6) S.nd rfl (Or.inr rfl)) (mQ (WX (VE Dq rfl PySem.F.slot_list_extend PySem.F.type_list_extend gq (wn 5) (aQ (wx (gy rfl rfl (own:=["_law_place"]) (fr:=[6]) (by kernel_rfl) (wn 2) (λ_ _ _ _=>(nQ (i:=0) (by decide +kernel:V1 (["_law_place","_law_one"]:List Str)) rfl (Or.inl rfl))) (λ_ _ _ _=>tW) (λ_ _ _ _=>(w_bin IX mX (wn 0) (wx (xZ (aQ (wx (wv 1)) bQ))))))) bQ)))))
     (mQ (uG (i:=2) S.nd rfl (Or.inl rfl) (wn 5))))))
     (mQ (BQ (sQ Ax (uH rfl) T.QR boot_sorted (aQ (wn 2) bQ))))))) ?_;rintro args Qd ⟨A,B,lo,hi,rfl,hA,hB,hle,h3,h1,hin,hm,q⟩;refine rX (λρ=>ρ=[ZA A,ZA B,YA (.list [.tuple []]),none,none,none,none]) (λN hN=>hN _ rfl) ?_;rintro ρ rfl;refine Ey rfl rfl hA hB ?_;show fZ _ _ _ _ (BX (lo.map j0) (hi.map j0)) _;rw[qX];refine qZ (λrest ρ=>∃(acc:List Qa) (rs:List (Int×Int)),ρ=[ZA A,ZA B,YA (.list (acc.map tupD)),none,none,none,none]/\rest=rs.map VN/\(∀p∈rs,0<=p.1/\p.1<=p.2/\p.2<=1000) /\
     iF acc (rs.map λp=>SQ p.1 p.2)=iF [[]] ((lo.zip hi).map λp=>SQ p.1 p.2)/\(∀p∈acc,p.length+rs.length=lo.length)) ?_ ?_
  ⟨[[]],lo.zip hi,rfl,rfl,hin,rfl,λp hp=>by simp at hp;subst hp;simp[hle]⟩
 .rintro d ds ρ ⟨acc,rs,rfl,er,hr1,hacc,hl3⟩ N hN;cases rs with
  |nil=>cases er
  |cons a rs =>
   cases er;have ha1:=hr1 a R0;have hr2:∀c∈rs,0<=c.1/\c.1<=c.2/\c.2<=1000:=λc hc=>hr1 c (K0 _ hc);have hlp:=JW (cs:=rs.map λp=>SQ p.1 p.2) λc hc=>by obtain⟨x,hx,rfl⟩:=J0.mp hc;intro z;have:=congrArg J3 z;rw[xk]at this;have:=hr2 x hx;simp at *;lia
   have htot:(OK acc (SQ a.1 a.2)).length<=1000:=by have h1:=LW (rs.map λp=>SQ p.1 p.2) (OK acc (SQ a.1 a.2));have h2:iF (OK acc (SQ a.1 a.2)) (rs.map λp=>SQ p.1 p.2)=_:=hacc;rw[h2,LW,Z2,Nat.one_mul]at h1;have:(OK acc (SQ a.1 a.2)).length<=(OK acc (SQ a.1 a.2)).length*wZ (rs.map λp=>SQ p.1 p.2):=b8 _ hlp;lia
   refine ⟨rfl,?_⟩;refine ⟨⟨by lia,by lia,by lia,by lia⟩,?_⟩;show fZ _ _ _ _ (KQ a.1 (a.2+1-a.1).toNat) _;rw[CY];refine qZ (λrest ρ=>∃(lg:List Qa) (rc:Qa),ρ=[ZA A,ZA B,YA (.list (acc.map tupD)),ZA (.int a.1),ZA (.int a.2),YA (.list (lg.map tupD)),none]/\rest=rc.map j0/\lg++OK acc rc=OK acc (SQ a.1 a.2)) ?_ ?_
    ⟨[],SQ a.1 a.2,rfl,rfl,rfl⟩
   .rintro d ds ρ ⟨lg,rc,rfl,er,he⟩ M hM;cases rc with
    |nil=>cases er
    |cons x rc =>
     cases er;have hl5:lg.length+acc.length<=1000:=by
      have:=congrArg J3 he;have e2:OK acc (x::rc)=(acc.map λp=>p++[x])++OK acc rc:=by unfold OK;rw[G4]
      rw[e2,U0,U0,q0]at this;lia
     have ez:(acc.map tupD).map (yk x)=(acc.map λp=>p++[x]).map tupD:=by rw[O0,O0];exact M3 λp _=>by simp[yk,tupD]
     refine ⟨rfl,by rw[q0];exact zQ (by lia),rZ (yk x) ?_ ?_⟩
     .intro d hd R hR;obtain⟨p,hp,rfl⟩:=J0.mp hd;have:=hl3 p hp;exact ⟨by simp only[q0,Z2];exact zQ (by simp at this;lia),hR⟩
     .rw[ez];refine ⟨HZ _,by rw[q0,q0,q0];exact zQ (by lia),?_⟩;refine hM _ ⟨lg++acc.map λp=>p++[x],rc,by rw[U3];rfl,rfl,?_⟩;rw[<-he,S2];congr 1
   .rintro ρ ⟨lg,rc,rfl,er,he⟩;cases rc with
    |cons p rp=>cases er
    |nil =>
     have he:lg=OK acc (SQ a.1 a.2):=by simpa [OK]using he
     refine hN _ ⟨OK acc (SQ a.1 a.2),rs,?_,rfl,hr2,hacc,λp hp=>?_⟩
     .rw[he];rfl
     .obtain⟨x,_,hx⟩:=m6.mp hp;obtain⟨p',hp',rfl⟩:=J0.mp hx;have:=hl3 p' hp';simp at this ⊢;lia
 .rintro ρ ⟨acc,rs,rfl,er,hr1,hacc,hl3⟩;cases rs with
  |cons a rs=>cases er
  |nil =>
   have hacc:acc=iF [[]] ((lo.zip hi).map λp=>SQ p.1 p.2):=hacc;have pm:acc.Perm (fV lo hi):=by rw[hacc];exact tY (List.Perm.refl _)
   refine ⟨acc,rfl,?_,λr hr=>?_,λrows r1 r2=>?_⟩
   .rw[hacc,LW,Z2,Nat.one_mul];exact Z1 hm (by decide)
   .intro z;have:=hl3 r hr;subst z;simp at this;lia
   .rw[SG.sorted_uniq (λa b=>SG.lex_eq) (r1.trans pm) r2 (jF lo hi)];exact q _
abbrev zk:Con:=NV 0
abbrev Ak:Con:=NV 1
abbrev Bk:Con:=NV 2
abbrev yU:Con:=NV 3
def Ck{f:Addr}(F:ZS K "_law_same" (top 34) f fd):FnOk P w K mg base DX 1 f fd ["_law_found","_law_due"] (dQ K zk):=⟨λ_ _ _ _ ⟨_,_,_,_,_,h,_⟩=>h.elim,λ_ _ _ _ _ _ _ _ _ _ _ _ _ ⟨_,_,_,_,_,h,_⟩=>h.elim⟩
variable (P w K mg base) in
structure CalsSa:Prop where
 Xe:Cal P w K mg base 1 "_law_same" ["_law_found","_law_due"] (dQ K zk)
def Dk{f:Addr}(F:ZS K "_law_same" (top 34) f fd)(T:Txt mg)(C:CalsSa P w K mg base):FnOk P w K mg base DX 2 f fd ["_law_found","_law_due"] (dQ K Ak):=KW F T ⟨C.Xe⟩
variable (P w K mg base) in
structure CalsSb:Prop where
 Xe:Cal P w K mg base 2 "_law_same" ["_law_found","_law_due"] (dQ K Ak)
def Ek{f:Addr}(F:ZS K "_law_same" (top 34) f fd)(T:Txt mg)(C:CalsSb P w K mg base):FnOk P w K mg base DX 3 f fd ["_law_found","_law_due"] (dQ K Bk):=KW F T ⟨C.Xe⟩
variable (P w K mg base) in
structure CalsSc:Prop where
 Xe:Cal P w K mg base 3 "_law_same" ["_law_found","_law_due"] (dQ K Bk)
def Fk{f:Addr}(F:ZS K "_law_same" (top 34) f fd)(T:Txt mg)(C:CalsSc P w K mg base):FnOk P w K mg base DX 4 f fd ["_law_found","_law_due"] (dQ K yU):=KW F T ⟨C.Xe⟩
variable (P w K mg base) in
structure CalsSd:Prop where
 Xe:Cal P w K mg base 4 "_law_same" ["_law_found","_law_due"] (dQ K yU)
variable (P w K mg base) in
structure CalsAl:Prop where
 Xf:Cal P w K mg base 1 "_law_places" ["_law_low","_law_high"] (dQ K vE)
def GD:Con:=λargs Q=>∃(A:PyData) (sd:Qa),args=[.fz A]/\(A=.list (sd.map j0)\/A=tupD sd)/\Sd sd/\∀o,Q (.ow (.list ((nZ sd).map tupD))) o
def Ty{f:Addr}(F:ZS K "_law_all" (top 38) f fd)(T:Txt mg)(C:CalsAl P w K mg base):FnOk P w K mg base DX 2 f fd ["_law_sides_here"] (dQ K GD):=by
 have S:FnScope ["_law_sides_here"] ["_law_sides_here"] (cQ (top 38)):={};refine DN F S (λcdv A outer s H E hr=>(mQ (BQ (QQ C.Xf hr.m (aQ (wx (dX rfl (own:=["_law_side"]) (fr:=[]) (by kernel_rfl) (LX rfl (wv 0)) (λ_ _ _ _=>(nQ (i:=0) (by decide +kernel:V1 (["_law_side"]:List Str)) rfl (Or.inl rfl))) (λ_ _ _ _=>tW) (λ_ _ _ _=>iQ))) (aQ (wx (dX rfl (own:=["_law_side"]) (fr:=[]) (by kernel_rfl) (LX rfl (wv 0)) (λ_ _ _ _=>(nQ (i:=0) (by decide +kernel:V1 (["_law_side"]:List Str)) rfl (Or.inl rfl))) (λ_ _ _ _=>tW) (λ_ _ _ _=>(w_bin RX NX (wn 0) (wx iQ))))) bQ)))))) ?_ ?_
 .rintro args Qd ⟨A,sd,rfl,_⟩;rfl
 .rintro args Qd ⟨A,sd,rfl,hA,hsd,q⟩;have h3:=hsd.l3;have h1:=hsd.l1;have hks:(sd.map j0).length=sd.length:=q0 ..;rcases hA with rfl|rfl;all_goals
   refine ⟨RJ rfl,?_⟩;refine ⟨by rw[hks];exact zQ (by lia),rZ (λ_=>.int 0) (λd hd R hR=>hR) ?_⟩;refine ⟨by rw[hks];exact zQ (by lia),rZ (λd=>match d with | .int i=>.int (i-1)|_=>.none) ?_ ?_⟩
   .intro d hd R hR;obtain⟨i,_,rfl⟩:=J0.mp hd;exact hR
   have e:((sd.map λ_=>(0:Int)).zip (sd.map λs=>s-1)).map (λp=>SQ p.1 p.2)=sd.map rng:=by rw[IJ,O0];exact M3 λs _=>LV s
   refine ⟨_,_,sd.map λ_=>0,sd.map λs=>s-1,rfl,?_,?_,by simp,by simpa using h3,by simpa using h1,λp hp=>?_,?_,λo3=>?_⟩
   .simp only[O0];rfl
   .simp only[O0];rfl
   .rw[IJ]at hp;obtain⟨s,hs,rfl⟩:=J0.mp hp;have h1:=hsd.p s hs;have h2:=QZ hsd.p s hs;have:=hsd.m;exact ⟨by show (0:Int)<=0;decide,by show (0:Int)<=s-1;lia,by show s-1<=1000;lia⟩
   .rw[e];have h1:=MK hsd.p;have:=hsd.m;lia
   .unfold fV;rw[e];exact q _
def uz(hp:∀c∈sd,1<=c):(nZ sd).Nodup:=by rw[F7,Q3];intro i j hi hj hij e;have h1:=gF hp (k:=i) (p:=(nZ sd)[i]) (by simp[hi]);have h2:=gF hp (k:=j) (p:=(nZ sd)[j]) (by simp[hj]);rw[e]at h1;have:=h1.2.symm.trans h2.2;lia
theorem MW{α:Type}:∀{cs acc:List (List α)}{a q:List α},a∈acc->rE q cs->a++q∈vX acc cs
 |[],acc,a,[],ha,_=>by simpa [vX]using ha
 |[],_,_,_::_,_,h=>h.elim
 |_::_,_,_,[],_,h=>h.elim
 |c::cs,acc,a,x::q,ha,h=>by have:=MW (cs:=cs) (acc:=acc.flatMap λp=>c.map λx=>p++[x]) (a:=a++[x]) (q:=q) (m6.mpr ⟨a,ha,J0.mpr ⟨x,h.1,rfl⟩⟩) h.2;simpa [vX]using this
def zU{x s:Int}(h0:0<=x)(h1:x<s):x∈rng s:=J0.mpr ⟨x.toNat,J5.mpr (by lia),by lia⟩
theorem Gk:∀{p sd:Qa},Wi p sd->rE p (sd.map rng)
 |[],[],_=>trivial
 |[],_::_,h=>h.elim
 |_::_,[],h=>h.elim
 |x::p,s::sd,h=>⟨zU h.1.1 h.1.2,Gk h.2⟩
def kF(h:Wi p sd):p∈nZ sd:=MW (a:=[]) (by simp) (Gk h)
noncomputable abbrev lJ(sd cl:Qa):PyData:=.tuple [tupD sd,tupD cl]
noncomputable def iK(sd cl p:Qa):Int:=cl.getD (qE sd p).toNat 0
def HD:Con:=λargs Q=>∃(ns:Qa) (k l:Int),args=[.io (JX ns k l)]/\0<=k/\0<=l/\∀(r k' l':Int) (o:Ev),0<=k'->0<=l'->Q (.fz (.int r)) (some (.io (JX ns k' l'))::o)
def vz{f:Addr}(F:ZS K "_law_number" (top 35) f fd)(T:Txt mg)(C:CalsB P w K mg base):FnOk P w K mg base DX 2 f fd ["_law_pen_here"] (dQ K HD):=by
 have S:FnScope ["_law_pen_here","_law_way"] ["_law_pen_here"] (cQ (top 35)):={};refine nJ F S (λcdv A outer s H E hr=>(fQ (zs 1 S.nd (oX C.Xd hr.m (aQ (wn 0) (aQ (wx iQ) bQ))))
     (fQ (tZ (sZ DK (eJ (K:=K) rfl hr.units) (wn 1) (wx iQ)) (mQ (BQ (w_bin bJ kZ (wx (w_bin RX NX (wx (w_bin RX NX (wx (w_bin sG UH (wx iQ) (wx iQ))) (wx iQ))) (wx (oX C.Xd hr.m (aQ (wn 0) (aQ (wx iQ) bQ)))))) (wx (w_bin RX NX (wx iQ) (wx (w_bin bJ kZ (wx iQ) (wx (oX C.Xd hr.m (aQ (wn 0) (aQ (wx iQ) bQ))))))))))) xX)
     (fQ (tZ (sZ SF tF (wn 1) (wx iQ)) (mQ (BQ (w_bin RX NX (wx (oX C.Xd hr.m (aQ (wn 0) (aQ (wx iQ) bQ)))) (wx iQ)))) xX)
     (mQ (BQ (w_bin RX NX (wx (oX C.Xd hr.m (aQ (wn 0) (aQ (wx iQ) bQ)))) (wx iQ)))))))) ?_;rintro args Qd ⟨ns,k,l,rfl,hk,hl,q⟩;refine ⟨ns,k,l,_,rfl,hk,hl,by decide,by decide,λr k1 l1 _ r0 r1 hk1 hl1=>?_⟩;refine oZ (λh=>?_) (λh=>?_)
 .refine ⟨⟨by decide,by decide,by decide⟩,?_⟩;refine ⟨ns,k1,l1,_,rfl,hk1,hl1,by decide,by decide,λa k2 l2 _ a0 a1 hk2 hl2=>?_⟩;refine ⟨ns,k2,l2,_,rfl,hk2,hl2,by decide,by decide,λb k3 l3 _ b0 b1 hk3 hl3=>?_⟩;refine ⟨.inl ⟨by decide,by decide⟩,.inr ⟨by lia,by lia⟩,?_⟩;exact q _ _ _ _ hk3 hl3
 refine oZ (λh=>?_) (λh=>?_)
 .refine ⟨ns,k1,l1,_,rfl,hk1,hl1,by decide,by decide,λa k2 l2 _ a0 a1 hk2 hl2=>?_⟩;exact q _ _ _ _ hk2 hl2
 .refine ⟨ns,k1,l1,_,rfl,hk1,hl1,by decide,by decide,λa k2 l2 _ a0 a1 hk2 hl2=>?_⟩;exact q _ _ _ _ hk2 hl2
variable (P w K mg base) in
structure CalsFd:Prop where
 Xg:Cal P w K mg base 2 "_law_sides" ["_law_pen_here","_law_most"] (dQ K uk)
 Xh:Cal P w K mg base 2 "_law_number" ["_law_pen_here"] (dQ K HD)
 Xi:Cal P w K mg base 2 "_law_all" ["_law_sides_here"] (dQ K GD)
def Hk:Con:=λargs Q=>∃(ns:Qa) (k l m:Int),args=[.io (JX ns k l),.fz (.int m)]/\0<=k/\0<=l/\1<=m/\m<=120 /\
 ∀(sd cl:Qa) (k' l':Int) (o:Ev),Sd sd->cl.length=(nZ sd).length->0<=k'->0<=l'->Q (.fz (lJ sd cl)) (some (.io (JX ns k' l'))::o)
def Ik{f:Addr}(F:ZS K "_law_field" (top 39) f fd)(T:Txt mg)(C:CalsFd P w K mg base):FnOk P w K mg base DX 3 f fd ["_law_pen_here","_law_most"] (dQ K Hk):=by
 have S:FnScope ["_law_pen_here","_law_most","_law_sides_here"] ["_law_pen_here","_law_most"] (cQ (top 39)):={};refine nJ F S (λcdv A outer s H E hr=>(fQ (zs 2 S.nd (oX C.Xg hr.m (aQ (wn 0) (aQ (wn 1) bQ))))
     (mQ (BQ (xZ (aQ (wx (IQ GQ (qQ (K:=K) rfl) T.Qo boot_tuple (aQ (wn 2) bQ))) (aQ (wx (IQ GQ (qQ (K:=K) rfl) T.Qo boot_tuple (aQ (wx (dX rfl (own:=["_law_place"]) (fr:=[0]) (by kernel_rfl) (LX rfl (wL C.Xi hr.m (aQ (wn 2) bQ))) (λ_ _ _ _=>(nQ (i:=0) (by decide +kernel:V1 (["_law_place","_law_pen_here"]:List Str)) rfl (Or.inl rfl))) (λ_ _ _ _=>tW) (λ_ _ _ _=>(oX C.Xh hr.m (aQ (wn 1) bQ))))) bQ))) bQ))))))) ?_;rintro args Qd ⟨ns,k,l,m,rfl,hk,hl,m1,m2,q⟩;refine ⟨ns,k,l,m,rfl,hk,hl,m1,m2,λsd k1 l1 _ hsd _ hk1 hl1=>?_⟩;have hm:=hsd.m;have hpl:=iJ hsd.p;refine ⟨_,sd,rfl,.inl rfl,hsd,λ_=>⟨HZ _,?_⟩⟩;refine ⟨by rw[q0];exact zQ (by lia),Cu (λrest acc τ=>∃(cs:Qa) (k4 l4:Int),τ=[none,some (.io (JX ns k4 l4))]/\acc=cs.map j0/\cs.length+rest.length=(nZ sd).length/\0<=k4/\0<=l4) ?_ ?_
   ⟨[],k1,l1,rfl,rfl,by simp,hk1,hl1⟩⟩
 .rintro d ds acc τ ⟨cs,k4,l4,rfl,rfl,hlen,hk4,hl4⟩ N hN;refine ⟨ns,k4,l4,rfl,hk4,hl4,λx k5 l5 _ hk5 hl5=>?_⟩;exact hN _ _ ⟨cs++[x],k5,l5,rfl,by simp[Sl.d],by simp at hlen ⊢;lia,hk5,hl5⟩
 .rintro acc τ ⟨cs,k4,l4,rfl,rfl,hlen,hk4,hl4⟩;exact q sd cs k4 l4 _ hsd (by simpa using hlen) hk4 hl4
mutual
noncomputable def NH:PyData->Bool
 | .dict es=>GZ es
 | .list xs=>okAll xs
 | .tuple xs=>okAll xs
 | .none=>true
 | .bool _=>true
 | .int _=>true
 | .str _=>true
noncomputable def okAll:List PyData->Bool
 |[]=>true
 |x::xs=>NH x&&okAll xs
end
theorem PV:∀{xs:List PyData},okAll xs=true->∀d∈xs,NH d=true
 |[],_,d,h=>by simp at h
 |x::xs,h,d,hd=>by
  simp[okAll]at h;rcases Y0.mp hd with rfl|hd
  .exact h.1
  .exact PV h.2 d hd
theorem EH:∀{xs:List PyData},(∀d∈xs,NH d=true)->okAll xs=true
 |[],_=>rfl
 |x::xs,h=>by simp[okAll];exact ⟨h x R0,EH λd hd=>h d (K0 _ hd)⟩
noncomputable def Jk:PyData->Bool
 | .int _=>true
 |_=>false
noncomputable def Kk(s:Int):PyData->Bool
 | .int i=>decide (0<=i)&&decide (i<s)
 |_=>false
noncomputable def lF:List PyData->Qa->Bool
 |d::ds,s::sd=>Kk s d&&lF ds sd
 |_,_=>true
noncomputable def XJ(sd:Qa):PyData->Bool
 | .tuple ds=>decide (ds.length=sd.length)&&lF ds sd
 |_=>false
theorem ints_of:∀{ds:List PyData},ds.all Jk=true->∃ns:Qa,ds=ns.map j0
 |[],_=>⟨[],rfl⟩
 |d::ds,h=>by simp at h;obtain⟨ns,e⟩:=ints_of (ds:=ds) (by simpa using h.2);cases d<;>simp[Jk]at h;rename_i i;exact ⟨i::ns,by rw[e];rfl⟩
theorem NW:∀{ds:List PyData}{sd:Qa},ds.length=sd.length->lF ds sd=true->ds.all Jk=true
 |[],_,_,_=>rfl
 |d::ds,[],h,_=>by simp at h
 |d::ds,s::sd,h,k=>by simp[lF]at k;have:=NW (ds:=ds) (sd:=sd) (by simpa using h) k.2;cases d<;>simp[Kk]at k;rename_i i;show (Jk (.int i)&&ds.all Jk)=true;rw[this];rfl
noncomputable def iV(p:Int×Int):Bool:=decide (0<=p.1)&&decide (p.1<p.2)
theorem ID:∀(ns sd:Qa),lF (ns.map j0) sd=((ns.zip sd).map iV).all id
 |[],_=>by simp[lF]
 |n::ns,[]=>by simp[lF]
 |n::ns,s::sd=>by simp[lF,Kk,iV,ID ns sd]
noncomputable def xE(ns ms:Qa):Bool:=((ns.zip ms).map λp=>decide (p.1<=p.2)).all id
noncomputable def FH:PyData->Int
 | .int i=>i
 |_=>0
noncomputable def NO:PyData->PyData->Bool
 | .tuple xs,.tuple ys=>xE (xs.map FH) (ys.map FH)
 |_,_=>false
def UY(ns:Qa):(ns.map j0).map FH=ns:=by rw[O0];exact w8 ns
noncomputable def jV(sd:Qa):PyData->Bool
 | .tuple [a,b]=>XJ sd a&&XJ sd b&&NO a b
 |_=>false
def QV{d:PyData}(h:XJ sd d=true):∃ns:Qa,d=tupD ns/\ns.length=sd.length:=by cases d<;>simp[XJ]at h;rename_i ds;obtain⟨ns,e⟩:=ints_of (NW h.1 h.2);subst e;exact ⟨ns,rfl,by simpa using h.1⟩
def Lk{xs:List PyData}(h:xs.length≠2):jV sd (.tuple xs)=false:=by rcases xs with _|⟨a,_|⟨b,_|⟨c,xs⟩⟩⟩<;>first|rfl|simp at h
def Nk:Con:=λargs Q=>∃d,args=[.fz d]/\NH d=true/\∀o,Q (.fz (.bool (Jk d))) o
def Pk{f:Addr}(F:ZS K "is_whole" (top 6) f fd)(T:Txt mg):FnOk P w K mg base DX 1 f fd ["thing"] (dQ K Nk):=by
 have S:FnScope ["thing"] ["thing"] (cQ (top 6)):={};refine nJ F S (λcdv A outer s H E hr=>(mQ (BQ (WF (mU .int rfl T.Qn T.Qs boot_int (wn 0)) (Tj (w_not (mU .bl rfl T.Qn T.Qt boot_bool (wn 0)))))))) ?_;rintro args Qd ⟨d,rfl,hd,q⟩;cases d with
 |dict es=>exact ⟨hd,q _⟩
 |int i=>exact q _
 |bool b=>exact q _
 |none=>exact q _
 |str x=>exact q _
 |list xs=>exact q _
 |tuple xs=>exact q _
variable (P w K mg base) in
structure CalsC:Prop where
 Xl:Cal P w K mg base 1 "is_whole" ["thing"] (dQ K Nk)
noncomputable def AU(n:Nat):PyData->Bool
 | .tuple ds=>decide (ds.length=n)&&ds.all Jk
 |_=>false
def Qk:Con:=λargs Q=>∃(d:PyData) (n:Nat),args=[.fz d,.fz (.int n)]/\NH d=true/\n<=1000/\∀o,Q (.fz (.bool (AU n d))) o
def Uy{f:Addr}(F:ZS K "are_wholes" (top 7) f fd)(T:Txt mg)(C:CalsC P w K mg base):FnOk P w K mg base DX 2 f fd ["thing","many"] (dQ K Qk):=by
 have S:FnScope ["thing","many"] ["thing","many"] (cQ (top 7)):={};refine nJ F S (λcdv A outer s H E hr=>(fQ (tZ (Du (tG (yZ (cZ (mU .tup rfl T.Qn T.Qo boot_tuple (wn 0)))) (sW (sZ fH (pW (K:=K) rfl hr.units) (wx (sQ AX (HQ (K:=K) rfl) T.Qc PySem.boot_len (aQ (wn 0) bQ))) (wn 1))))) (mQ (BQ kU)) xX)
     (mQ (BQ (sQ gU (LJ (K:=K) rfl rfl) T.Qm boot_all (aQ (wx (dX rfl (own:=["number"]) (fr:=[]) (by kernel_rfl) (LX rfl (wv 0)) (λ_ _ _ _=>(nQ (i:=0) (by decide +kernel:V1 (["number"]:List Str)) rfl (Or.inl rfl))) (λ_ _ _ _=>tW) (λ_ _ _ _=>(QQ C.Xl hr.m (aQ (wn 0) bQ))))) bQ)))))) ?_;rintro args Qd ⟨d,n,rfl,hd,hn,q⟩;cases d with
 |dict es=>exact ⟨hd,q _⟩
 |int i=>exact q _
 |bool b=>exact q _
 |none=>exact q _
 |str x=>exact q _
 |list xs=>exact q _
 |tuple xs =>
  refine oZ (λh=>?_) (λh=>?_)
  .have h:¬(xs.length:Int)=n:=by simpa using h
   have e:AU n (.tuple xs)=false:=by simp[AU];intro z;lia
   rw[e]at q;exact q _
  .have h:(xs.length:Int)=n:=by simpa using h
   have hl:xs.length=n:=by lia
   refine ⟨zQ (by lia),rZ (λd=>.bool (Jk d)) ?_ ?_⟩
   .intro d hd2 N hN;exact ⟨d,rfl,PV (by simpa [NH]using hd) d hd2,λo=>hN⟩
   .refine ⟨xs.map Jk,by rw[O0];rfl,?_⟩;have e:AU n (.tuple xs)=(xs.map Jk).all id:=by simp[AU,hl]
    rw[<-e];exact q _
variable (P w K mg base) in
structure CalsD:Prop where
 Xm:Cal P w K mg base 2 "are_wholes" ["thing","many"] (dQ K Qk)
def GH:Con:=λargs Q=>∃(sd:Qa) (d:PyData),args=[.fz (tupD sd),.fz d]/\NH d=true/\sd.length<=1000/\∀o,Q (.fz (.bool (XJ sd d))) o
noncomputable def WN:PyData->PyData
 | .tuple [.int a,.int b]=>.bool (iV (a,b))
 |_=>.none
def mF{f:Addr}(F:ZS K "is_place" (top 14) f fd)(T:Txt mg)(C:CalsD P w K mg base):FnOk P w K mg base DX 3 f fd ["sides","thing"] (dQ K GH):=by
 have S:FnScope ["sides","thing"] ["sides","thing"] (cQ (top 14)):={};refine nJ F S (λcdv A outer s H E hr=>(fQ (tZ (yZ (cZ (QQ C.Xm hr.m (aQ (wn 1) (aQ (wx (sQ AX (HQ (K:=K) rfl) T.Qc PySem.boot_len (aQ (wn 0) bQ))) bQ))))) (mQ (BQ kU)) xX)
     (mQ (BQ (sQ gU (LJ (K:=K) rfl rfl) T.Qm boot_all (aQ (wx (dX rfl (own:=["number","side"]) (fr:=[]) (by kernel_rfl) (pY rfl T.QP (aQ (wn 1) (aQ (wn 0) bQ))) (λ_ _ _ _=>(AZ rfl rfl (yQ (nQ (i:=0) (by decide +kernel:V1 (["number","side"]:List Str)) rfl (Or.inl rfl)) (yQ (nQ (i:=1) (by decide +kernel:V1 (["number","side"]:List Str)) rfl (Or.inl rfl)) SX)))) (λ_ _ _ _=>tW) (λ_ _ _ _=>(cy ou nu (wx iQ) (wn 0) (wn 1))))) bQ)))))) ?_;rintro args Qd ⟨sd,d,rfl,hd,hn,q⟩;refine ⟨d,sd.length,by rw[q0];rfl,hd,hn,λo=>?_⟩;cases ha:AU sd.length d with
 |false =>
  have e:XJ sd d=false:=by
   cases d<;>first|rfl|skip
   rename_i ds;simp[AU]at ha;by_cases h:ds.length=sd.length
   .cases hz:lF ds sd with
    |false=>simp[XJ,hz]
    |true=>have:=NW h hz;exact absurd this (by simpa using ha h)
   .simp[XJ,h]
  rw[e]at q;exact q _
 |true =>
  cases d<;>simp[AU]at ha;rename_i ds;obtain⟨hl,hi⟩:=ha;obtain⟨ns,rfl⟩:=ints_of (ds:=ds) (by simpa using hi);have hz:BX (ns.map j0) (sd.map j0)=(ns.zip sd).map λp=>A1 [.int p.1,.int p.2]:=qX ns sd;have hln:ns.length=sd.length:=by simpa using hl
  refine ⟨by rw[hz,q0,P2];exact zQ (by lia),rZ WN ?_ ?_⟩
  .intro d hd2 N hN;rw[hz]at hd2;obtain⟨⟨a,b⟩,_,rfl⟩:=J0.mp hd2;have hN:N (.bool (iV (a,b))) _:=hN;refine ⟨rfl,?_⟩;refine oZ (λh=>?_) (λh=>?_)
   .have e:iV (a,b)=decide (a<b):=by
     have h:decide (0<=a)=true:=h;simp[iV,of_decide_eq_true h]
    rw[e]at hN;exact hN
   .have e:iV (a,b)=false:=by
     have h:¬decide (0<=a)=true:=h;simp[iV];intro z;exact absurd (decide_eq_true z) h
    rw[e]at hN;exact hN
  .rw[hz,O0];refine ⟨(ns.zip sd).map iV,by rw[O0];rfl,?_⟩;have e:XJ sd (.tuple (ns.map j0))=((ns.zip sd).map iV).all id:=by
    rw[<-ID];simp[XJ,hln]
   rw[<-e];exact q _
variable (P w K mg base) in
structure CalsE:Prop where
 Xn:Cal P w K mg base 3 "is_place" ["sides","thing"] (dQ K GH)
def Rk:Con:=λargs Q=>∃(sd:Qa) (d:PyData),args=[.fz (tupD sd),.fz d]/\NH d=true/\sd.length<=1000/\∀o,Q (.fz (.bool (jV sd d))) o
noncomputable def OO:PyData->PyData
 | .tuple [.int a,.int b]=>.bool (decide (a<=b))
 |_=>.none
def Sk{f:Addr}(F:ZS K "is_box" (top 15) f fd)(T:Txt mg)(C:CalsE P w K mg base):FnOk P w K mg base DX 4 f fd ["sides","thing"] (dQ K Rk):=by
 have S:FnScope ["sides","thing"] ["sides","thing"] (cQ (top 15)):={};refine nJ F S (λcdv A outer s H E hr=>(fQ (tZ (Du (tG (yZ (cZ (mU .tup rfl T.Qn T.Qo boot_tuple (wn 1)))) (sW (sZ fH (pW (K:=K) rfl hr.units) (wx (sQ AX (HQ (K:=K) rfl) T.Qc PySem.boot_len (aQ (wn 1) bQ))) (wx iQ))))) (mQ (BQ kU)) xX)
     (fQ (tZ (Du (tG (yZ (cZ (QQ C.Xn hr.m (aQ (wn 0) (aQ (wx (bZ rfl (wn 1) (wx iQ))) bQ))))) (sW (yZ (cZ (QQ C.Xn hr.m (aQ (wn 0) (aQ (wx (bZ rfl (wn 1) (wx iQ))) bQ)))))))) (mQ (BQ kU)) xX)
     (mQ (BQ (sQ gU (LJ (K:=K) rfl rfl) T.Qm boot_all (aQ (wx (dX rfl (own:=["first","last"]) (fr:=[]) (by kernel_rfl) (pY rfl T.QP (aQ (wx (bZ rfl (wn 1) (wx iQ))) (aQ (wx (bZ rfl (wn 1) (wx iQ))) bQ))) (λ_ _ _ _=>(AZ rfl rfl (yQ (nQ (i:=0) (by decide +kernel:V1 (["first","last"]:List Str)) rfl (Or.inl rfl)) (yQ (nQ (i:=1) (by decide +kernel:V1 (["first","last"]:List Str)) rfl (Or.inl rfl)) SX)))) (λ_ _ _ _=>tW) (λ_ _ _ _=>(zV dL ou (wn 0) (wn 1))))) bQ))))))) ?_;rintro args Qd ⟨sd,d,rfl,hd,hn,q⟩;cases d with
 |dict es=>exact ⟨hd,q _⟩
 |int i=>exact q _
 |bool b=>exact q _
 |none=>exact q _
 |str x=>exact q _
 |list xs=>exact q _
 |tuple xs =>
  refine oZ (λh=>?_) (λh=>?_)
  .have h:¬(xs.length:Int)=2:=by simpa using h
   rw[Lk (by lia)]at q;exact q _
  .have h:(xs.length:Int)=2:=by simpa using h
   obtain⟨a,b,rfl⟩:∃a b,xs=[a,b]:=by
    rcases xs with _|⟨a,_|⟨b,_|⟨c,xs⟩⟩⟩
    .simp at h
    .simp at h
    .exact ⟨a,b,rfl⟩
    .simp at h;lia
   have hab:NH a=true/\NH b=true:=by simpa [NH,okAll]using hd
   refine ⟨a,rfl,sd,a,rfl,hab.1,hn,λo=>?_⟩;cases ha:XJ sd a with
   |false =>
    have e:jV sd (.tuple [a,b])=false:=by simp[jV,ha]
    rw[e]at q;exact q _
   |true =>
    refine ⟨b,rfl,sd,b,rfl,hab.2,hn,λo=>?_⟩;cases hb:XJ sd b with
    |false =>
     have e:jV sd (.tuple [a,b])=false:=by simp[jV,hb]
     rw[e]at q;exact q _
    |true =>
     obtain⟨ns,rfl,hns⟩:=QV ha;obtain⟨ms,rfl,hms⟩:=QV hb;have hz:=qX ns ms;refine ⟨tupD ns,rfl,tupD ms,rfl,by rw[hz,q0,P2];exact zQ (by lia),rZ OO ?_ ?_⟩
     .intro d hd2 N hN;rw[hz]at hd2;obtain⟨⟨a,b⟩,_,rfl⟩:=J0.mp hd2;exact ⟨rfl,hN⟩
     .rw[hz,O0];refine ⟨(ns.zip ms).map λp=>decide (p.1<=p.2),by rw[O0];rfl,?_⟩;have e:jV sd (.tuple [tupD ns,tupD ms])=((ns.zip ms).map λp=>decide (p.1<=p.2)).all id:=by
       simp only[jV,ha,hb,Bool.true_and];show xE ((ns.map j0).map FH) ((ms.map j0).map FH)=_;rw[UY,UY];rfl
      rw[<-e];exact q _
theorem RV(f:α->β):∀(cs acc:List (List α)),(vX acc cs).map (W5 f)=vX (acc.map (W5 f)) (cs.map (W5 f))
 |[],acc=>rfl
 |c::cs,acc=>by show (vX (acc.flatMap λp=>c.map λx=>p++[x]) cs).map (W5 f)=vX ((acc.map (W5 f)).flatMap λp=>(c.map f).map λx=>p++[x]) (cs.map (W5 f));rw[RV f cs];congr 1;rw[List.map_flatMap,List.flatMap_map];congr 1;funext p;simp[O0,Function.comp_def]
def t9:Con:=λargs Q=>∃cs:List (List PyData),args=[.fz (.list (cs.map V3))]/\(∀c∈cs,c≠[])/\wZ cs<=1000/\cs.length<=1000/\∀o,Q (.ow (.list ((vX [[]] cs).map A1))) o
def Vy{f:Addr}(F:ZS K "one_of_each" (top 9) f fd):FnOk P w K mg base DX 1 f fd ["choices"] (dQ K t9):=by
 have S:FnScope ["choices","chosen","things","longer","ahead","thing"] ["choices"] (cQ (top 9)):={};refine nJ F S (λcdv A outer s H E hr=>(fQ (zs 1 S.nd (MZ (aQ (wx (xZ bQ)) bQ)))
     (fQ (BZ [2,3,4] PassesOwn.never rfl (LX rfl (wv 0)) (nQ (i:=2) S.nd rfl (Or.inl rfl)) (fQ (zs 3 S.nd (MZ bQ))
     (fQ (BZ [4,5] PassesOwn.never rfl (LX rfl (wv 1)) (nQ (i:=4) S.nd rfl (Or.inl rfl)) (mQ (BZ [5] PassesOwn.never rfl (LX rfl (wv 2)) (nQ (i:=5) S.nd rfl (Or.inl rfl)) (mQ (WX (VE PJ rfl PySem.F.slot_list_append PySem.F.type_list_append KJ (wn 3) (aQ (wx (w_bin IX mX (wn 4) (wx (xZ (aQ (wx (wv 5)) bQ))))) bQ)))))))
     (mQ (uG (i:=1) S.nd rfl (Or.inl rfl) (wn 3))))))
     (mQ (uW (wn 1)))))) ?_;rintro args Qd ⟨cs,rfl,hne,hlen,hcl,q⟩;refine qZ (λrest ρ=>∃(acc rs:List (List PyData)),ρ=[ZA (.list (cs.map V3)),YA (.list (acc.map A1)),none,none,none,none]/\rest=rs.map V3/\(∀c∈rs,c≠[])/\acc.length*wZ rs=wZ cs/\vX acc rs=vX [[]] cs/\(∀p∈acc,p.length+rs.length<=1000)) ?_ ?_
  ⟨[[]],cs,rfl,rfl,hne,by simp,rfl,λp hp=>by simp at hp;subst hp;simpa using hcl⟩
 .rintro d ds ρ ⟨acc,rs,rfl,er,hne',hln,hacc,hpl⟩ N hN;cases rs with
  |nil=>cases er
  |cons c rs =>
   cases er;have hr2:∀c∈rs,c≠[]:=λc hc=>hne' c (K0 _ hc);have hlp:=JW hr2;have htot:(acc.flatMap λp=>c.map λx=>p++[x]).length<=1000:=by rw[LK];have h1:acc.length*(c.length*wZ rs)=wZ cs:=hln;rw[<-P8]at h1;have:acc.length*c.length<=acc.length*c.length*wZ rs:=b8 _ hlp;lia
   refine qZ (λrest ρ=>∃(lg rp:List (List PyData)),ρ=[ZA (.list (cs.map V3)),ZA (.list (acc.map A1)),ZA (.list c),YA (.list (lg.map A1)),none,none]/\rest=rp.map A1/\(lg++rp.flatMap λp=>c.map λx=>p++[x])=(acc.flatMap λp=>c.map λx=>p++[x])/\(∀p∈rp,p∈acc)) ?_ ?_
    ⟨[],acc,rfl,rfl,rfl,λp hp=>hp⟩
   .rintro d ds ρ ⟨lg,rp,rfl,er,he,hin⟩ M hM;cases rp with
    |nil=>cases er
    |cons p rp =>
     cases er;have hp1:=hpl p (hin p R0);have hl5:lg.length+c.length<=1000:=by have:=congrArg J3 he;rw[U0,G4,U0,q0]at this;lia
     refine qZ (λrest ρ=>∃(pre:List PyData),c=pre++rest/\ρ=[ZA (.list (cs.map V3)),ZA (.list (acc.map A1)),ZA (.list c),YA (.list ((lg++pre.map λx=>p++[x]).map A1)),ZA (.tuple p),none]) ?_ ?_
      ⟨[],rfl,by simp;rfl⟩
     .rintro x ds' ρ ⟨pre,hc,rfl⟩ L hL;refine ⟨by simp at hp1 ⊢;exact zQ (by lia),by rw[q0,U0,q0];have:=congrArg J3 hc;simp at this;exact L0 (show _<1000 by lia) (by decide),?_⟩;refine hL _ ⟨pre++[x],by rw[hc];simp,?_⟩;have e1:((lg++pre.map λx=>p++[x]).map A1)++[A1 (p++[x])]=((lg++(pre++[x]).map λx=>p++[x]).map A1):=by simp
      rw[<-e1];rfl
     .rintro ρ ⟨pre,hc,rfl⟩;rw[O2]at hc;subst hc;exact hM _ ⟨lg++c.map λx=>p++[x],rp,rfl,rfl,by rw[S2,<-he,G4],λp' hp'=>hin p' (K0 _ hp')⟩
   .rintro ρ ⟨lg,rp,rfl,er,he,hin⟩;cases rp with
    |cons p rp=>cases er
    |nil =>
     rw[List.flatMap_nil,O2]at he;refine hN _ ⟨acc.flatMap λp=>c.map λx=>p++[x],rs,by rw[he];rfl,rfl,hr2,?_,hacc,λp hp=>?_⟩
     .rw[LK,P8];exact hln
     .obtain⟨p',hp',hx⟩:=m6.mp hp;obtain⟨x,_,rfl⟩:=J0.mp hx;have:=hpl p' hp';simp at this ⊢;lia
 .rintro ρ ⟨acc,rs,rfl,er,hne',hln,hacc,hpl⟩;cases rs with
  |cons a rs=>cases er
  |nil=>have hacc:acc=vX [[]] cs:=hacc;rw[hacc];exact q _
variable (P w K mg base) in
structure CalsBt:Prop where
 Xo:Cal P w K mg base 1 "one_of_each" ["choices"] (dQ K t9)
def WL:Con:=λargs Q=>∃low high:Qa,args=[.fz (tupD low),.fz (tupD high)]/\low.length=high.length/\low.length<=3/\(∀p∈low.zip high,0<=p.1/\p.1<=p.2/\p.2<=1000)/\wZ ((low.zip high).map λp=>SQ p.1 p.2)<=1000/\∀o,Q (.ow (.list ((fV low high).map tupD))) o
def yE{f:Addr}(F:ZS K "places_between" (top 10) f fd)(T:Txt mg)(C:CalsBt P w K mg base):FnOk P w K mg base DX 2 f fd ["low","high"] (dQ K WL):=by
 have S:FnScope ["low","high"] ["low","high"] (cQ (top 10)):={};refine nJ F S (λcdv A outer s H E hr=>(mQ (BQ (QQ C.Xo hr.m (aQ (wx (dX rfl (own:=["first","last"]) (fr:=[]) (by kernel_rfl) (pY rfl T.QP (aQ (wn 0) (aQ (wn 1) bQ))) (λ_ _ _ _=>(AZ rfl rfl (yQ (nQ (i:=0) (by decide +kernel:V1 (["first","last"]:List Str)) rfl (Or.inl rfl)) (yQ (nQ (i:=1) (by decide +kernel:V1 (["first","last"]:List Str)) rfl (Or.inl rfl)) SX)))) (λ_ _ _ _=>tW) (λ_ _ _ _=>(AN rfl T.Qr T.QA (aQ (wn 0) (aQ (wx (w_bin IX mX (wn 1) (wx iQ))) bQ)))))) bQ))))) ?_;rintro args Qd ⟨low,high,rfl,hl,h3,hb,hlen,q⟩;have hz:(BX (low.map j0) (high.map j0)).length<=sizeLine:=by rw[qX,q0,P2];exact zQ (by lia)
 refine ⟨hz,rZ (λd=>match d with | .tuple [.int a,.int b]=>.list (KQ a (b+1-a).toNat)|_=>.none) ?_ ?_⟩
 .intro d hd N hN;rw[qX]at hd;obtain⟨⟨a,b⟩,hp,rfl⟩:=J0.mp hd;have hab:=hb _ hp;simp only at hab;exact ⟨rfl,⟨by lia,by lia,by lia,by lia⟩,by lia,hN⟩
 .have e1:(BX (low.map j0) (high.map j0)).map (λd=>match d with | .tuple [.int a,.int b]=>V3 (KQ a (b+1-a).toNat)|_=>.none)=(((low.zip high).map λp=>SQ p.1 p.2).map (W5 j0)).map V3:=by
   rw[qX,O0,O0,O0];refine M3 λp _=>?_;simp[CY]
  rw[e1];have hl2:wZ (((low.zip high).map λp=>SQ p.1 p.2).map (W5 j0))=wZ ((low.zip high).map λp=>SQ p.1 p.2):=by
   generalize (low.zip high).map (λp=>SQ p.1 p.2)=cs;induction cs with
   |nil=>rfl
   |cons c cs ih=>simp[wZ,ih]
  refine ⟨((low.zip high).map λp=>SQ p.1 p.2).map (W5 j0),rfl,?_,by rw[hl2];exact hlen,by simp;lia,λo=>?_⟩
  .intro c hc;obtain⟨c',hc',rfl⟩:=J0.mp hc;obtain⟨p,hp,rfl⟩:=J0.mp hc';have:=hb p hp;intro z;have:=congrArg J3 z;simp[SQ]at this;lia
  .have e2:(vX [[]] (((low.zip high).map λp=>SQ p.1 p.2).map (W5 j0))).map A1=(fV low high).map tupD:=by
    have:=RV j0 ((low.zip high).map λp=>SQ p.1 p.2) [[]];simp only[E1,u7]at this;rw[<-this,O0];rfl
   rw[e2];exact q _
def Tk:Con:=λargs Q=>∃sd pl:Qa,args=[.fz (tupD sd),.fz (tupD pl)]/\sd.length<=1000/\(∀s∈sd,0<=s/\s<2 ^ 64)/\∀o,Q (.fz (.int (qE sd pl))) o
def Uk{f:Addr}(F:ZS K "index_of" (top 11) f fd)(T:Txt mg):FnOk P w K mg base DX 1 f fd ["sides","place"] (dQ K Tk):=by
 have S:FnScope ["sides","place","index","side","number"] ["sides","place"] (cQ (top 11)):={};refine nJ F S (λcdv A outer s H E hr=>(fQ (zs 2 S.nd iQ)
     (fQ (BZ [3,4] PassesOwn.never rfl (pY rfl T.QP (aQ (wn 0) (aQ (wn 1) bQ))) (AZ rfl rfl (yQ (nQ (i:=3) S.nd rfl (Or.inl rfl)) (yQ (nQ (i:=4) S.nd rfl (Or.inl rfl)) SX))) (mQ (zs 2 S.nd (w_bin IX mX (wx (w_bin bJ kZ (wn 2) (wn 3))) (wn 4)))))
     (mQ (uW (wn 2)))))) ?_;rintro args Qd ⟨sd,pl,rfl,hl,hs,q⟩;refine qZ (λrest ρ=>∃(i:Int) (rs:List (Int×Int)),ρ=[ZA (tupD sd),ZA (tupD pl),ZA (.int i),none,none]/\rest=rs.map (λp=>A1 [.int p.1,.int p.2])/\(∀p∈rs,p∈sd.zip pl)/\rs.foldl (λi p=>i*p.1+p.2) i=qE sd pl) ?_ ?_
  ⟨0,sd.zip pl,rfl,qX _ _,λ_ h=>h,rfl⟩
 .rintro d ds ρ ⟨i,rs,rfl,er,hin,hf⟩ N hN;cases rs with
  |nil=>cases er
  |cons p rs=>cases er;have hp:=hs p.1 (o5 (hin p R0)).1;exact ⟨rfl,.inr ⟨by lia,by lia⟩,hN _ ⟨i*p.1+p.2,rs,rfl,rfl,λx hx=>hin x (K0 _ hx),hf⟩⟩
 .rintro ρ ⟨i,rs,rfl,er,hin,hf⟩;cases rs with
  |nil=>have hf:i=qE sd pl:=hf;subst hf;exact q _
  |cons _ _=>cases er
noncomputable def Bx:Qa->Qa->Qa->Prop
 |[],[],[]=>True
 |x::lo,y::hi,s::sd=>(0<=x/\x<=y/\y<s)/\Bx lo hi sd
 |_,_,_=>False
noncomputable abbrev wz(lo hi:Qa):PyData:=.tuple [tupD lo,tupD hi]
theorem IZ:∀{lo hi sd:Qa},Bx lo hi sd->lo.length=sd.length/\hi.length=sd.length
 |[],[],[],_=>⟨rfl,rfl⟩
 |x::lo,y::hi,s::sd,h=>by have:=IZ h.2;simp[this.1,this.2]
 |[],[],_::_,h=>h.elim
 |[],_::_,z,h=>by cases z<;>exact h.elim
 |_::_,[],z,h=>by cases z<;>exact h.elim
 |_::_,_::_,[],h=>h.elim
theorem u9:∀{lo hi sd:Qa},Bx lo hi sd->lF (lo.map j0) sd=true/\lF (hi.map j0) sd=true/\xE lo hi=true
 |[],[],[],_=>⟨rfl,rfl,rfl⟩
 |x::lo,y::hi,s::sd,h=>by
  obtain⟨h1,h2,h3⟩:=u9 h.2;have hx:=h.1;refine ⟨?_,?_,?_⟩
  .simp only[E1,lF,Kk,h1,t6,N3,decide_eq_true_eq];lia
  .simp only[E1,lF,Kk,h2,t6,N3,decide_eq_true_eq];lia
  .have e:xE (x::lo) (y::hi)=(decide (x<=y)&&xE lo hi):=by simp[xE]
   rw[e,h3,t6,decide_eq_true_eq];exact hx.2.1
 |[],[],_::_,h=>h.elim
 |[],_::_,z,h=>by cases z<;>exact h.elim
 |_::_,[],z,h=>by cases z<;>exact h.elim
 |_::_,_::_,[],h=>h.elim
def JD(h:Bx lo hi sd):jV sd (wz lo hi)=true:=by
 obtain⟨h1,h2,h3⟩:=u9 h;obtain⟨e1,e2⟩:=IZ h;have a1:XJ sd (tupD lo)=true:=by show (decide ((lo.map j0).length=sd.length)&&lF (lo.map j0) sd)=true;rw[q0,h1,t6];exact decide_eq_true e1
 have a2:XJ sd (tupD hi)=true:=by show (decide ((hi.map j0).length=sd.length)&&lF (hi.map j0) sd)=true;rw[q0,h2,t6];exact decide_eq_true e2
 show (XJ sd (tupD lo)&&XJ sd (tupD hi)&&xE ((lo.map j0).map FH) ((hi.map j0).map FH))=true;rw[a1,a2,UY,UY,h3];rfl
def VY(p:Qa):NH (tupD p)=true:=EH λd hd=>by obtain⟨i,_,rfl⟩:=J0.mp hd;rfl
def Vk(lo hi:Qa):NH (wz lo hi)=true:=by show (NH (tupD lo)&&(NH (tupD hi)&&true))=true;rw[VY,VY];rfl
theorem KD:∀{lo hi sd:Qa}{x y s:Int},Bx lo hi sd->0<=x->x<=y->y<s->Bx (lo++[x]) (hi++[y]) (sd++[s])
 |[],[],[],_,_,_,_,h1,h2,h3=>⟨⟨h1,h2,h3⟩,trivial⟩
 |a::lo,b::hi,c::sd,_,_,_,h,h1,h2,h3=>⟨h.1,KD h.2 h1 h2 h3⟩
 |[],[],_::_,_,_,_,h,_,_,_=>h.elim
 |[],_::_,z,_,_,_,h,_,_,_=>by cases z<;>exact h.elim
 |_::_,[],z,_,_,_,h,_,_,_=>by cases z<;>exact h.elim
 |_::_,_::_,[],_,_,_,h,_,_,_=>h.elim
def zE(h:Wi p sd):0<=qE sd p/\qE sd p<CQ sd:=by have:=Zu h (j9 0) (by decide:(0:Int)<1);rw[K7]at this;exact this
variable (P w K mg base) in
structure CalsAk:Prop where
 Xp:Cal P w K mg base 4 "is_box" ["sides","thing"] (dQ K Rk)
def AE:Con:=λargs Q=>∃(sd:Qa) (d:PyData),args=[.fz (tupD sd),.fz d]/\NH d=true/\sd.length<=1000/\jV sd d=true/\∀o,Q (.fz .none) o
def BE{f:Addr}(F:ZS K "ask_for_box" (top 16) f fd)(C:CalsAk P w K mg base):FnOk P w K mg base DX 5 f fd ["sides","thing"] (dQ K AE):=by have S:FnScope ["sides","thing"] ["sides","thing"] (cQ (top 16)):={};refine nJ F S (λcdv A outer s H E hr=>(mQ (tZ (yZ (cZ (QQ C.Xp hr.m (aQ (wn 0) (aQ (wn 1) bQ))))) (mQ GK) xX))) ?_;rintro args Qd ⟨sd,d,rfl,hd,hn,hb,q⟩;refine ⟨sd,d,rfl,hd,hn,λo=>?_⟩;rw[hb];exact q _
def v9:Con:=λargs Q=>∃sd:Qa,args=[.fz (tupD sd)]/\(∀c∈sd,0<=c/\c<2 ^ 60)/\∀o,Q (.fz (.int (CQ sd))) o
def Wy{f:Addr}(F:ZS K "product" (top 8) f fd):FnOk P w K mg base DX 1 f fd ["numbers"] (dQ K v9):=by
 have S:FnScope ["numbers","result","number"] ["numbers"] (cQ (top 8)):={};refine nJ F S (λcdv A outer s H E hr=>(fQ (zs 1 S.nd iQ)
     (fQ (BZ [2] PassesOwn.never rfl (LX rfl (wv 0)) (nQ (i:=2) S.nd rfl (Or.inl rfl)) (mQ (zs 1 S.nd (w_bin bJ kZ (wn 1) (wn 2)))))
     (mQ (uW (wn 1)))))) ?_;rintro args Qd ⟨sd,rfl,hb,q⟩;refine qZ (λrest ρ=>∃(t:Int) (rs:Qa),ρ=[ZA (tupD sd),ZA (.int t),none]/\rest=rs.map j0/\(∀c∈rs,c∈sd)/\t*CQ rs=CQ sd) ?_ ?_
  ⟨1,sd,rfl,rfl,λ_ h=>h,by rw[K7]⟩
 .rintro d ds ρ ⟨t,rs,rfl,er,hin,hp⟩ N hN;cases rs with
  |nil=>cases er
  |cons a rs=>cases er;have ha:=hb a (hin a R0);exact ⟨.inr ⟨by lia,by lia⟩,hN _ ⟨t*a,rs,rfl,rfl,λc hc=>hin c (K0 _ hc),by rw[Z6];exact hp⟩⟩
 .rintro ρ ⟨t,rs,rfl,er,hin,hp⟩;cases rs with
  |nil =>
   have hp:t=CQ sd:=by rw[<-hp];show t=t*1;lia
   subst hp;exact q _
  |cons _ _=>cases er
def Xk:Con:=λargs Q=>∃sd:Qa,args=[.fz (tupD sd)]/\sd.length<=1000/\∀o,Q (.fz (tupD (sd.map λ_=>0))) o
def Yk{f:Addr}(F:ZS K "first_place" (top 17) f fd)(T:Txt mg):FnOk P w K mg base DX 1 f fd ["sides"] (dQ K Xk):=by
 have S:FnScope ["sides"] ["sides"] (cQ (top 17)):={};refine nJ F S (λcdv A outer s H E hr=>(mQ (BQ (IQ GQ (qQ (K:=K) rfl) T.Qo boot_tuple (aQ (wx (dX rfl (own:=["side"]) (fr:=[]) (by kernel_rfl) (LX rfl (wv 0)) (λ_ _ _ _=>(nQ (i:=0) (by decide +kernel:V1 (["side"]:List Str)) rfl (Or.inl rfl))) (λ_ _ _ _=>tW) (λ_ _ _ _=>iQ))) bQ))))) ?_;rintro args Qd ⟨sd,rfl,hl,q⟩;refine ⟨by rw[q0];exact zQ hl,rZ (λ_=>.int 0) (λd hd N hN=>hN) ?_⟩;have e:(sd.map j0).map (λ_=>j0 0)=(sd.map λ_=>0).map j0:=by simp[O0,Function.comp_def]
 rw[e];exact q _
def x9:Con:=λargs Q=>∃sd:Qa,args=[.fz (tupD sd)]/\sd.length<=1000/\∀o,Q (.fz (tupD (sd.map λs=>s-1))) o
def Xy{f:Addr}(F:ZS K "last_place" (top 18) f fd)(T:Txt mg):FnOk P w K mg base DX 1 f fd ["sides"] (dQ K x9):=by
 have S:FnScope ["sides"] ["sides"] (cQ (top 18)):={};refine nJ F S (λcdv A outer s H E hr=>(mQ (BQ (IQ GQ (qQ (K:=K) rfl) T.Qo boot_tuple (aQ (wx (dX rfl (own:=["side"]) (fr:=[]) (by kernel_rfl) (LX rfl (wv 0)) (λ_ _ _ _=>(nQ (i:=0) (by decide +kernel:V1 (["side"]:List Str)) rfl (Or.inl rfl))) (λ_ _ _ _=>tW) (λ_ _ _ _=>(w_bin RX NX (wn 0) (wx iQ))))) bQ))))) ?_;rintro args Qd ⟨sd,rfl,hl,q⟩;refine ⟨by rw[q0];exact zQ hl,rZ (λd=>match d with | .int i=>.int (i-1)|_=>.none) (λd hd N hN=>?_) ?_⟩
 .obtain⟨i,_,rfl⟩:=J0.mp hd;exact hN
 .refine Eq.mpr (congrArg (λz=>Qd (.fz (.tuple z)) _) ?_) (q _);simp[O0,Function.comp_def]
variable (P w K mg base) in
structure CalsF:Prop where
 Xr:Cal P w K mg base 2 "places_between" ["low","high"] (dQ K WL)
 Xs:Cal P w K mg base 1 "first_place" ["sides"] (dQ K Xk)
 Xt:Cal P w K mg base 1 "last_place" ["sides"] (dQ K x9)
def OW:Con:=λargs Q=>∃sd:Qa,args=[.fz (tupD sd)]/\Sd sd/\∀o,Q (.ow (.list ((nZ sd).map tupD))) o
def BU{f:Addr}(F:ZS K "all_places" (top 20) f fd)(C:CalsF P w K mg base):FnOk P w K mg base DX 3 f fd ["sides"] (dQ K OW):=by
 have S:FnScope ["sides"] ["sides"] (cQ (top 20)):={};refine nJ F S (λcdv A outer s H E hr=>(mQ (BQ (QQ C.Xr hr.m (aQ (wx (QQ C.Xs hr.m (aQ (wn 0) bQ))) (aQ (wx (QQ C.Xt hr.m (aQ (wn 0) bQ))) bQ)))))) ?_;rintro args Qd ⟨sd,rfl,hsd,q⟩;have h3:=hsd.l3;refine ⟨sd,rfl,by lia,λo1=>?_⟩;refine ⟨sd,rfl,by lia,λo2=>?_⟩;have e:((sd.map λ_=>(0:Int)).zip (sd.map λs=>s-1)).map (λp=>SQ p.1 p.2)=sd.map rng:=by rw[IJ,O0];exact M3 λs _=>LV s
 refine ⟨sd.map λ_=>0,sd.map λs=>s-1,rfl,by simp,by simpa using h3,λp hp=>?_,?_,λo3=>?_⟩
 .rw[IJ]at hp;obtain⟨s,hs,rfl⟩:=J0.mp hp;have h1:=hsd.p s hs;have h2:=QZ hsd.p s hs;have:=hsd.m;exact ⟨by show (0:Int)<=0;decide,by show (0:Int)<=s-1;lia,by show s-1<=1000;lia⟩
 .rw[e];have h1:=MK hsd.p;have:=hsd.m;lia
 .unfold fV;rw[e];exact q _
variable (P w K mg base) in
structure CalsCa:Prop where
 XA:Cal P w K mg base 1 "index_of" ["sides","place"] (dQ K Tk)
def vO:Con:=λargs Q=>∃sd cl p:Qa,args=[.fz (lJ sd cl),.fz (tupD p)]/\Sd sd/\cl.length=(nZ sd).length/\Wi p sd/\∀o,Q (.fz (.int (iK sd cl p))) o
def XL{f:Addr}(F:ZS K "cell_at" (top 19) f fd)(C:CalsCa P w K mg base):FnOk P w K mg base DX 2 f fd ["field","place"] (dQ K vO):=by
 have S:FnScope ["field","place"] ["field","place"] (cQ (top 19)):={};refine nJ F S (λcdv A outer s H E hr=>(mQ (BQ (bZ rfl (wx (bZ rfl (wn 0) (wx iQ))) (wx (QQ C.XA hr.m (aQ (wx (bZ rfl (wn 0) (wx iQ))) (aQ (wn 1) bQ)))))))) ?_;rintro args Qd ⟨sd,cl,p,rfl,hsd,hcl,hp,q⟩;have h3:=hsd.l3;have hm:=hsd.m;have hpl:=iJ hsd.p;have hi:=zE hp;refine ⟨_,rfl,_,rfl,sd,p,rfl,by lia,λs hs=>?_,λo=>?_⟩
 .have h1:=hsd.p s hs;have h2:=QZ hsd.p s hs;lia
 .obtain⟨n,hn⟩:=G6 hi.1;have hnl:n<cl.length:=by lia
  refine ⟨.int (iK sd cl p),?_,q _⟩;unfold iK;rw[hn];exact NK hnl
def EE(n:Int):(rng n).Pairwise (·<=·):=by unfold rng;rw[x5];exact List.pairwise_lt_range.imp λh=>by lia
def xz{w:Int}{m:Nat}(h:m<od.idxOf w):od[m]?≠some w:=λe=>by have hm:m<od.length:=(S0.mp e).1;have hw:od[m]=w:=(S0.mp e).2;have:=List.not_of_lt_findIdx (p:=(·==w)) (xs:=od) h;rw[hw]at this;simp at this
noncomputable def SK(xs od:Qa):Qa:=(rng od.length).map λw=>xs.getD (od.idxOf w) 0
noncomputable def uQ(sd p sm:Qa):Qa:=p.zipIdx.map λq=>if (q.2:Int)∈sm then sd.getD q.2 0-1-q.1 else q.1
noncomputable def YL(sd sm:Qa):PyData->PyData
 | .tuple [.int i,.int x]=>.int (if i∈sm then sd.getD i.toNat 0-1-x else x)
 |_=>.none
def HH(fs:Qa):AU fs.length (tupD fs)=true:=by show (decide ((fs.map j0).length=fs.length)&&(fs.map j0).all Jk)=true;rw[q0,decide_eq_true rfl,Bool.true_and,u4];intro d hd;obtain⟨i,_,rfl⟩:=J0.mp hd;rfl
def yz(ns:Qa):Nice 1 (.list (ns.map j0)):=.list λd hd=>by obtain⟨n,_,rfl⟩:=J0.mp hd;exact Nice.int 0 n
def Zk(ns:Qa):Nice 1 (tupD ns):=.tuple λd hd=>by obtain⟨n,_,rfl⟩:=J0.mp hd;exact Nice.int 0 n
variable (P w K mg base) in
structure CalsAf:Prop where
 Xm:Cal P w K mg base 2 "are_wholes" ["thing","many"] (dQ K Qk)
def XN:Con:=λargs Q=>∃od:Qa,args=[.fz (.int od.length),.fz (tupD od)]/\od.length<=3/\od.Perm (rng od.length)/\∀o,Q (.fz .none) o
def ZL{f:Addr}(F:ZS K "ask_for_order" (top 22) f fd)(T:Txt mg)(C:CalsAf P w K mg base):FnOk P w K mg base DX 3 f fd ["many","thing"] (dQ K XN):=by have S:FnScope ["many","thing"] ["many","thing"] (cQ (top 22)):={};refine nJ F S (λcdv A outer s H E hr=>(mQ (tZ (Du (tG (yZ (cZ (QQ C.Xm hr.m (aQ (wn 1) (aQ (wn 0) bQ))))) (sW (sZ fH (pW (K:=K) rfl hr.units) (wx (sQ gk XG T.QR boot_sorted (aQ (wn 1) bQ))) (wx (QL rfl T.Qr T.QA (aQ (wn 0) bQ))))))) (mQ GK) xX))) ?_;rintro args Qd ⟨od,rfl,hl,hp,q⟩;refine ⟨tupD od,od.length,rfl,VY od,by lia,λo=>?_⟩;rw[HH];refine ⟨od,rfl,by lia,λns' h1 h2=>?_⟩;have e:ns'=rng od.length:=List.Perm.eq_of_pairwise (λa b _ _ h1 h2=>by lia) h2 (EE _) (h1.trans hp);subst e;refine ⟨⟨by decide,by decide,by lia,by lia⟩,by lia,?_⟩;rw[wX];have hw:=yz (rng od.length);refine ⟨hw.p,hw.p,hw.sh (by decide),hw.sh (by decide),uZ _ hw.p,?_⟩;refine oZ (λh=>?_) (λ_=>q _);have h:(!same (.list ((rng od.length).map j0)) (.list ((rng od.length).map j0)))=true:=h;rw[same_self]at h;cases h
def YN:Con:=λargs Q=>∃(n:Int) (sm:Qa),args=[.fz (.int n),.fz (tupD sm)]/\0<=n/\n<=1000/\sm.length<=1000/\(rng n).filter (λw=>decide (w∈sm))=sm/\∀o,Q (.fz .none) o
def aM{f:Addr}(F:ZS K "ask_for_ways" (top 23) f fd)(T:Txt mg)(C:CalsAf P w K mg base):FnOk P w K mg base DX 3 f fd ["many","thing"] (dQ K YN):=by
 have S:FnScope ["many","thing"] ["many","thing"] (cQ (top 23)):={};refine nJ F S (λcdv A outer s H E hr=>(fQ (tZ (Du (tG (yZ (cZ (iH .tup rfl T.Qn T.Qo boot_tuple (wn 1)))) (sW (yZ (cZ (QQ C.Xm hr.m (aQ (wn 1) (aQ (wx (sQ AX (HQ (K:=K) rfl) T.Qc PySem.boot_len (aQ (wn 1) bQ))) bQ)))))))) (mQ GK) xX)
     (mQ (tZ (sZ fH (pW (K:=K) rfl hr.units) (wn 1) (wx (IQ GQ (qQ (K:=K) rfl) T.Qo boot_tuple (aQ (wx (dX rfl (own:=["way"]) (fr:=[1]) (by kernel_rfl) (oY T.QA (aQ (wn 0) bQ)) (λ_ _ _ _=>(nQ (i:=0) (by decide +kernel:V1 (["way","thing"]:List Str)) rfl (Or.inl rfl))) (λ_ _ _ _=>qO (Su rfl (wn 0) (wn 1))) (λ_ _ _ _=>(wv 0)))) bQ)))) (mQ GK) xX)))) ?_;rintro args Qd ⟨n,sm,rfl,n0,n1,hl,hf,q⟩;with_reducible refine rX (λρ=>ρ=[ZA (.int n),ZA (tupD sm)]) ?_ ?_
 .intro N hN;refine ⟨tupD sm,sm.length,?_,VY sm,hl,λo=>?_⟩
  .show [Sl.fz (tupD sm),Sl.fz (.int ((sm.map j0).length:Nat))]=_;rw[q0]
  .rw[HH];exact hN _ rfl
 rintro _ rfl;refine ⟨by lia,by lia,by rw[wX,q0,mZ];exact zQ (by lia),?_⟩;rw[wX];refine zN (λd=>decide (FH d∈sm)) id (λd hd R M hR hM=>?_) ?_
 .obtain⟨w',hw,rfl⟩:=J0.mp hd;exact ⟨sm,rfl,oZ (λh=>hR h) (λh=>hM (Bool.eq_false_iff.mpr h))⟩
 .have e:(((rng n).map j0).filter λd=>decide (FH d∈sm)).map id=sm.map j0:=by
   rw[w8,List.filter_map]
   conv=>rhs;rw[<-hf]
   rfl
  rw[e];have hw:=Zk sm;refine ⟨hw.p,hw.p,hw.sh (by decide),hw.sh (by decide),uZ _ hw.p,?_⟩;refine oZ (λh=>?_) (λ_=>q _);have h:(!same (tupD sm) (tupD sm))=true:=h;rw[same_self]at h;cases h
def ZN:Con:=λargs Q=>∃(xs od:Qa),args=[.fz (tupD xs),.fz (tupD od)]/\od.length<=1000/\xs.length=od.length/\od.Perm (rng od.length)/\∀o,Q (.fz (tupD (SK xs od))) o
def bM{f:Addr}(F:ZS K "ways_exchanged" (top 25) f fd)(T:Txt mg):FnOk P w K mg base DX 1 f fd ["numbers","order"] (dQ K ZN):=by
 have S:FnScope ["numbers","order"] ["numbers","order"] (cQ (top 25)):={};refine nJ F S (λcdv A outer s H E hr=>(mQ (BQ (IQ GQ (qQ (K:=K) rfl) T.Qo boot_tuple (aQ (wx (dX rfl (own:=["way"]) (fr:=[0,1]) (by kernel_rfl) (oY T.QA (aQ (wx (sQ AX (HQ (K:=K) rfl) T.Qc PySem.boot_len (aQ (wn 1) bQ))) bQ)) (λ_ _ _ _=>(nQ (i:=0) (by decide +kernel:V1 (["way","numbers","order"]:List Str)) rfl (Or.inl rfl))) (λ_ _ _ _=>tW) (λ_ _ _ _=>(bZ rfl (wn 1) (wx (Zx (wn 2) (wn 0))))))) bQ))))) ?_;rintro args Qd ⟨xs,od,rfl,hl,hx,hp,q⟩;have hk:((od.map j0).length:Int)=(od.length:Int):=by rw[q0]
 refine ⟨by rw[hk];lia,by rw[hk];lia,?_,?_⟩
 .rw[hk,wX,q0,mZ];exact zQ (by lia)
 rw[hk,wX];refine rZ (λd=>.int (xs.getD (od.idxOf (FH d)) 0)) (λd hd N hN=>?_) ?_
 .obtain⟨w',hw,rfl⟩:=J0.mp hd;have hm:w'∈od:=hp.mem_iff.mpr hw;have hi:od.idxOf w'<od.length:=v6.mpr hm;refine ⟨od,od.idxOf w',rfl,by rw[A0 hi,B7],λm hm=>xz hm,?_⟩;exact ⟨_,NK (by lia),hN⟩
 .have e:((rng od.length).map j0).map (λd=>j0 (xs.getD (od.idxOf (FH d)) 0))=(SK xs od).map j0:=by
   unfold SK;rw[O0,O0];rfl
  rw[e];exact q _
def aw:Con:=λargs Q=>∃(sd p sm:Qa),args=[.fz (tupD sd),.fz (tupD p),.fz (tupD sm)]/\p.length=sd.length/\p.length<=1000/\∀o,Q (.fz (tupD (uQ sd p sm))) o
def FE{f:Addr}(F:ZS K "place_mirrored" (top 27) f fd)(T:Txt mg):FnOk P w K mg base DX 1 f fd ["sides","place","some"] (dQ K aw):=by
 have S:FnScope ["sides","place","some","last"] ["sides","place","some"] (cQ (top 27)):={};refine nJ F S (λcdv A outer s H E hr=>(fQ (mE (i:=3) S.nd rfl (Or.inr rfl) (dX rfl (own:=["side"]) (fr:=[]) (by kernel_rfl) (LX rfl (wv 0)) (λ_ _ _ _=>(nQ (i:=0) (by decide +kernel:V1 (["side"]:List Str)) rfl (Or.inl rfl))) (λ_ _ _ _=>tW) (λ_ _ _ _=>(w_bin RX NX (wn 0) (wx iQ)))))
     (mQ (BQ (IQ GQ (qQ (K:=K) rfl) T.Qo boot_tuple (aQ (wx (dX rfl (own:=["way","number"]) (fr:=[2,3]) (by kernel_rfl) (Ix rfl T.QO (aQ (wn 1) bQ)) (λ_ _ _ _=>(AZ rfl rfl (yQ (nQ (i:=0) (by decide +kernel:V1 (["way","number","some","last"]:List Str)) rfl (Or.inl rfl)) (yQ (nQ (i:=1) (by decide +kernel:V1 (["way","number","some","last"]:List Str)) rfl (Or.inl rfl)) SX)))) (λ_ _ _ _=>tW) (λ_ _ _ _=>(kL (Su rfl (wn 0) (wn 2)) (w_bin RX NX (wx (bZ rfl (wn 3) (wn 0))) (wn 1)) (wv 1))))) bQ)))))) ?_;rintro args Qd ⟨sd,p,sm,rfl,hpl,hl,q⟩;with_reducible refine rX (λρ=>ρ=[ZA (tupD sd),ZA (tupD p),ZA (tupD sm),YA (.list ((sd.map λs=>s-1).map j0))]) ?_ ?_
 .intro N hN;refine ⟨by rw[q0];exact zQ (by lia),rZ (λd=>.int (FH d-1)) (λd hd R hR=>?_) ?_⟩
  .obtain⟨i,_,rfl⟩:=J0.mp hd;exact hR
  .have e:((sd.map j0).map λd=>j0 (FH d-1))=(sd.map λs=>s-1).map j0:=by rw[O0,O0];rfl
   rw[e];exact hN _ rfl
 rintro _ rfl;refine ⟨?_,rZ (YL sd sm) (λd hd R hR=>?_) ?_⟩
 .unfold vZ;rw[q0,N5,q0];exact zQ hl
 .obtain⟨⟨u,i⟩,hu,rfl⟩:=J0.mp hd;obtain⟨_,hi,e⟩:=List.mem_zipIdx hu;rw[q0]at hi;have hi:i<p.length:=by lia
  have hi2:i<sd.length:=by lia
  obtain⟨x,rfl⟩:∃x,u=.int x:=⟨p[i],by rw[e];simp⟩;have ea:NY ((sd.map λs=>s-1).map j0) (i:Int)=some (.int (sd.getD i 0-1)):=by rw[NK (by rw[q0];exact hi2)];simp[G0,hi2]
  have hR:R (.int (if (i:Int)∈sm then sd.getD ((i:Nat):Int).toNat 0-1-x else x)) _:=hR;rw[show ((i:Nat):Int).toNat=i from rfl]at hR;refine ⟨rfl,sm,rfl,?_⟩;refine oZ (λh=>?_) (λh=>?_)
  .have h:decide ((i:Int)∈sm)=true:=h;rw[if_pos (of_decide_eq_true h)]at hR;exact ⟨_,ea,hR⟩
  .have h:¬decide ((i:Int)∈sm)=true:=h;rw[if_neg λz=>h (decide_eq_true z)]at hR;exact hR
 .have e:(vZ (p.map j0)).map (YL sd sm)=(uQ sd p sm).map j0:=by
   unfold vZ uQ;rw[List.zipIdx_map,O0,O0,O0];refine M3 λq _=>?_;show j0 (if (q.2:Int)∈sm then sd.getD ((q.2:Nat):Int).toNat 0-1-q.1 else q.1)=_;rfl
  rw[e];exact q _
noncomputable def CU:PyData->Qa
 | .tuple ds=>ds.map FH
 |_=>[]
def ZX(p:Qa):CU (tupD p)=p:=by show (p.map j0).map FH=p;rw[O0];exact w8 p
noncomputable def GU(q od:Qa):Qa:=od.map λw=>q.getD w.toNat 0
theorem bw:∀{p sd:Qa},p.length=sd.length->(∀k,k<sd.length->0<=p.getD k 0/\p.getD k 0<sd.getD k 0)->Wi p sd
 |[],[],_,_=>trivial
 |x::p,s::sd,hl,h=>⟨h 0 (by simp),bw (by simpa using hl) λk hk=>h (k+1) (by simpa using hk)⟩
 |[],_::_,hl,_=>by simp at hl
 |_::_,[],hl,_=>by simp at hl
theorem cw:∀{p sd:Qa},Wi p sd->∀k,k<sd.length->0<=p.getD k 0/\p.getD k 0<sd.getD k 0
 |[],[],_,k,hk=>by simp at hk
 |x::p,s::sd,h,0,_=>h.1
 |x::p,s::sd,h,k+1,hk=>cw h.2 k (by simpa using hk)
 |[],_::_,h,_,_=>h.elim
 |_::_,[],h,_,_=>h.elim
def SV(n:Int):(rng n).Nodup:=by unfold rng;rw[F7,x5];exact List.pairwise_lt_range.imp λh=>by lia
structure Ord(n:Nat)(od:Qa):Prop where
 l:od.length=n
 p:od.Perm (rng od.length)
def Ord.nd(h:Ord n od):od.Nodup:=(h.p.nodup_iff).mpr (SV _)
def Ord.b(h:Ord n od){w:Int}(hw:w∈od):0<=w/\w<n:=by have:=yD (h.p.mem_iff.mp hw);rw[h.l]at this;exact this
def Ord.ix(h:Ord n od){k:Nat}(hk:k<od.length):od.idxOf od[k]=k:=by have h1:od.idxOf od[k]<od.length:=v6.mpr (N2 hk);exact (U6 (i:=od.idxOf od[k]) (j:=k) (h₀:=h1) (h₁:=hk) h.nd).mp (B7 h1)
def Yy{xs:Qa}(h:Ord xs.length od):(SK xs od).Perm xs:=by
 have e:od.map (λw=>xs.getD (od.idxOf w) 0)=xs:=by refine Y6 (by rw[q0];exact h.l) λk h1 h2=>?_;rw[q0]at h1;rw[Y4,h.ix h1,G0,A0 h2];rfl
 have:=(h.p.symm.map λw=>xs.getD (od.idxOf w) 0);rw[e]at this;exact this
def oF{a b:Qa}(h:a.Perm b):CQ a=CQ b:=by
 induction h with
 |nil=>rfl
 |cons x _ ih=>show x*_=x*_;rw[ih]
 |swap x y l=>show y*(x*CQ l)=x*(y*CQ l);rw[Int.mul_left_comm]
 |trans _ _ h1 h2=>rw[h1,h2]
def Sd.we(hs:Sd sd)(h:Ord sd.length od):Sd (SK sd od):=by have hp:=Yy h;have hl:=hp.length_eq;exact ⟨by rw[hl];exact hs.l1,by rw[hl];exact hs.l3,λc hc=>hs.p c (hp.mem_iff.mp hc),by rw[oF hp];exact hs.m⟩
def JJ(xs od:Qa):(SK xs od).length=od.length:=by unfold SK;rw[q0,mZ];lia
def LD{xs:Qa}{k:Nat}(hk:k<od.length):(SK xs od).getD k 0=xs.getD (od.idxOf (k:Int)) 0:=by unfold SK rng;rw[G0,Q0,Q0,List.getElem?_range (by lia)];rfl
def y9{q:Qa}(h:Ord sd.length od)(hq:Wi q (SK sd od)):Wi (GU q od) sd:=by
 refine bw (by unfold GU;rw[q0];exact h.l) λk hk=>?_;have hk2:k<od.length:=by rw[h.l];exact hk
 have hb:=h.b (N2 hk2);have hw:od[k].toNat<od.length:=by have:=h.l;lia
 have e1:(GU q od).getD k 0=q.getD od[k].toNat 0:=by unfold GU;rw[G0,Q0,A0 hk2];rfl
 have h2:=cw hq od[k].toNat (by rw[JJ];exact hw);rw[LD hw,show ((od[k].toNat:Nat):Int)=od[k] by lia,h.ix hk2]at h2;rw[e1];exact h2
def vQ(sd p sm:Qa):(uQ sd p sm).length=p.length:=by unfold uQ;rw[q0,N5]
def YX{k:Nat}(hk:k<p.length):(uQ sd p sm).getD k 0=if (k:Int)∈sm then sd.getD k 0-1-p.getD k 0 else p.getD k 0:=by unfold uQ;rw[G0,Q0,e7,G0 (l:=p),A0 hk];simp
def dw(h:Wi p sd):Wi (uQ sd p sm) sd:=by have hl:=oK h;refine bw (by rw[vQ];exact hl) λk hk=>?_;have:=cw h k hk;rw[YX (by lia)];split<;>lia
def aO:TD:=eY [Sum.inr (nY (OF (rj 1)) ["way"] [0] (UE 0) eG (eY [Sum.inl 1,Sum.inl 0] (o2 rN)))] (o1 Fj)
noncomputable def Zy(x:Str):Option TD:=if x = "exchanged" then some aO else if x = "mirrored" then some (xV aw [.inl 2,.inl 0,.inl 1]) else none
variable (P w K mg base) in
structure CalsLa:Prop where
 XO:Cal P w K mg base 1 "place_mirrored" ["sides","place","some"] (dQ K aw)
structure LamF(K:B0):Prop where
 XR:yK K "exchanged"=vq (aX (top 26))
 XS:yK K "mirrored"=vq (aX (top 28))
def au(M:LamF K)(T:Txt mg):LamK P w K mg base 1 "exchanged" aO:=by refine ⟨"place",["order"],_,_,_,M.XR.trans rfl,rfl,.inr ⟨rfl,rfl,rfl,rfl,by decide +kernel,by decide +kernel,by decide +kernel,by decide,by decide,λ_ _=>rfl,λ_=>rfl⟩,λcl pm ctv c u=>rfl,λcl f c A outer s H hr=>(IQ GQ (qQ (K:=K) rfl) T.Qo boot_tuple (aQ (wx (dX rfl (own:=["way"]) (fr:=[0]) (by kernel_rfl) (LX rfl (wv 1)) (λ_ _ _ _=>(nQ (i:=0) (by decide +kernel:V1 (["way","place"]:List Str)) rfl (Or.inl rfl))) (λ_ _ _ _=>tW) (λ_ _ _ _=>(bZ rfl (wn 1) (wn 0))))) bQ))⟩
def bu(M:LamF K)(C:CalsLa P w K mg base):LamK P w K mg base 1 "mirrored" (xV aw [.inl 2,.inl 0,.inl 1]):=by refine ⟨"place",["some","sides"],_,_,_,M.XS.trans rfl,rfl,.inl ⟨rfl,rfl,rfl,by decide +kernel,rfl,by decide +kernel,by decide +kernel,by decide⟩,λcl pm ctv c u=>rfl,λcl f c A outer s H hr=>(QQ C.XO hr.m (aQ (wn 2) (aQ (wn 0) (aQ (wn 1) bQ))))⟩
def GE(M:LamF K)(C:CalsLa P w K mg base)(T:Txt mg):VOk P w K mg base 2 (dQ K (TC Zy)):=ON λx tb h=>by
 unfold Zy at h;split at h
 .rename_i e;cases h;rw[e];exact au M T
 .split at h
  .rename_i e;cases h;rw[e];exact bu M C
  .cases h
variable (P w K mg base) in
structure CalsFf:Prop where
 XT:Cal P w K mg base 1 "product" ["numbers"] (dQ K v9)
 Za:Cal P w K mg base 3 "all_places" ["sides"] (dQ K OW)
 Zb:Cal P w K mg base 2 "cell_at" ["field","place"] (dQ K vO)
 vok:VOk P w K mg base 2 (dQ K (TC Zy))
def bO:Con:=λargs Q=>∃(sd cl sd2:Qa) (x:Str) (es:List PyData) (g:Qa->Qa),args=[.fz (lJ sd cl),.fz (tupD sd2),.fz (dG x es)]/\Sd sd/\cl.length=(nZ sd).length/\Sd sd2/\noMutAll es=true /\
 (∀p∈nZ sd2,Wi (g p) sd/\∃tb,Zy x=some tb/\∀R:Sl->Prop,R (.fz (tupD (g p)))->tb (((tupD p::es).map Sl.fz).map some) λr _=>R r)/\∀o,Q (.fz (lJ sd2 ((nZ sd2).map λp=>iK sd cl (g p)))) o
def cM{f:Addr}(F:ZS K "field_from" (top 24) f fd)(T:Txt mg)(C:CalsFf P w K mg base):FnOk P w K mg base DX 4 f fd ["field","sides","source"] (dQ K bO):=by
 have S:FnScope ["field","sides","source"] ["field","sides","source"] (cQ (top 24)):={};refine nJ F S (λcdv A outer s H E hr=>(fQ (tZ (sZ SF tF (wx (QQ C.XT hr.m (aQ (wn 1) bQ))) (wx (GC T.Qb))) (mQ GK) xX)
     (mQ (BQ (xZ (aQ (wx (wv 1)) (aQ (wx (IQ GQ (qQ (K:=K) rfl) T.Qo boot_tuple (aQ (wx (dX rfl (own:=["place"]) (fr:=[0,2]) (by kernel_rfl) (LX rfl (QQ C.Za hr.m (aQ (wn 1) bQ))) (λ_ _ _ _=>(nQ (i:=0) (by decide +kernel:V1 (["place","field","source"]:List Str)) rfl (Or.inl rfl))) (λ_ _ _ _=>tW) (λ_ _ _ _=>(QQ C.Zb hr.m (aQ (wn 1) (aQ (wx (zy C.vok hr.m (wn 2) (aQ (wn 0) bQ))) bQ)))))) bQ))) bQ))))))) ?_;rintro args Qd ⟨sd,cl,sd2,x,es,g,rfl,hsd,hcl,hsd2,hes,hg,q⟩;have h3:=hsd2.l3;have hm:=hsd2.m;have hpl:=iJ hsd2.p;have hs2:∀c∈sd2,0<=c/\c<2 ^ 60:=λc hc=>by
  have:=hsd2.p c hc;have:=QZ hsd2.p c hc;lia
 with_reducible refine rX (λρ=>ρ=[ZA (lJ sd cl),ZA (tupD sd2),ZA (dG x es)]) ?_ ?_
 .intro N hN;refine ⟨sd2,rfl,hs2,λo=>?_⟩;refine oZ (λh=>?_) (λh=>hN _ rfl);have h:decide ((120:Int)<CQ sd2)=true:=h;have:=of_decide_eq_true h;lia
 rintro _ rfl;refine ⟨sd2,rfl,hsd2,λo=>?_⟩;refine ⟨by rw[q0];exact zQ (by lia),rZ (λd=>.int (iK sd cl (g (CU d)))) (λd hd N hN=>?_) ?_⟩
 .obtain⟨p,hp,rfl⟩:=J0.mp hd;obtain⟨hw,tb,ht,htb⟩:=hg p hp;have e:CU (tupD p)=p:=ZX p;rw[e]at hN;refine ⟨x,es,tupD p,tb,rfl,ht,LQ p,hes,htb (λr=>noMut r.d=true/\∀o,_) ⟨LQ (g p),λo=>?_⟩⟩;exact ⟨sd,cl,g p,rfl,hsd,hcl,hw,λo=>hN⟩
 .have e:((nZ sd2).map tupD).map (λd=>j0 (iK sd cl (g (CU d))))=((nZ sd2).map λp=>iK sd cl (g p)).map j0:=by
   rw[O0,O0];refine M3 λp _=>?_;show j0 (iK sd cl (g (CU (tupD p))))=_;rw[ZX];rfl
  rw[e];exact q _
noncomputable def dM(f:Int->Int->Int):PyData->PyData
 | .tuple [.int a,.int b]=>.int (f a b)
 |_=>.none
def MD(f:Int->Int->Int)(xs fs:Qa):(BX (xs.map j0) (fs.map j0)).map (dM f)=((xs.zip fs).map λp=>f p.1 p.2).map j0:=by rw[qX,O0,O0];rfl
def HE{xs fs:Qa}{d:PyData}(h:d∈BX (xs.map j0) (fs.map j0)):∃a∈xs,∃b∈fs,d=.tuple [.int a,.int b]:=by rw[qX]at h;obtain⟨u,hu,rfl⟩:=J0.mp h;exact ⟨u.1,(o5 hu).1,u.2,(o5 hu).2,rfl⟩
def DU(a b:Qa):noMut (.tuple [tupD a,tupD b])=true:=by show (noMut (tupD a)&&(noMut (tupD b)&&true))=true;rw[show ∀l:Qa,noMut (tupD l)=true from λl=>LQ l,show ∀l:Qa,noMut (tupD l)=true from λl=>LQ l];rfl
variable (P w K mg base) in
structure CalsEx:Prop where
 Zc:Cal P w K mg base 3 "ask_for_order" ["many","thing"] (dQ K XN)
 Zd:Cal P w K mg base 1 "ways_exchanged" ["numbers","order"] (dQ K ZN)
 Ze:Cal P w K mg base 4 "field_from" ["field","sides","source"] (dQ K bO)
def wO:Con:=λargs Q=>∃sd cl od:Qa,args=[.fz (lJ sd cl),.fz (tupD od)]/\Sd sd/\cl.length=(nZ sd).length/\Ord sd.length od/\∀o,Q (.fz (lJ (SK sd od) ((nZ (SK sd od)).map λq=>iK sd cl (GU q od)))) o
def eM{f:Addr}(F:ZS K "exchanged" (top 26) f fd)(T:Txt mg)(C:CalsEx P w K mg base)(N:LamF K)(M:Lm K "exchanged" fd):FnOk P w K mg base DX 5 f fd ["field","order"] (dQ K wO):=by
 have S:FnScope ["field","order","sides"] ["field","order"] (cQ (top 26)):={};have hL:=N.XR;obtain⟨c,Pt,hcd,hC,hP,hPx⟩:=M.ex;refine LL F hcd S (λA outer s H E hr=>(fQ (zs 2 S.nd (bZ rfl (wn 0) (wx iQ)))
     (fQ (WX (QQ C.Zc hr.m (aQ (wx (sQ AX (HQ (K:=K) rfl) T.Qc PySem.boot_len (aQ (wn 2) bQ))) (aQ (wn 1) bQ))))
     (mQ (BQ (Ay (x:="exchanged") (z:="order") (i:=1) (cz:=s.heap.objs.size+1) rfl C.Ze hr.m (wn 0) (wx (QQ C.Zd hr.m (aQ (wn 2) (aQ (wn 1) bQ)))) rfl (show (Str.ofString "exchanged"++Str.ofString ".<locals>.")++Str.ofString "<lambda>"=Str.ofString "exchanged"++Str.ofString ".<locals>.<lambda>" from by decide +kernel) hC hP hPx hL)))))) ?_;rintro args Qd ⟨sd,cl,od,rfl,hsd,hcl,ho,q⟩;have h3:=hsd.l3;have hol:=ho.l;with_reducible refine rX (λρ=>ρ=[ZA (lJ sd cl),ZA (tupD od),ZA (tupD sd)]) ?_ ?_
 .intro N hN;exact ⟨_,rfl,hN _ rfl⟩
 rintro _ rfl;with_reducible refine rX (λρ=>ρ=[ZA (lJ sd cl),ZA (tupD od),ZA (tupD sd)]) ?_ ?_
 .intro N hN;refine ⟨od,?_,by lia,ho.p,λo=>hN _ rfl⟩;show [Sl.fz (.int ((sd.map j0).length:Nat)),Sl.fz (tupD od)]=_;rw[q0,<-hol]
 rintro _ rfl;refine ⟨[tupD od],rfl,?_⟩;refine ⟨sd,od,rfl,by lia,by lia,ho.p,λo=>?_⟩;refine ⟨rfl,sd,cl,SK sd od,"exchanged",[tupD od],λp=>GU p od,rfl,hsd,hcl,hsd.we ho,by show (noMut (tupD od)&&true)=true;rw[t6];exact LQ od,λp hp=>?_,λo=>⟨DU _ _,q _⟩⟩;have hw:=sY hp;have hpl:=oK hw;rw[JJ]at hpl;refine ⟨y9 ho hw,aO,rfl,λR hR=>?_⟩;refine ⟨by rw[q0];exact zQ (by lia),rZ (λd=>.int (p.getD (FH d).toNat 0)) (λd hd N hN=>?_) ?_⟩
 .obtain⟨w',hw',rfl⟩:=J0.mp hd;have hb:=ho.b hw';have e:NY (p.map j0) w'=some (.int (p.getD w'.toNat 0)):=by
   have:=NK (xs:=p) (i:=w'.toNat) (by lia);rw[show ((w'.toNat:Nat):Int)=w' by lia]at this;exact this
  exact ⟨_,e,hN⟩
 .have e:(od.map j0).map (λd=>j0 (p.getD (FH d).toNat 0))=(GU p od).map j0:=by
   unfold GU;rw[O0,O0];rfl
  rw[e];exact hR
variable (P w K mg base) in
structure CalsMi:Prop where
 Zf:Cal P w K mg base 3 "ask_for_ways" ["many","thing"] (dQ K YN)
 Ze:Cal P w K mg base 4 "field_from" ["field","sides","source"] (dQ K bO)
def RM(n:Nat)(sm:Qa):Prop:=sm.length<=1000/\(rng n).filter (λw=>decide (w∈sm))=sm
def xO:Con:=λargs Q=>∃sd cl sm:Qa,args=[.fz (lJ sd cl),.fz (tupD sm)]/\Sd sd/\cl.length=(nZ sd).length/\RM sd.length sm/\∀o,Q (.fz (lJ sd ((nZ sd).map λq=>iK sd cl (uQ sd q sm)))) o
def fM{f:Addr}(F:ZS K "mirrored" (top 28) f fd)(T:Txt mg)(C:CalsMi P w K mg base)(N:LamF K)(M:Lm K "mirrored" fd):FnOk P w K mg base DX 5 f fd ["field","some"] (dQ K xO):=by
 have S:FnScope ["field","some","sides"] ["field","some"] (cQ (top 28)):={};have hL:=N.XS;obtain⟨c,Pt,hcd,hC,hP,hPx⟩:=M.ex;refine LL F hcd S (λA outer s H E hr=>(fQ (Uj (i:=2) S.nd rfl (Or.inr rfl) (bZ rfl (wn 0) (wx iQ)))
     (fQ (WX (QQ C.Zf hr.m (aQ (wx (sQ AX (HQ (K:=K) rfl) T.Qc PySem.boot_len (aQ (wn 2) bQ))) (aQ (wn 1) bQ))))
     (mQ (BQ (yx (x:="mirrored") (z:="some") (z2:="sides") (i:=1) (i2:=2) (cz:=s.heap.objs.size+1) (cz2:=s.heap.objs.size+2) rfl C.Ze hr.m (wn 0) (wn 2) rfl (show (Str.ofString "mirrored"++Str.ofString ".<locals>.")++Str.ofString "<lambda>"=Str.ofString "mirrored"++Str.ofString ".<locals>.<lambda>" from by decide +kernel) hC hP hPx hL (by simp))))))) ?_;rintro args Qd ⟨sd,cl,sm,rfl,hsd,hcl,hs,q⟩;have h3:=hsd.l3;with_reducible refine rX (λρ=>ρ=[ZA (lJ sd cl),ZA (tupD sm),ZA (tupD sd)]) ?_ ?_
 .intro N hN;exact ⟨_,rfl,hN _ rfl⟩
 rintro _ rfl;with_reducible refine rX (λρ=>ρ=[ZA (lJ sd cl),ZA (tupD sm),ZA (tupD sd)]) ?_ ?_
 .intro N hN;refine ⟨sd.length,sm,?_,by lia,by lia,hs.1,hs.2,λo=>hN _ rfl⟩;show [Sl.fz (.int ((sd.map j0).length:Nat)),Sl.fz (tupD sm)]=_;rw[q0]
 rintro _ rfl;refine ⟨[tupD sm,tupD sd],rfl,?_⟩;refine ⟨rfl,sd,cl,sd,"mirrored",[tupD sm,tupD sd],λp=>uQ sd p sm,rfl,hsd,hcl,hsd,?_,λp hp=>?_,λo=>⟨DU _ _,q _⟩⟩
 .show (noMut (tupD sm)&&(noMut (tupD sd)&&true))=true;rw[show ∀l:Qa,noMut (tupD l)=true from λl=>LQ l,show ∀l:Qa,noMut (tupD l)=true from λl=>LQ l];rfl
 .have hw:=sY hp;have hpl:=oK hw;refine ⟨dw hw,_,rfl,λR hR=>?_⟩;exact ⟨sd,p,sm,rfl,hpl,by lia,λo=>hR⟩
variable (P w K mg base) in
structure CalsBe:Prop where
 Zc:Cal P w K mg base 3 "ask_for_order" ["many","thing"] (dQ K XN)
 Zg:Cal P w K mg base 5 "ask_for_box" ["sides","thing"] (dQ K AE)
 Zd:Cal P w K mg base 1 "ways_exchanged" ["numbers","order"] (dQ K ZN)
def yO:Con:=λargs Q=>∃sd lo hi od:Qa,args=[.fz (tupD sd),.fz (wz lo hi),.fz (tupD od)]/\Sd sd/\Bx lo hi sd/\Ord sd.length od/\∀o,Q (.fz (wz (SK lo od) (SK hi od))) o
def gM{f:Addr}(F:ZS K "box_exchanged" (top 29) f fd)(T:Txt mg)(C:CalsBe P w K mg base):FnOk P w K mg base DX 6 f fd ["sides","box","order"] (dQ K yO):=by
 have S:FnScope ["sides","box","order"] ["sides","box","order"] (cQ (top 29)):={};refine nJ F S (λcdv A outer s H E hr=>(fQ (WX (QQ C.Zc hr.m (aQ (wx (sQ AX (HQ (K:=K) rfl) T.Qc PySem.boot_len (aQ (wn 0) bQ))) (aQ (wn 2) bQ))))
     (fQ (WX (QQ C.Zg hr.m (aQ (wn 0) (aQ (wn 1) bQ))))
     (mQ (BQ (xZ (aQ (wx (QQ C.Zd hr.m (aQ (wx (bZ rfl (wn 1) (wx iQ))) (aQ (wn 2) bQ)))) (aQ (wx (QQ C.Zd hr.m (aQ (wx (bZ rfl (wn 1) (wx iQ))) (aQ (wn 2) bQ)))) bQ)))))))) ?_;rintro args Qd ⟨sd,lo,hi,od,rfl,hsd,hb,ho,q⟩;have h3:=hsd.l3;have hol:=ho.l;obtain⟨l1,l2⟩:=IZ hb;with_reducible refine rX (λρ=>ρ=[ZA (tupD sd),ZA (wz lo hi),ZA (tupD od)]) ?_ ?_
 .intro N hN;refine ⟨od,?_,by lia,ho.p,λo=>hN _ rfl⟩;show [Sl.fz (.int ((sd.map j0).length:Nat)),Sl.fz (tupD od)]=_;rw[q0,<-hol]
 rintro _ rfl;with_reducible refine rX (λρ=>ρ=[ZA (tupD sd),ZA (wz lo hi),ZA (tupD od)]) ?_ ?_
 .intro N hN;exact ⟨sd,_,rfl,Vk lo hi,by lia,JD hb,λo=>hN _ rfl⟩
 rintro _ rfl;refine ⟨_,rfl,lo,od,rfl,by lia,by lia,ho.p,λo=>?_⟩;exact ⟨_,rfl,hi,od,rfl,by lia,by lia,ho.p,λo=>q _⟩
variable (P w K mg base) in
structure CalsBm:Prop where
 Zf:Cal P w K mg base 3 "ask_for_ways" ["many","thing"] (dQ K YN)
 Zg:Cal P w K mg base 5 "ask_for_box" ["sides","thing"] (dQ K AE)
 XO:Cal P w K mg base 1 "place_mirrored" ["sides","place","some"] (dQ K aw)
noncomputable def ww(a b:Qa):Qa:=(a.zip b).map λp=>min p.1 p.2
noncomputable def zw(a b:Qa):Qa:=(a.zip b).map λp=>max p.1 p.2
def AO:Con:=λargs Q=>∃sd lo hi sm:Qa,args=[.fz (tupD sd),.fz (wz lo hi),.fz (tupD sm)]/\Sd sd/\Bx lo hi sd/\RM sd.length sm/\∀o,Q (.fz (wz (ww (uQ sd lo sm) (uQ sd hi sm)) (zw (uQ sd lo sm) (uQ sd hi sm)))) o
def iM{f:Addr}(F:ZS K "box_mirrored" (top 30) f fd)(T:Txt mg)(C:CalsBm P w K mg base):FnOk P w K mg base DX 6 f fd ["sides","box","some"] (dQ K AO):=by
 have S:FnScope ["sides","box","some","ends","pairs"] ["sides","box","some"] (cQ (top 30)):={};refine nJ F S (λcdv A outer s H E hr=>(fQ (WX (QQ C.Zf hr.m (aQ (wx (sQ AX (HQ (K:=K) rfl) T.Qc PySem.boot_len (aQ (wn 0) bQ))) (aQ (wn 2) bQ))))
     (fQ (WX (QQ C.Zg hr.m (aQ (wn 0) (aQ (wn 1) bQ))))
     (fQ (vG (i:=3) S.nd rfl rfl rfl (own:=["place"]) (fr:=[0,2]) (by kernel_rfl) (LX rfl (wv 1)) (λ_ _ _ _=>(nQ (i:=0) (by decide +kernel:V1 (["place","sides","some"]:List Str)) rfl (Or.inl rfl))) (λ_ _ _ _=>tW) (λ_ _ _ _=>(QQ C.XO hr.m (aQ (wn 1) (aQ (wn 0) (aQ (wn 2) bQ))))))
     (fQ (zs 4 S.nd (EN rfl rfl T.Qr T.QP (aQ (wx (bZ rfl (wn 3) (wx iQ))) (aQ (wx (bZ rfl (wn 3) (wx iQ))) bQ))))
     (mQ (BQ (xZ (aQ (wx (IQ GQ (qQ (K:=K) rfl) T.Qo boot_tuple (aQ (wx (dX rfl (own:=["pair"]) (fr:=[]) (by kernel_rfl) (LX rfl (wv 4)) (λ_ _ _ _=>(nQ (i:=0) (by decide +kernel:V1 (["pair"]:List Str)) rfl (Or.inl rfl))) (λ_ _ _ _=>tW) (λ_ _ _ _=>(sQ IC (ax (K:=K) rfl rfl) T.Qg boot_min (aQ (wn 0) bQ))))) bQ))) (aQ (wx (IQ GQ (qQ (K:=K) rfl) T.Qo boot_tuple (aQ (wx (dX rfl (own:=["pair"]) (fr:=[]) (by kernel_rfl) (LX rfl (wv 4)) (λ_ _ _ _=>(nQ (i:=0) (by decide +kernel:V1 (["pair"]:List Str)) rfl (Or.inl rfl))) (λ_ _ _ _=>tW) (λ_ _ _ _=>(sQ JC (bx (K:=K) rfl rfl) T.Qh boot_max (aQ (wn 0) bQ))))) bQ))) bQ)))))))))) ?_;rintro args Qd ⟨sd,lo,hi,sm,rfl,hsd,hb,hs,q⟩;have h3:=hsd.l3;obtain⟨l1,l2⟩:=IZ hb;with_reducible refine rX (λρ=>ρ=[ZA (tupD sd),ZA (wz lo hi),ZA (tupD sm),none,none]) ?_ ?_
 .intro N hN;refine ⟨sd.length,sm,?_,by lia,by lia,hs.1,hs.2,λo=>hN _ rfl⟩;show [Sl.fz (.int ((sd.map j0).length:Nat)),Sl.fz (tupD sm)]=_;rw[q0]
 rintro _ rfl;with_reducible refine rX (λρ=>ρ=[ZA (tupD sd),ZA (wz lo hi),ZA (tupD sm),none,none]) ?_ ?_
 .intro N hN;exact ⟨sd,_,rfl,Vk lo hi,by lia,JD hb,λo=>hN _ rfl⟩
 rintro _ rfl;with_reducible refine rX (λρ=>ρ=[ZA (tupD sd),ZA (wz lo hi),ZA (tupD sm),YA (.list [tupD (uQ sd lo sm),tupD (uQ sd hi sm)]),none]) ?_ ?_
 .intro N hN;refine ⟨by show 2<=sizeLine;decide,rZ (λd=>tupD (uQ sd (CU d) sm)) (λd hd R hR=>?_) ?_⟩
  .simp only[Y0,K5,or_false]at hd;rcases hd with rfl|rfl
   .have hR:R (tupD (uQ sd (CU (tupD lo)) sm)) _:=hR;rw[ZX]at hR;exact ⟨sd,lo,sm,rfl,l1,by lia,λo=>hR⟩
   .have hR:R (tupD (uQ sd (CU (tupD hi)) sm)) _:=hR;rw[ZX]at hR;exact ⟨sd,hi,sm,rfl,l2,by lia,λo=>hR⟩
  .have e:[tupD lo,tupD hi].map (λd=>tupD (uQ sd (CU d) sm))=[tupD (uQ sd lo sm),tupD (uQ sd hi sm)]:=by
    show [tupD (uQ sd (CU (tupD lo)) sm),tupD (uQ sd (CU (tupD hi)) sm)]=_;rw[ZX,ZX]
   rw[e];exact hN _ rfl
 rintro _ rfl;generalize ha:uQ sd lo sm=a at q;generalize hb':uQ sd hi sm=b at q;have la:a.length=sd.length:=by rw[<-ha,vQ];exact l1
 have lb:b.length=sd.length:=by rw[<-hb',vQ];exact l2
 with_reducible refine rX (λρ=>ρ=[ZA (tupD sd),ZA (wz lo hi),ZA (tupD sm),YA (.list [tupD a,tupD b]),YA (.list (BX (a.map j0) (b.map j0)))]) ?_ ?_
 .intro N hN;exact ⟨_,rfl,_,rfl,a.map j0,b.map j0,rfl,rfl,hN _ rfl⟩
 rintro _ rfl;have hz:(BX (a.map j0) (b.map j0)).length<=sizeLine:=by rw[qX,q0,P2];exact zQ (by lia)
 have on_min:(BX (a.map j0) (b.map j0)).map (dM min)=(ww a b).map j0:=MD _ _ _;have on_max:(BX (a.map j0) (b.map j0)).map (dM max)=(zw a b).map j0:=MD _ _ _;refine ⟨hz,rZ (dM min) (λd hd R hR=>?_) ?_⟩
 .obtain⟨x,hx,y,hy,rfl⟩:=HE hd;refine ⟨[x,y],rfl,by simp,λM h1 h2=>?_⟩;have e:min x y=M:=by
   have g1:=h2 x (by simp);have g2:=h2 y (by simp);simp only[Y0,K5,or_false]at h1;lia
  have hR:R (.int (min x y)) _:=hR;rw[e]at hR;exact hR
 .rw[on_min];refine ⟨hz,rZ (dM max) (λd hd R hR=>?_) ?_⟩
  .obtain⟨x,hx,y,hy,rfl⟩:=HE hd;refine ⟨[x,y],rfl,by simp,λM h1 h2=>?_⟩;have e:max x y=M:=by
    have g1:=h2 x (by simp);have g2:=h2 y (by simp);simp only[Y0,K5,or_false]at h1;lia
   have hR:R (.int (max x y)) _:=hR;rw[e]at hR;exact hR
  .rw[on_max];exact q _
def pF:∀{sm l:Qa},sm.Sublist l->l.Nodup->l.filter (λw=>decide (w∈sm))=sm:=by
 intro sm l h;induction h with
 |slnil=>intro _;rfl
 |cons a h ih=>intro nd;rw[T3]at nd;rw[List.filter_cons_of_neg (by simpa using λz=>nd.1 (h.subset z)),ih nd.2]
 |@cons_cons l₁ l₂ a h ih =>
  intro nd;rw[T3]at nd;rw[List.filter_cons_of_pos (by simp)];congr 1
  conv=>rhs;rw[<-ih nd.2]
  refine List.filter_congr λx hx=>decide_eq_decide.mpr ?_;rw[Y0];exact ⟨λz=>z.resolve_left λe=>nd.1 (by rw[<-e];exact hx),.inr⟩
def fw{n:Int}{dn rs:Qa}{x:Int}(h:rng n=dn++x::rs):x=(dn.length:Int):=by
 have e:(rng n)[dn.length]?=(dn++x::rs)[dn.length]?:=by rw[h]
 rw[P1 (M0 _),Y8]at e;unfold rng at e;rw[Q0]at e;cases z:(K2 n.toNat)[dn.length]? with
 |none=>rw[z]at e;cases e
 |some k=>rw[z]at e;have e2:=S0.mp z;obtain⟨h1,h2⟩:=e2;rw[List.getElem_range]at h2;have e:some ((k:Nat):Int)=some x:=e;injection e with e;lia
def jM:Con:=λargs Q=>∃(ns:Qa) (k l:Int) (n:Nat),args=[.io (JX ns k l),.fz (.int n)]/\0<=k/\0<=l/\n<=3/\∀(od:Qa) (k' l':Int) (o:Ev),Ord n od->0<=k'->0<=l'->Q (.fz (tupD od)) (some (.io (JX ns k' l'))::o)
def IE{f:Addr}(F:ZS K "_law_order" (top 42) f fd)(T:Txt mg)(C:CalsB P w K mg base):FnOk P w K mg base DX 2 f fd ["_law_pen_here","_law_ways"] (dQ K jM):=by
 have S:FnScope ["_law_pen_here","_law_ways","_law_found","_law_way"] ["_law_pen_here","_law_ways"] (cQ (top 42)):={};refine nJ F S (λcdv A outer s H E hr=>(fQ (zs 2 S.nd (MZ bQ))
     (fQ (BZ [3] PassesOwn.never rfl (oY T.QA (aQ (wn 1) bQ)) (nQ (i:=3) S.nd rfl (Or.inl rfl)) (mQ (WX (VE Fq rfl PySem.F.slot_list_insert PySem.F.type_list_insert tq (wn 2) (aQ (wx (oX C.Xd hr.m (aQ (wn 0) (aQ (wx (w_bin IX mX (wn 3) (wx iQ))) bQ)))) (aQ (wx (wv 3)) bQ))))))
     (mQ (BQ (IQ GQ (qQ (K:=K) rfl) T.Qo boot_tuple (aQ (wn 2) bQ))))))) ?_;rintro args Qd ⟨ns,k,l,n,rfl,hk,hl,hn,q⟩;with_reducible refine rX (λρ=>ρ=[some (.io (JX ns k l)),ZA (.int n),YA (.list []),none]) ?_ ?_
 .intro N hN;exact hN _ rfl
 rintro _ rfl;with_reducible refine rX (λρ=>∃(od:Qa) (k l:Int),Ord n od/\(0<=k/\0<=l)/\ρ=[some (.io (JX ns k l)),ZA (.int n),YA (.list (od.map j0)),none]) ?_ ?_
 .intro NE hE;refine ⟨by lia,by lia,?_⟩;rw[wX];refine qZ (λrest ρ=>∃(dn rs od:Qa) (k l:Int),rng n=dn++rs/\rest=rs.map j0/\od.Perm dn/\(0<=k/\0<=l)/\ρ=[some (.io (JX ns k l)),ZA (.int n),YA (.list (od.map j0)),none]) ?_ ?_ ⟨[],rng n,[],k,l,rfl,rfl,.nil,⟨hk,hl⟩,rfl⟩
  .clear hk hl;rintro d ds ρ ⟨dn,rs,od,k,l,es,er,hp,⟨hk,hl⟩,rfl⟩ N hN;cases rs with
   |nil=>cases er
   |cons x rs =>
    cases er;have hx:=fw es;have hol:=hp.length_eq;have hdl:dn.length<=3:=by have:=congrArg J3 es;rw[mZ,U0]at this;lia
    refine ⟨ns,k,l,x+1,rfl,hk,hl,by lia,by lia,λr k1 l1 _ r0 r1 hk1 hl1=>?_⟩;refine ⟨by rw[q0];exact o4 (show od.length<=3 by lia) (by decide),r0,by rw[q0];lia,hN _ ⟨dn++[x],rs,od.take r.toNat++x::od.drop r.toNat,k1,l1,by rw[es];simp,rfl,?_,⟨hk1,hl1⟩,?_⟩⟩
    .refine List.perm_middle.trans ?_;rw[i4];exact (hp.cons x).trans (List.perm_append_singleton x dn).symm
    .simp only[U3,E1,List.map_take,List.map_drop];rfl
  .rintro ρ ⟨dn,rs,od,k,l,es,er,hp,hkl,rfl⟩;cases rs with
   |cons _ _=>cases er
   |nil =>
    rw[O2]at es;subst es;have hol:=hp.length_eq;rw[mZ]at hol;have hol:od.length=n:=by lia
    exact hE _ ⟨od,k,l,⟨hol,by rw[hol];exact hp⟩,hkl,rfl⟩
 clear hk hl;rintro _ ⟨od,k,l,ho,⟨hk,hl⟩,rfl⟩;exact q od k l _ ho hk hl
def kM:Con:=λargs Q=>∃(ns:Qa) (k l:Int) (n:Nat),args=[.io (JX ns k l),.fz (.int n)]/\0<=k/\0<=l/\n<=3/\∀(sm:Qa) (k' l':Int) (o:Ev),RM n sm->0<=k'->0<=l'->Q (.fz (tupD sm)) (some (.io (JX ns k' l'))::o)
def JE{f:Addr}(F:ZS K "_law_some" (top 43) f fd)(T:Txt mg)(C:CalsB P w K mg base):FnOk P w K mg base DX 2 f fd ["_law_pen_here","_law_ways"] (dQ K kM):=by
 have S:FnScope ["_law_pen_here","_law_ways"] ["_law_pen_here","_law_ways"] (cQ (top 43)):={};refine nJ F S (λcdv A outer s H E hr=>(mQ (BQ (IQ GQ (qQ (K:=K) rfl) T.Qo boot_tuple (aQ (wx (dX rfl (own:=["_law_way"]) (fr:=[0]) (by kernel_rfl) (oY T.QA (aQ (wn 1) bQ)) (λ_ _ _ _=>(nQ (i:=0) (by decide +kernel:V1 (["_law_way","_law_pen_here"]:List Str)) rfl (Or.inl rfl))) (λ_ _ _ _=>qO (sZ DK (eJ (K:=K) rfl hr.units) (wx (oX C.Xd hr.m (aQ (wn 1) (aQ (wx iQ) bQ)))) (wx iQ))) (λ_ _ _ _=>(wv 0)))) bQ))))) ?_;rintro args Qd ⟨ns,k,l,n,rfl,hk,hl,hn,q⟩;refine ⟨by lia,by lia,by rw[wX,q0,mZ];exact zQ (by lia),?_⟩;rw[wX];refine VF (λrest acc τ=>∃(dn rs sm:Qa) (k4 l4:Int),rng n=dn++rs/\rest=rs.map j0/\acc=sm.map j0/\sm.Sublist dn/\τ=[none,some (.io (JX ns k4 l4))]/\0<=k4/\0<=l4) ?_ ?_ ⟨[],rng n,[],k,l,rfl,rfl,rfl,.slnil,rfl,hk,hl⟩
 .rintro d ds acc τ ⟨dn,rs,sm,k4,l4,es,er,rfl,hsub,rfl,hk4,hl4⟩ N' hN';cases rs with
  |nil=>cases er
  |cons x rs =>
   cases er;refine ⟨ns,k4,l4,2,rfl,hk4,hl4,by decide,by decide,λr k5 l5 _ r0 r1 hk5 hl5=>?_⟩;refine oZ (λh=>?_) (λh=>?_)
   .exact hN' _ _ ⟨dn++[x],rs,sm++[x],k5,l5,by rw[es];simp,rfl,by simp[Sl.d],hsub.append (List.Sublist.refl _),rfl,hk5,hl5⟩
   .exact hN' _ _ ⟨dn++[x],rs,sm,k5,l5,by rw[es];simp,rfl,rfl,hsub.trans (List.sublist_append_left _ _),rfl,hk5,hl5⟩
 .rintro acc τ ⟨dn,rs,sm,k4,l4,es,er,rfl,hsub,rfl,hk4,hl4⟩;cases rs with
  |cons _ _=>cases er
  |nil=>rw[O2]at es;subst es;have:=hsub.length_le;rw[mZ]at this;exact q sm k4 l4 _ ⟨by lia,pF hsub (SV _)⟩ hk4 hl4
def BO:Con:=λargs Q=>∃xs od:Qa,args=[.fz (tupD xs),.fz (tupD od)]/\xs.length<=3/\Ord xs.length od/\∀o,Q (.fz (tupD (SK xs od))) o
def lM{f:Addr}(F:ZS K "_law_in_order" (top 45) f fd)(T:Txt mg):FnOk P w K mg base DX 1 f fd ["_law_numbers","_law_order_here"] (dQ K BO):=by
 have S:FnScope ["_law_numbers","_law_order_here","_law_found","_law_k","_law_one"] ["_law_numbers","_law_order_here"] (cQ (top 45)):={};refine nJ F S (λcdv A outer s H E hr=>(fQ (vG (i:=2) S.nd rfl rfl rfl (own:=["_law_one"]) (fr:=[]) (by kernel_rfl) (LX rfl (wv 0)) (λ_ _ _ _=>(nQ (i:=0) (by decide +kernel:V1 (["_law_one"]:List Str)) rfl (Or.inl rfl))) (λ_ _ _ _=>tW) (λ_ _ _ _=>iQ))
     (fQ (BZ [3,4] PassesOwn.never rfl (Ix rfl T.QO (aQ (wn 0) bQ)) (AZ rfl rfl (yQ (nQ (i:=3) S.nd rfl (Or.inl rfl)) (yQ (nQ (i:=4) S.nd rfl (Or.inl rfl)) SX))) (mQ (CN (wv 4) (wn 2) (wx (bZ rfl (wn 1) (wn 3))))))
     (mQ (BQ (IQ GQ (qQ (K:=K) rfl) T.Qo boot_tuple (aQ (wn 2) bQ))))))) ?_;rintro args Qd ⟨xs,od,rfl,h3,ho,q⟩;have hol:=ho.l;with_reducible refine rX (λρ=>ρ=[ZA (tupD xs),ZA (tupD od),YA (.list ((xs.map λ_=>(0:Int)).map j0)),none,none]) ?_ ?_
 .intro N hN;refine ⟨by rw[q0];exact zQ (by lia),rZ (λ_=>.int 0) (λd hd R hR=>hR) ?_⟩;have e:(xs.map j0).map (λ_=>j0 0)=(xs.map λ_=>(0:Int)).map j0:=by rw[O0,O0];rfl
  rw[e];exact hN _ rfl
 rintro _ rfl;with_reducible refine rX (λρ=>ρ=[ZA (tupD xs),ZA (tupD od),YA (.list ((SK xs od).map j0)),none,none]) ?_ ?_
 .intro NE hE;refine qZ (λrest ρ=>∃(rs fs:Qa) (dn:Nat),dn<=xs.length/\xs.drop dn=rs/\rest=((rs.map j0).zipIdx dn).map (λp=>A1 [.int (p.2:Nat),p.1])/\fs.length=xs.length/\(∀k,(hk:k<od.length)->k<dn->fs.getD od[k].toNat 0=xs.getD k 0)/\ρ=[ZA (tupD xs),ZA (tupD od),YA (.list (fs.map j0)),none,none]) ?_ ?_ ⟨xs,xs.map λ_=>0,0,P3 _,rfl,rfl,by simp,λk _ h=>by lia,rfl⟩
  .rintro d ds ρ ⟨rs,fs,dn,hdn,es,er,hfl,hf,rfl⟩ N hN;cases rs with
   |nil=>cases er
   |cons x rs =>
    rw[E1,i6,E1]at er;cases er;have hlt:dn<xs.length:=by
     rcases g6 dn xs.length with z|z
     .exact z
     .rw[S3 z]at es;cases es
    rw[W1 hlt]at es;injection es with ex es;have ho2:dn<od.length:=by lia
    have hb:=ho.b (N2 ho2);have ea:NY (od.map j0) (dn:Int)=some (.int od[dn]):=by rw[NK ho2,G0,A0 ho2];rfl
    have hix:dq (fs.map j0).length od[dn]=some od[dn].toNat:=by have:=tE (n:=(fs.map j0).length) (i:=od[dn].toNat) (by rw[q0];lia);rw[show ((od[dn].toNat:Nat):Int)=od[dn] by lia]at this;exact this
    refine ⟨rfl,_,ea,_,hix,hN _ ⟨rs,fs.set od[dn].toNat x,dn+1,hlt,es,rfl,by rw[L4];exact hfl,λk hk hk2=>?_,?_⟩⟩
    .rcases g6 k dn with z|z
     .have hne:od[dn].toNat≠od[k].toNat:=λq=>by
       have h1:=ho.b (N2 hk);have h2:od[dn]=od[k]:=by lia
       have:=(U6 (h₀:=ho2) (h₁:=hk) ho.nd).mp h2;lia
      rw[<-hf k hk z,G0,J1 hne,G0]
     .have:k=dn:=by lia
      subst this;rw[G0,P6 (by lia),G0,A0 hlt,ex]
    .rw[List.map_set];rfl
  .rintro ρ ⟨rs,fs,dn,hdn,es,er,hfl,hf,rfl⟩;cases rs with
   |cons _ _=>cases er
   |nil =>
    have hdn:dn=xs.length:=by have:=congrArg J3 es;rw[j6]at this;simp at this;lia
    have e:fs=SK xs od:=by refine Y6 (by rw[JJ];lia) λj h1 h2=>?_;have hj:(j:Int)∈od:=ho.p.mem_iff.mpr (zU (by lia) (by lia));obtain⟨k,hk,hkj⟩:=E8.mp hj;have g1:=hf k hk (by lia);have g2:=LD (xs:=xs) (od:=od) (k:=j) (by lia);rw[<-hkj,ho.ix hk]at g2;rw[hkj,show ((j:Nat):Int).toNat=j from rfl,<-g2,G0,G0,A0 h1,A0 h2]at g1;exact g1
    subst e;exact hE _ rfl
 rintro _ rfl;exact q _
def Sd.b(h:Sd sd):∀c∈sd,1<=c/\c<=120:=λc hc=>⟨h.p c hc,Int.le_trans (QZ h.p c hc) h.m⟩
def LE:Con:=λargs Q=>∃(ns:Qa) (k l:Int) (sd:Qa),args=[.io (JX ns k l),.fz (tupD sd)]/\0<=k/\0<=l/\Sd sd /\
 ∀(lo hi:Qa) (k' l':Int) (o:Ev),Bx lo hi sd->0<=k'->0<=l'->Q (.fz (wz lo hi)) (some (.io (JX ns k' l'))::o)
def ME{f:Addr}(F:ZS K "_law_box" (top 41) f fd)(T:Txt mg)(C:CalsB P w K mg base):FnOk P w K mg base DX 2 f fd ["_law_pen_here","_law_sides_here"] (dQ K LE):=by
 have S:FnScope ["_law_pen_here","_law_sides_here","_law_low","_law_high","_law_side","_law_one","_law_other"] ["_law_pen_here","_law_sides_here"] (cQ (top 41)):={};refine nJ F S (λcdv A outer s H E hr=>(fQ (zs 2 S.nd (MZ bQ))
     (fQ (zs 3 S.nd (MZ bQ))
     (fQ (BZ [4,5,6] PassesOwn.never rfl (LX rfl (wv 1)) (nQ (i:=4) S.nd rfl (Or.inl rfl)) (fQ (zs 5 S.nd (oX C.Xd hr.m (aQ (wn 0) (aQ (wn 4) bQ))))
     (fQ (zs 6 S.nd (bZ rfl (wx (MZ (aQ (wx (oX C.Xd hr.m (aQ (wn 0) (aQ (wn 4) bQ)))) (aQ (wx (wv 5)) bQ)))) (wx (IQ kG YK T.Qs boot_int (aQ (wx (zV DK (eJ (K:=K) rfl hr.units) (wx (oX C.Xd hr.m (aQ (wn 0) (aQ (wx iQ) bQ)))) (wx iQ))) bQ)))))
     (fQ (tZ (sZ DK (eJ (K:=K) rfl hr.units) (wx (oX C.Xd hr.m (aQ (wn 0) (aQ (wx iQ) bQ)))) (wx iQ)) (mQ (tL (i:=5) (j:=6) rfl S.nd rfl rfl (by decide) rfl rfl iQ (w_bin RX NX (wn 4) (wx iQ)))) xX)
     (fQ (WX (VE PJ rfl PySem.F.slot_list_append PySem.F.type_list_append KJ (wn 2) (aQ (wx (sQ Gj (oV rfl) T.Qg boot_min (aQ (wn 5) (aQ (wn 6) bQ)))) bQ)))
     (mQ (WX (VE PJ rfl PySem.F.slot_list_append PySem.F.type_list_append KJ (wn 3) (aQ (wx (sQ Gj (aq rfl) T.Qh boot_max (aQ (wn 5) (aQ (wn 6) bQ)))) bQ)))))))))
     (mQ (BQ (xZ (aQ (wx (IQ GQ (qQ (K:=K) rfl) T.Qo boot_tuple (aQ (wn 2) bQ))) (aQ (wx (IQ GQ (qQ (K:=K) rfl) T.Qo boot_tuple (aQ (wn 3) bQ))) bQ))))))))) ?_;rintro args Qd ⟨ns,k,l,sd,rfl,hk,hl,hsd,q⟩;have h3:=hsd.l3;refine qZ (λrest ρ=>∃(dn lo hi rs:Qa) (k4 l4:Int),ρ=[some (.io (JX ns k4 l4)),ZA (tupD sd),YA (.list (lo.map j0)),YA (.list (hi.map j0)),none,none,none] /\
     rest=rs.map j0/\sd=dn++rs/\Bx lo hi dn/\0<=k4/\0<=l4) ?_ ?_
  ⟨[],[],[],sd,k,l,rfl,rfl,rfl,trivial,hk,hl⟩
 .rintro d ds ρ ⟨dn,lo,hi,rs,k4,l4,rfl,er,hsp,hbx,hk4,hl4⟩ N hN;cases rs with
  |nil=>cases er
  |cons s rs =>
   cases er;have hs:=hsd.b s (by rw[hsp];simp);have hdl:dn.length<=3:=by have:=congrArg J3 hsp;simp at this;lia
   obtain⟨g1,g2⟩:=IZ hbx;have hz1:(lo.map j0).length<sizeLine:=by rw[q0];exact L0 (show lo.length<1000 by lia) (by decide)
   have hz2:(hi.map j0).length<sizeLine:=by rw[q0];exact L0 (show hi.length<1000 by lia) (by decide)
   refine ⟨ns,k4,l4,_,rfl,hk4,hl4,by lia,by lia,λa k5 l5 _ a0 a1 hk5 hl5=>?_⟩;refine ⟨ns,k5,l5,_,rfl,hk5,hl5,by lia,by lia,λb k6 l6 _ b0 b1 hk6 hl6=>?_⟩;refine ⟨ns,k6,l6,_,rfl,hk6,hl6,by decide,by decide,λc k7 l7 _ c0 c1 hk7 hl7=>?_⟩;have pick:∃x:Int,NY [j0 b,j0 a] (if decide (c=0)=true then 1 else 0)=some (.int x)/\0<=x/\x<s:=by
    split
    .exact ⟨a,rfl,a0,a1⟩
    .exact ⟨b,rfl,b0,b1⟩
   obtain⟨x,hx,x0,x1⟩:=pick;refine ⟨_,hx,?_⟩;refine ⟨ns,k7,l7,_,rfl,hk7,hl7,by decide,by decide,λe k8 l8 _ e0 e1 hk8 hl8=>?_⟩;have fin:∀u v:Int,0<=u->u<=v->v<s->Bx (lo++[u]) (hi++[v]) (dn++[s]):=λu v=>KD hbx;refine oZ (λh=>?_) (λh=>?_)
   .exact ⟨hz1,hz2,hN _ ⟨dn++[s],lo++[_],hi++[_],rs,k8,l8,by rw[U3,U3];rfl,rfl,by rw[hsp];simp,fin _ _ (by split<;>lia) (by split<;>split<;>lia) (by split<;>lia),hk8,hl8⟩⟩
   .exact ⟨hz1,hz2,hN _ ⟨dn++[s],lo++[_],hi++[_],rs,k8,l8,by rw[U3,U3];rfl,rfl,by rw[hsp];simp,fin _ _ (by split<;>lia) (by split<;>split<;>lia) (by split<;>lia),hk8,hl8⟩⟩
 .rintro ρ ⟨dn,lo,hi,rs,k4,l4,rfl,er,hsp,hbx,hk4,hl4⟩;cases rs with
  |nil=>exact q lo hi k4 l4 _ (by rw[hsp,O2];exact hbx) hk4 hl4
  |cons _ _=>cases er
noncomputable def TK(sd cl:Qa):List (Qa×PyData):=((nZ sd).zip cl).map λq=>(q.1,.int q.2)
def ND{ps:List (Qa×PyData)}{k:Qa}{d:PyData}:(k,d)∈jZ ps k d:=by
 unfold jZ;split
 .rename_i h;obtain⟨x,hx,e⟩:=J0.mp h;have e:x.1=k:=e;exact J0.mpr ⟨x,hx,by rw[if_pos e,e]⟩
 .simp
def OD{ps:List (Qa×PyData)}{k:Qa}{d:PyData}{x:Qa×PyData}(hx:x∈ps)(h:x.1=k->x.2=d):x∈jZ ps k d:=by
 unfold jZ;split
 .refine J0.mpr ⟨x,hx,?_⟩;split
  .rename_i e;rw[<-h e]
  .rfl
 .exact Y5 _ hx
def PD{ps:List (Qa×PyData)}{k:Qa}{d:PyData}{x:Qa×PyData}(hx:x∈jZ ps k d):x∈ps\/x=(k,d):=by
 unfold jZ at hx;split at hx
 .obtain⟨y,hy,e⟩:=J0.mp hx;split at e
  .rename_i z;rw[z]at e;exact .inr e.symm
  .rw[<-e];exact .inl hy
 .rcases A3.mp hx with z|z
  .exact .inl z
  .exact .inr (G1.mp z)
def QD{ps:List (Qa×PyData)}{k:Qa}{d:PyData}:(jZ ps k d).length<=ps.length+1:=by
 unfold jZ;split
 .rw[q0];lia
 .rw[U0];exact M0 _
def gw{l:Qa}(h:l.length<=1000):IT (n+1) (tupD l):=.inr ⟨_,.inr rfl,by rw[q0];lia,λx hx=>by obtain⟨i,_,rfl⟩:=J0.mp hx;exact uE n i⟩
def EU{a b:Qa}(ha:a.length<=1000)(hb:b.length<=1000):IT 2 (.tuple [tupD a,tupD b]):=.inr ⟨_,.inr rfl,by show 2<=20000;decide,λx hx=>by
  simp only[Y0,K5,or_false]at hx;rcases hx with rfl|rfl
  . exact gw ha
  . exact gw hb⟩
def RD{cl:Qa}(hp:∀c∈sd,1<=c)(hl:cl.length=(nZ sd).length)(h:Wi p sd):(p,.int (iK sd cl p))∈TK sd cl:=by
 obtain⟨k,hk,e⟩:=K3 (kF h);have h1:(nZ sd)[k]?=some p:=by rw[A0 hk,e]
 have h2:=(gF hp h1).2;have hk2:k<cl.length:=by lia
 refine J0.mpr ⟨(p,cl[k]),?_,?_⟩
 .have e2:((nZ sd).zip cl)[k]'(by rw[P2];lia)=(p,cl[k]):=by rw[X4,e]
  rw[<-e2];exact N2 _
 .show (p,j0 cl[k])=_;unfold iK;rw[h2,V5,G0,A0 hk2];rfl
def IH{cl:Qa}(hl:cl.length=(nZ sd).length):rY ((TK sd cl).map λp=>A1 [tI p.1,p.2])=(nZ sd).map tupD:=by rw[JV];unfold TK;rw[O0];show ((nZ sd).zip cl).map (tupD∘Prod.fst)=_;rw[<-O0,T7];lia
variable (P w K mg base) in
structure CalsKn:Prop where
 Xi:Cal P w K mg base 2 "_law_all" ["_law_sides_here"] (dQ K GD)
def qF:Con:=λargs Q=>∃sd cl:Qa,args=[.fz (lJ sd cl)]/\Sd sd/\cl.length=(nZ sd).length/\∀o,Q (.fz (XZ (TK sd cl))) o
def iw{f:Addr}(F:ZS K "_law_known" (top 40) f fd)(T:Txt mg)(C:CalsKn P w K mg base):FnOk P w K mg base DX 3 f fd ["_law_field_here"] (dQ K qF):=by
 have S:FnScope ["_law_field_here"] ["_law_field_here"] (cQ (top 40)):={};refine nJ F S (λcdv A outer s H E hr=>(mQ (BQ (QN rfl rfl (yG hr) T.Ql (by decide +kernel) T.QP (aQ (wx (QQ C.Xi hr.m (aQ (wx (bZ rfl (wn 0) (wx iQ))) bQ))) (aQ (wx (bZ rfl (wn 0) (wx iQ))) bQ)))))) ?_;rintro args Qd ⟨sd,cl,rfl,hsd,hcl,q⟩;refine ⟨_,rfl,_,sd,rfl,.inr rfl,hsd,λ_=>?_⟩;have e1:(TK sd cl).map (·.1)=nZ sd:=by unfold TK;rw[O0];show ((nZ sd).zip cl).map Prod.fst=nZ sd;rw[T7];lia
 have e2:(TK sd cl).map (·.2)=cl.map j0:=by unfold TK;rw[O0];show ((nZ sd).zip cl).map (j0∘Prod.snd)=_;rw[<-O0,U7];lia
 refine ⟨_,rfl,TK sd cl,?_,?_,?_,q _⟩
 .have:((TK sd cl).map λp=>tI p.1)=((TK sd cl).map (·.1)).map tI:=by rw[O0];rfl
  rw[this,e1];rfl
 .rw[e2];rfl
 .rw[e1];exact uz hsd.p
variable (P w K mg base) in
structure CalsLd:Prop where
 Xi:Cal P w K mg base 2 "_law_all" ["_law_sides_here"] (dQ K GD)
def jw:Con:=λargs Q=>∃(sd:Qa) (ps:List (Qa×PyData)) (g:Qa->Int),args=[.fz (tupD sd),.fz (XZ ps)]/\Sd sd/\(∀p∈nZ sd,(p,.int (g p))∈ps)/\∀o,Q (.fz (lJ sd ((nZ sd).map g))) o
def cu{f:Addr}(F:ZS K "_law_laid" (top 46) f fd)(T:Txt mg)(C:CalsLd P w K mg base):FnOk P w K mg base DX 3 f fd ["_law_sides_here","_law_known_here"] (dQ K jw):=by
 have S:FnScope ["_law_sides_here","_law_known_here"] ["_law_sides_here","_law_known_here"] (cQ (top 46)):={};refine nJ F S (λcdv A outer s H E hr=>(mQ (BQ (xZ (aQ (wx (IQ GQ (qQ (K:=K) rfl) T.Qo boot_tuple (aQ (wn 0) bQ))) (aQ (wx (IQ GQ (qQ (K:=K) rfl) T.Qo boot_tuple (aQ (wx (dX rfl (own:=["_law_place"]) (fr:=[1]) (by kernel_rfl) (LX rfl (QQ C.Xi hr.m (aQ (wn 0) bQ))) (λ_ _ _ _=>(nQ (i:=0) (by decide +kernel:V1 (["_law_place","_law_known_here"]:List Str)) rfl (Or.inl rfl))) (λ_ _ _ _=>tW) (λ_ _ _ _=>(UG (NG hr) (wn 1) (wn 0))))) bQ))) bQ)))))) ?_;rintro args Qd ⟨sd,ps,g,rfl,hsd,hg,q⟩;have hm:=hsd.m;have hpl:=iJ hsd.p;refine ⟨_,sd,rfl,.inr rfl,hsd,λo=>?_⟩;refine ⟨by rw[q0];exact zQ (by lia),rZ (λd=>.int (g (CU d))) (λd hd N hN=>?_) ?_⟩
 .obtain⟨p,hp,rfl⟩:=J0.mp hd;have e:CU (tupD p)=p:=ZX p;rw[e]at hN;exact ⟨ps,p,.int (g p),rfl,rfl,hg p hp,hN⟩
 .have e:((nZ sd).map tupD).map (λd=>j0 (g (CU d)))=((nZ sd).map g).map j0:=by
   rw[O0,O0];refine M3 λp _=>?_;show j0 (g (CU (tupD p)))=_;rw[ZX];rfl
  rw[e];exact q _
def ext_at{a b:Qa}(hl:a.length=b.length)(h:∀k,k<a.length->a.getD k 0=b.getD k 0):a=b:=Y6 hl λk h1 h2=>by have:=h k h1;rw[G0,G0,A0 h1,A0 h2]at this;exact this
def kw(q od:Qa):(GU q od).length=od.length:=q0 ..
def A9{q:Qa}{k:Nat}(hk:k<od.length):(GU q od).getD k 0=q.getD od[k].toNat 0:=by unfold GU;rw[G0,Q0,A0 hk];rfl
def B9(h:Ord p.length od):GU (SK p od) od=p:=ext_at (by rw[kw,h.l]) λk hk=>by rw[kw]at hk;have hb:=h.b (N2 hk);have hl:=h.l;rw[A9 hk,LD (by lia),show ((od[k].toNat:Nat):Int)=od[k] by lia,h.ix hk]
def mM{q:Qa}(h:Ord q.length od):SK (GU q od) od=q:=ext_at (by rw[JJ,h.l]) λk hk=>by rw[JJ]at hk;have hl:=h.l;have hm:(k:Int)∈od:=h.p.mem_iff.mpr (zU (by lia) (by lia));have hi:od.idxOf (k:Int)<od.length:=v6.mpr hm;rw[LD hk,A9 hi,B7 hi];rfl
def QK:uQ sd (uQ sd p sm) sm=p:=ext_at (by rw[vQ,vQ]) λk hk=>by rw[vQ,vQ]at hk;rw[YX (by rw[vQ];exact hk),YX hk];split<;>lia
theorem SD:∀{lo hi sd:Qa},Bx lo hi sd->∀k,k<sd.length->0<=lo.getD k 0/\lo.getD k 0<=hi.getD k 0/\hi.getD k 0<sd.getD k 0
 |[],[],[],_,k,hk=>by simp at hk
 |a::lo,b::hi,s::sd,h,0,_=>h.1
 |a::lo,b::hi,s::sd,h,k+1,hk=>SD h.2 k (by simpa using hk)
 |[],_::_,z,h,_,_=>by cases z<;>exact h.elim
 |_::_,[],z,h,_,_=>by cases z<;>exact h.elim
 |_::_,_::_,[],h,_,_=>h.elim
 |[],[],_::_,h,_,_=>h.elim
theorem lw:∀{p lo hi:Qa},lo.length=hi.length->(rE p ((lo.zip hi).map λu=>SQ u.1 u.2)↔(p.length=lo.length/\∀k,k<lo.length->lo.getD k 0<=p.getD k 0/\p.getD k 0<=hi.getD k 0))
 |[],[],[],_=>⟨λ_=>⟨rfl,λk h=>by simp at h⟩,λ_=>trivial⟩
 |_::_,[],[],_=>⟨λh=>h.elim,λh=>by simp at h⟩
 |[],_::_,_::_,_=>⟨λh=>h.elim,λh=>by simp at h⟩
 |x::p,a::lo,b::hi,hl=>by
  have ih:=lw (p:=p) (lo:=lo) (hi:=hi) (by simpa using hl);have h1:x∈SQ a b↔a<=x/\x<=b:=by
   unfold SQ;constructor
   .intro h;obtain⟨n,hn,rfl⟩:=J0.mp h;have:=J5.mp hn;lia
   .intro h;exact J0.mpr ⟨(x-a).toNat,J5.mpr (by lia),by lia⟩
  show (x∈SQ a b/\rE p ((lo.zip hi).map λu=>SQ u.1 u.2))↔_;rw[h1,ih];constructor
  .rintro⟨g1,g2,g3⟩;refine ⟨by simp[g2],λk hk=>?_⟩;cases k with
   |zero=>exact g1
   |succ k=>exact g3 k (by simpa using hk)
  .rintro⟨g1,g2⟩;exact ⟨g2 0 (by simp),by simpa using g1,λk hk=>g2 (k+1) (by simpa using hk)⟩
 |_,[],_::_,hl=>by simp at hl
 |_,_::_,[],hl=>by simp at hl
def WY(hl:lo.length=hi.length):p∈fV lo hi↔(p.length=lo.length/\∀k,k<lo.length->lo.getD k 0<=p.getD k 0/\p.getD k 0<=hi.getD k 0):=by rw[<-lw hl];exact ⟨λh=>MV h,λh=>MW (a:=[]) (by simp) h⟩
theorem mw:∀{lo hi sd:Qa},Bx lo hi sd->(wZ ((lo.zip hi).map λp=>SQ p.1 p.2):Int)<=CQ sd
 |[],[],[],_=>j9 _
 |a::lo,b::hi,s::sd,h=>by
  have ih:=mw h.2;have h1:=h.1;show (((SQ a b).length*wZ ((lo.zip hi).map λp=>SQ p.1 p.2):Nat):Int)<=s*CQ sd;rw[Int.natCast_mul];have e:((SQ a b).length:Int)<=s:=by unfold SQ;rw[q0,List.length_range];lia
  exact Int.mul_le_mul e ih (by lia) (by lia)
 |[],_::_,z,h=>by cases z<;>exact h.elim
 |_::_,[],z,h=>by cases z<;>exact h.elim
 |_::_,_::_,[],h=>h.elim
 |[],[],_::_,h=>h.elim
def KH(hs:Sd sd)(h:Bx lo hi sd):wZ ((lo.zip hi).map λp=>SQ p.1 p.2)<=1000:=by have:=mw h;have:=hs.m;lia
def du(hs:Sd sd)(h:Bx lo hi sd):(fV lo hi).length<=1000:=by have:=KH hs h;unfold fV;rw[UJ];simpa using this
def OE(hs:Sd sd)(h:Bx lo hi sd):∀p∈lo.zip hi,0<=p.1/\p.1<=p.2/\p.2<=1000:=by
 obtain⟨l1,l2⟩:=IZ h;intro p hp;obtain⟨k,hk,e⟩:=K3 hp;rw[P2]at hk;rw[X4]at e;have h1:=SD h k (by lia);have h2:=hs.b (sd.getD k 0) (by rw[G0,A0 (by lia)];exact N2 _);rw[G0,G0 (l:=hi),A0 (by lia),A0 (by lia)]at h1;rw[<-e];have h1:0<=lo[k]/\lo[k]<=hi[k]/\hi[k]<sd.getD k 0:=h1;exact ⟨h1.1,h1.2.1,by show hi[k]<=1000;lia⟩
theorem uY:∀{a b:Qa},a.length=b.length->(∀k,k<a.length->a.getD k 0<=b.getD k 0)->HT.lexLt b a=false
 |[],[],_,_=>HT.lexLt_nil_nil
 |x::a,y::b,hl,h=>by
  have h0:x<=y:=h 0 (by simp);rw[HT.lexLt_cons];split
  .exact uY (by simpa using hl) λk hk=>h (k+1) (by simpa using hk)
  .exact decide_eq_false (by lia)
 |[],_::_,hl,_=>by simp at hl
 |_::_,[],hl,_=>by simp at hl
def FU(f:Int->Int->Int){a b:Qa}(hl:a.length=b.length){k:Nat}(hk:k<a.length):((a.zip b).map λp=>f p.1 p.2).getD k 0=f (a.getD k 0) (b.getD k 0):=by rw[G0,Q0,A0 (by rw[P2];lia),X4,G0,G0,A0 hk,A0 (by lia)];rfl
def fu(h:Bx lo hi sd)(hp:p∈fV lo hi):(uQ sd p sm).length=sd.length/\∀k,k<sd.length->(ww (uQ sd lo sm) (uQ sd hi sm)).getD k 0<=(uQ sd p sm).getD k 0/\(uQ sd p sm).getD k 0<=(zw (uQ sd lo sm) (uQ sd hi sm)).getD k 0:=by obtain⟨l1,l2⟩:=IZ h;obtain⟨h1,h2⟩:=(WY (by lia)).mp hp;refine ⟨by rw[vQ];lia,λk hk=>?_⟩;have g:=h2 k (by lia);unfold ww zw;rw[FU min (by rw[vQ,vQ];lia) (by rw[vQ];lia),FU max (by rw[vQ,vQ];lia) (by rw[vQ];lia),YX (by lia),YX (by lia),YX (by lia)];split<;>lia
def gu(h:Bx lo hi sd):(∃p∈fV lo hi,uQ sd p sm=ww (uQ sd lo sm) (uQ sd hi sm))/\∃p∈fV lo hi,uQ sd p sm=zw (uQ sd lo sm) (uQ sd hi sm):=by
 obtain⟨l1,l2⟩:=IZ h;have ln:(ww (uQ sd lo sm) (uQ sd hi sm)).length=sd.length:=by unfold ww;rw[q0,P2,vQ,vQ];lia
 have lx:(zw (uQ sd lo sm) (uQ sd hi sm)).length=sd.length:=by unfold zw;rw[q0,P2,vQ,vQ];lia
 refine ⟨⟨uQ sd (ww (uQ sd lo sm) (uQ sd hi sm)) sm,(WY (by lia)).mpr ⟨by rw[vQ];lia,λk hk=>?_⟩,QK⟩,⟨uQ sd (zw (uQ sd lo sm) (uQ sd hi sm)) sm,(WY (by lia)).mpr ⟨by rw[vQ];lia,λk hk=>?_⟩,QK⟩⟩
 .have b:=SD h k (by lia);rw[YX (by lia)];unfold ww;rw[FU min (by rw[vQ,vQ];lia) (by rw[vQ];lia),YX (by lia),YX (by lia)];split<;>lia
 .have b:=SD h k (by lia);rw[YX (by lia)];unfold zw;rw[FU max (by rw[vQ,vQ];lia) (by rw[vQ];lia),YX (by lia),YX (by lia)];split<;>lia
noncomputable def nM(sm:Qa):PyData->PyData
 | .tuple [.int i,.tuple [.int x,.int s]]=>.int (if i∈sm then s-1-x else x)
 |_=>.none
def iu(hl:p.length=sd.length):(vZ (BX (p.map j0) (sd.map j0))).map (nM sm)=(uQ sd p sm).map j0:=by
 refine Y6 (by simp[vZ,BX,vQ,hl]) λk h1 h2=>?_;have hk:k<p.length:=by simpa [vQ]using h2
 have hk2:k<sd.length:=by lia
 have e:=YX (sd:=sd) (sm:=sm) hk;rw[G0,A0 (by rw[vQ];exact hk)]at e;have e:(uQ sd p sm)[k]'(by rw[vQ];exact hk)=_:=e;rw[Y4,Y4,e];unfold vZ;rw[Y4,List.getElem_zipIdx];unfold BX;rw[Y4,X4,Y4,Y4,G0,G0,A0 hk,A0 hk2];show j0 (if ((0+k:Nat):Int)∈sm then sd[k]-1-p[k] else p[k])=_;rw[J6];rfl
def oM:Con:=λargs Q=>∃(sd p sm:Qa),args=[.fz (tupD sd),.fz (tupD p),.fz (tupD sm)]/\p.length=sd.length/\p.length<=1000/\∀o,Q (.fz (tupD (uQ sd p sm))) o
def QE{f:Addr}(F:ZS K "_law_turned" (top 44) f fd)(T:Txt mg):FnOk P w K mg base DX 1 f fd ["_law_sides_here","_law_place","_law_some_here"] (dQ K oM):=by
 have S:FnScope ["_law_sides_here","_law_place","_law_some_here"] ["_law_sides_here","_law_place","_law_some_here"] (cQ (top 44)):={};refine nJ F S (λcdv A outer s H E hr=>(mQ (BQ (IQ GQ (qQ (K:=K) rfl) T.Qo boot_tuple (aQ (wx (dX rfl (own:=["_law_k","_law_one","_law_side"]) (fr:=[2]) (by kernel_rfl) (Py rfl T.QO T.QP (aQ (wn 1) (aQ (wn 0) bQ))) (λ_ _ _ _=>(AZ rfl rfl (yQ (nQ (i:=0) (by decide +kernel:V1 (["_law_k","_law_one","_law_side","_law_some_here"]:List Str)) rfl (Or.inl rfl)) (yQ (AZ rfl rfl (yQ (nQ (i:=1) (by decide +kernel:V1 (["_law_k","_law_one","_law_side","_law_some_here"]:List Str)) rfl (Or.inl rfl)) (yQ (nQ (i:=2) (by decide +kernel:V1 (["_law_k","_law_one","_law_side","_law_some_here"]:List Str)) rfl (Or.inl rfl)) SX))) SX)))) (λ_ _ _ _=>tW) (λ_ _ _ _=>(bZ rfl (wx (MZ (aQ (wx (wv 1)) (aQ (wx (w_bin RX NX (wx (w_bin RX NX (wn 2) (wx iQ))) (wn 1))) bQ)))) (wx (IQ kG YK T.Qs boot_int (aQ (wx (OL rfl (wn 0) (wn 3))) bQ))))))) bQ))))) ?_;rintro args Qd ⟨sd,p,sm,rfl,hpl,hl,q⟩;refine ⟨?_,rZ (nM sm) (λd hd R hR=>?_) ?_⟩
 .unfold vZ BX;rw[q0,N5,q0,P2,q0,q0];exact zQ (by lia)
 .obtain⟨⟨u,i⟩,hu,rfl⟩:=J0.mp hd;obtain⟨_,hi,e⟩:=List.mem_zipIdx hu;have e2:u∈BX (p.map j0) (sd.map j0):=by rw[e];exact N2 _
  obtain⟨x,_,s,_,rfl⟩:=HE e2;have hR:R (.int (if (i:Int)∈sm then s-1-x else x)) _:=hR;have pick:NY [j0 x,j0 (s-1-x)] (if decide ((i:Int)∈sm)=true then 1 else 0)=some (.int (if (i:Int)∈sm then s-1-x else x)):=by
   by_cases z:(i:Int)∈sm
   .rw[if_pos z,if_pos (decide_eq_true z)];rfl
   .rw[if_neg z,if_neg (by simpa using z)];rfl
  refine ⟨rfl,rfl,?_⟩;refine ⟨sm,rfl,?_⟩;exact ⟨_,pick,hR⟩
 .rw[iu hpl];exact q _
variable (P w K mg base) in
structure CalsEr:Prop where
 Zh:Cal P w K mg base 2 "_law_order" ["_law_pen_here","_law_ways"] (dQ K jM)
 Zi:Cal P w K mg base 3 "_law_known" ["_law_field_here"] (dQ K qF)
 Zl:Cal P w K mg base 1 "_law_in_order" ["_law_numbers","_law_order_here"] (dQ K BO)
 Zm:Cal P w K mg base 3 "_law_laid" ["_law_sides_here","_law_known_here"] (dQ K jw)
 Xe:Cal P w K mg base 4 "_law_same" ["_law_found","_law_due"] (dQ K yU)
 Zn:Cal P w K mg base 2 "_law_box" ["_law_pen_here","_law_sides_here"] (dQ K LE)
 XR:Cal P w K mg base 5 "exchanged" ["field","order"] (dQ K wO)
 Zo:Cal P w K mg base 6 "box_exchanged" ["sides","box","order"] (dQ K yO)
def SM:Con:=λargs Q=>∃(ns:Qa) (k l:Int) (sd cl:Qa),args=[.io (JX ns k l),.fz (lJ sd cl)]/\0<=k/\0<=l/\Sd sd/\cl.length=(nZ sd).length/\∀(k' l':Int) (o:Ev),0<=k'->0<=l'->Q (.fz (.bool true)) (some (.io (JX ns k' l'))::o)
noncomputable abbrev eR(ns:Qa)(k l:Int)(sd cl:Qa)(r:Ev):Ev:=some (.io (JX ns k l))::ZA (lJ sd cl)::ZA (tupD sd)::ZA (tupD cl)::r
def pM{f:Addr}(F:ZS K "_law_exchanged_right" (top 47) f fd)(T:Txt mg)(C:CalsEr P w K mg base):FnOk P w K mg base DX 7 f fd ["_law_pen_here","_law_field_here"] (dQ K SM):=by
 have S:FnScope ["_law_pen_here","_law_field_here","_law_sides_here","_law_cells","_law_order_here","_law_known_here","_law_there","_law_place","_law_low","_law_high"] ["_law_pen_here","_law_field_here"] (cQ (top 47)):={};refine nJ F S (λcdv A outer s H E hr=>(fQ (lU (wv 1) (AZ rfl rfl (yQ (nQ (i:=2) S.nd rfl (Or.inl rfl)) (yQ (nQ (i:=3) S.nd rfl (Or.inl rfl)) SX))))
     (fQ (zs 4 S.nd (oX C.Zh hr.m (aQ (wn 0) (aQ (wx (sQ AX (HQ (K:=K) rfl) T.Qc PySem.boot_len (aQ (wn 2) bQ))) bQ))))
     (fQ (zs 5 S.nd (QQ C.Zi hr.m (aQ (wn 1) bQ)))
     (fQ (zs 6 S.nd sD)
     (fQ (BZ [7] PassesOwn.never rfl (Qx (wn 5)) (nQ (i:=7) S.nd rfl (Or.inl rfl)) (mQ (Xx (ZJ hr) (wn 6) (wx (QQ C.Zl hr.m (aQ (wn 7) (aQ (wn 4) bQ)))) (UG (NG hr) (wn 5) (wn 7)))))
     (fQ (tZ (yZ (cZ (QQ C.Xe hr.m (aQ (wx (QQ C.XR hr.m (aQ (wn 1) (aQ (wn 4) bQ)))) (aQ (wx (QQ C.Zm hr.m (aQ (wx (QQ C.Zl hr.m (aQ (wn 2) (aQ (wn 4) bQ)))) (aQ (wn 6) bQ)))) bQ))))) (mQ (BQ kU)) xX)
     (fQ (lU (oX C.Zn hr.m (aQ (wn 0) (aQ (wn 2) bQ))) (AZ rfl rfl (yQ (nQ (i:=8) S.nd rfl (Or.inl rfl)) (yQ (nQ (i:=9) S.nd rfl (Or.inl rfl)) SX))))
     (mQ (BQ (QQ C.Xe hr.m (aQ (wx (QQ C.Zo hr.m (aQ (wn 2) (aQ (wx (xZ (aQ (wx (wv 8)) (aQ (wx (wv 9)) bQ)))) (aQ (wn 4) bQ))))) (aQ (wx (xZ (aQ (wx (QQ C.Zl hr.m (aQ (wn 8) (aQ (wn 4) bQ)))) (aQ (wx (QQ C.Zl hr.m (aQ (wn 9) (aQ (wn 4) bQ)))) bQ)))) bQ))))))))))))) ?_;rintro args Qd ⟨ns,k,l,sd,cl,rfl,hk,hl,hsd,hcl,q⟩;have h1:=hsd.l1;have h3:=hsd.l3;have hm:=hsd.m;have hpl:=iJ hsd.p;with_reducible refine rX (λρ=>ρ=eR ns k l sd cl [none,none,none,none,none,none]) ?_ ?_
 .intro N hN;exact ⟨rfl,hN _ rfl⟩
 rintro _ rfl;with_reducible refine rX (λρ=>∃(od:Qa) (k l:Int),Ord sd.length od/\(0<=k/\0<=l)/\ρ=eR ns k l sd cl [ZA (tupD od),none,none,none,none,none]) ?_ ?_
 .intro N hN;refine ⟨ns,k,l,sd.length,?_,hk,hl,h3,λod k1 l1 _ ho hk1 hl1=>hN _ ⟨od,k1,l1,ho,⟨hk1,hl1⟩,rfl⟩⟩;show [Sl.io (JX ns k l),Sl.fz (.int ((sd.map j0).length:Nat))]=_;rw[q0]
 clear hk hl;rintro _ ⟨od,k,l,ho,⟨hk,hl⟩,rfl⟩;have hs2:=hsd.we ho;have hs2m:=hs2.m;have hs23:=hs2.l3;have hs2l:=iJ hs2.p;with_reducible refine rX (λρ=>ρ=eR ns k l sd cl [ZA (tupD od),ZA (XZ (TK sd cl)),none,none,none,none]) ?_ ?_
 .intro N hN;exact ⟨sd,cl,rfl,hsd,hcl,λo=>hN _ rfl⟩
 rintro _ rfl;with_reducible refine rX (λρ=>ρ=eR ns k l sd cl [ZA (tupD od),ZA (XZ (TK sd cl)),YA (XZ []),none,none,none]) ?_ ?_
 .intro N hN;exact hN _ rfl
 rintro _ rfl;with_reducible refine rX (λρ=>∃ps:List (Qa×PyData),(∀q∈nZ (SK sd od),(q,.int (iK sd cl (GU q od)))∈ps)/\ρ=eR ns k l sd cl [ZA (tupD od),ZA (XZ (TK sd cl)),YA (XZ ps),none,none,none]) ?_ ?_
 .intro NE hE;refine (?_:fZ _ _ _ _ (rY ((TK sd cl).map λp=>.tuple [tI p.1,p.2])) _);rw[IH hcl];refine qZ (λrest ρ=>∃(dn rs:List Qa) (ps:List (Qa×PyData)),nZ sd=dn++rs/\rest=rs.map tupD/\ps.length<=dn.length/\(∀x∈ps,x.2=.int (iK sd cl (GU x.1 od)))/\(∀p∈dn,(SK p od,.int (iK sd cl p))∈ps)/\ρ=eR ns k l sd cl [ZA (tupD od),ZA (XZ (TK sd cl)),YA (XZ ps),none,none,none]) ?_ ?_ ⟨[],nZ sd,[],rfl,rfl,M0 _,λx hx=>(by cases hx),λq h=>(by cases h),rfl⟩
  .rintro d ds ρ ⟨dn,rs,ps,es,er,hpsl,hB,hA,rfl⟩ N hN;cases rs with
   |nil=>cases er
   |cons p rs =>
    cases er;have hpm:p∈nZ sd:=by rw[es];simp
    have hw:=sY hpm;have hwl:=oK hw;have hop:Ord p.length od:=by rw[hwl];exact ho
    have hdl:dn.length<=120:=by have:=congrArg J3 es;rw[U0]at this;lia
    have keep:∀x∈ps,x∈jZ ps (SK p od) (.int (iK sd cl p)):=λx hx=>OD hx λe=>by rw[hB x hx,e,B9 hop]
    refine ⟨TK sd cl,p,.int (iK sd cl p),rfl,rfl,RD hsd.p hcl hw,?_⟩;refine ⟨p,od,rfl,by lia,hop,λo=>?_⟩;refine ⟨SK p od,ps,rfl,rfl,rfl,o4 (show ps.length<=24200 by lia) (by decide),hN _ ⟨dn++[p],rs,jZ ps (SK p od) (.int (iK sd cl p)),by rw[es];simp,rfl,?_,λx hx=>?_,λq' h1=>?_,rfl⟩⟩
    .have:=QD (ps:=ps) (k:=SK p od) (d:=.int (iK sd cl p));rw[U0,Z2];lia
    .rcases PD hx with z|z
     .exact hB x z
     .rw[z];show j0 (iK sd cl p)=.int (iK sd cl (GU (SK p od) od));rw[B9 hop]
    .rcases A3.mp h1 with z|z
     .exact keep _ (hA q' z)
     .rw[G1.mp z];exact ND
  .rintro ρ ⟨dn,rs,ps,es,er,hpsl,hB,hA,rfl⟩;cases rs with
   |cons _ _=>cases er
   |nil =>
    rw[O2]at es;subst es;refine hE _ ⟨ps,λq hq=>?_,rfl⟩;have hwq:=sY hq;have hql:Ord q.length od:=by rw[oK hwq,JJ,ho.l];exact ho
    have:=hA (GU q od) (kF (y9 ho hwq));rw[mM hql]at this;exact this
 rintro _ ⟨ps,hps,rfl⟩;with_reducible refine rX (λρ=>ρ=eR ns k l sd cl [ZA (tupD od),ZA (XZ (TK sd cl)),YA (XZ ps),none,none,none]) ?_ ?_
 .intro N hN;refine ⟨sd,cl,od,rfl,hsd,hcl,ho,λo=>?_⟩;refine ⟨sd,od,rfl,h3,ho,λo=>?_⟩;refine ⟨SK sd od,ps,λq=>iK sd cl (GU q od),rfl,hs2,hps,λo=>⟨DU _ _,?_⟩⟩;exact ⟨_,rfl,EU (by lia) (by rw[q0];lia),λo=>hN _ rfl⟩
 rintro _ rfl;with_reducible refine rX (λρ=>∃(lo hi:Qa) (k l:Int),Bx lo hi sd/\(0<=k/\0<=l)/\ρ=eR ns k l sd cl [ZA (tupD od),ZA (XZ (TK sd cl)),YA (XZ ps),none,ZA (tupD lo),ZA (tupD hi)]) ?_ ?_
 .intro N hN;exact ⟨ns,k,l,sd,rfl,hk,hl,hsd,λlo hi k1 l1 _ hb hk1 hl1=>⟨rfl,hN _ ⟨lo,hi,k1,l1,hb,⟨hk1,hl1⟩,rfl⟩⟩⟩
 clear hk hl;rintro _ ⟨lo,hi,k,l,hb,⟨hk,hl⟩,rfl⟩;obtain⟨l1,l2⟩:=IZ hb;refine ⟨sd,lo,hi,od,rfl,hsd,hb,ho,λo=>?_⟩;refine ⟨lo,od,rfl,by lia,by rw[l1];exact ho,λo=>?_⟩;refine ⟨hi,od,rfl,by lia,by rw[l2];exact ho,λo=>?_⟩;have hol:=ho.l;exact ⟨_,rfl,EU (by rw[JJ];lia) (by rw[JJ];lia),λo=>q k l _ hk hl⟩
variable (P w K mg base) in
structure CalsMr:Prop where
 Zp:Cal P w K mg base 2 "_law_some" ["_law_pen_here","_law_ways"] (dQ K kM)
 Zi:Cal P w K mg base 3 "_law_known" ["_law_field_here"] (dQ K qF)
 Zr:Cal P w K mg base 1 "_law_turned" ["_law_sides_here","_law_place","_law_some_here"] (dQ K oM)
 Zm:Cal P w K mg base 3 "_law_laid" ["_law_sides_here","_law_known_here"] (dQ K jw)
 Xe:Cal P w K mg base 4 "_law_same" ["_law_found","_law_due"] (dQ K yU)
 Zn:Cal P w K mg base 2 "_law_box" ["_law_pen_here","_law_sides_here"] (dQ K LE)
 Xf:Cal P w K mg base 1 "_law_places" ["_law_low","_law_high"] (dQ K vE)
 XS:Cal P w K mg base 5 "mirrored" ["field","some"] (dQ K xO)
 Zs:Cal P w K mg base 6 "box_mirrored" ["sides","box","some"] (dQ K AO)
def qM{f:Addr}(F:ZS K "_law_mirrored_right" (top 48) f fd)(T:Txt mg)(C:CalsMr P w K mg base):FnOk P w K mg base DX 7 f fd ["_law_pen_here","_law_field_here"] (dQ K SM):=by
 have S:FnScope ["_law_pen_here","_law_field_here","_law_sides_here","_law_cells","_law_some_here","_law_known_here","_law_there","_law_place","_law_low","_law_high","_law_places_here"] ["_law_pen_here","_law_field_here"] (cQ (top 48)):={};refine nJ F S (λcdv A outer s H E hr=>(fQ (lU (wv 1) (AZ rfl rfl (yQ (nQ (i:=2) S.nd rfl (Or.inr rfl)) (yQ (nQ (i:=3) S.nd rfl (Or.inl rfl)) SX))))
     (fQ (Uj (i:=4) S.nd rfl (Or.inr rfl) (oX C.Zp hr.m (aQ (wn 0) (aQ (wx (sQ AX (HQ (K:=K) rfl) T.Qc PySem.boot_len (aQ (wn 2) bQ))) bQ))))
     (fQ (zs 5 S.nd (QQ C.Zi hr.m (aQ (wn 1) bQ)))
     (fQ (zs 6 S.nd sD)
     (fQ (BZ [7] PassesOwn.never rfl (Qx (wn 5)) (nQ (i:=7) S.nd rfl (Or.inl rfl)) (mQ (Xx (ZJ hr) (wn 6) (wx (QQ C.Zr hr.m (aQ (wn 2) (aQ (wn 7) (aQ (wn 4) bQ))))) (UG (NG hr) (wn 5) (wn 7)))))
     (fQ (tZ (yZ (cZ (QQ C.Xe hr.m (aQ (wx (QQ C.XS hr.m (aQ (wn 1) (aQ (wn 4) bQ)))) (aQ (wx (QQ C.Zm hr.m (aQ (wn 2) (aQ (wn 6) bQ)))) bQ))))) (mQ (BQ kU)) xX)
     (fQ (lU (oX C.Zn hr.m (aQ (wn 0) (aQ (wn 2) bQ))) (AZ rfl rfl (yQ (nQ (i:=8) S.nd rfl (Or.inl rfl)) (yQ (nQ (i:=9) S.nd rfl (Or.inl rfl)) SX))))
     (fQ (vG (i:=10) S.nd rfl rfl rfl (own:=["_law_place"]) (fr:=[2,4]) (by kernel_rfl) (LX rfl (QQ C.Xf hr.m (aQ (wn 8) (aQ (wn 9) bQ)))) (λ_ _ _ _=>(nQ (i:=0) (by decide +kernel:V1 (["_law_place","_law_sides_here","_law_some_here"]:List Str)) rfl (Or.inl rfl))) (λ_ _ _ _=>tW) (λ_ _ _ _=>(QQ C.Zr hr.m (aQ (wn 1) (aQ (wn 0) (aQ (wn 2) bQ))))))
     (mQ (BQ (QQ C.Xe hr.m (aQ (wx (QQ C.Zs hr.m (aQ (wn 2) (aQ (wx (xZ (aQ (wx (wv 8)) (aQ (wx (wv 9)) bQ)))) (aQ (wn 4) bQ))))) (aQ (wx (xZ (aQ (wx (sQ Yu (qz rfl rfl (yG hr)) T.Qg boot_min (aQ (wn 10) bQ))) (aQ (wx (sQ Yu (rz rfl rfl (yG hr)) T.Qh boot_max (aQ (wn 10) bQ))) bQ)))) bQ)))))))))))))) ?_;rintro args Qd ⟨ns,k,l,sd,cl,rfl,hk,hl,hsd,hcl,q⟩;have h1:=hsd.l1;have h3:=hsd.l3;have hm:=hsd.m;have hpl:=iJ hsd.p;with_reducible refine rX (λρ=>ρ=eR ns k l sd cl [none,none,none,none,none,none,none]) ?_ ?_
 .intro N hN;exact ⟨rfl,hN _ rfl⟩
 rintro _ rfl;with_reducible refine rX (λρ=>∃(sm:Qa) (k l:Int),RM sd.length sm/\(0<=k/\0<=l)/\ρ=eR ns k l sd cl [ZA (tupD sm),none,none,none,none,none,none]) ?_ ?_
 .intro N hN;refine ⟨ns,k,l,sd.length,?_,hk,hl,h3,λsm k1 l1 _ ho hk1 hl1=>hN _ ⟨sm,k1,l1,ho,⟨hk1,hl1⟩,rfl⟩⟩;show [Sl.io (JX ns k l),Sl.fz (.int ((sd.map j0).length:Nat))]=_;rw[q0]
 clear hk hl;rintro _ ⟨sm,k,l,hsm,⟨hk,hl⟩,rfl⟩;with_reducible refine rX (λρ=>ρ=eR ns k l sd cl [ZA (tupD sm),ZA (XZ (TK sd cl)),none,none,none,none,none]) ?_ ?_
 .intro N hN;exact ⟨sd,cl,rfl,hsd,hcl,λo=>hN _ rfl⟩
 rintro _ rfl;with_reducible refine rX (λρ=>ρ=eR ns k l sd cl [ZA (tupD sm),ZA (XZ (TK sd cl)),YA (XZ []),none,none,none,none]) ?_ ?_
 .intro N hN;exact hN _ rfl
 rintro _ rfl;with_reducible refine rX (λρ=>∃ps:List (Qa×PyData),(∀q∈nZ sd,(q,.int (iK sd cl (uQ sd q sm)))∈ps)/\ρ=eR ns k l sd cl [ZA (tupD sm),ZA (XZ (TK sd cl)),YA (XZ ps),none,none,none,none]) ?_ ?_
 .intro NE hE;refine (?_:fZ _ _ _ _ (rY ((TK sd cl).map λp=>.tuple [tI p.1,p.2])) _);rw[IH hcl];refine qZ (λrest ρ=>∃(dn rs:List Qa) (ps:List (Qa×PyData)),nZ sd=dn++rs/\rest=rs.map tupD/\ps.length<=dn.length/\(∀x∈ps,x.2=.int (iK sd cl (uQ sd x.1 sm)))/\(∀p∈dn,(uQ sd p sm,.int (iK sd cl p))∈ps)/\ρ=eR ns k l sd cl [ZA (tupD sm),ZA (XZ (TK sd cl)),YA (XZ ps),none,none,none,none]) ?_ ?_ ⟨[],nZ sd,[],rfl,rfl,M0 _,λx hx=>(by cases hx),λq h=>(by cases h),rfl⟩
  .rintro d ds ρ ⟨dn,rs,ps,es,er,hpsl,hB,hA,rfl⟩ N hN;cases rs with
   |nil=>cases er
   |cons p rs =>
    cases er;have hpm:p∈nZ sd:=by rw[es];simp
    have hw:=sY hpm;have hwl:=oK hw;have hdl:dn.length<=120:=by have:=congrArg J3 es;rw[U0]at this;lia
    have keep:∀x∈ps,x∈jZ ps (uQ sd p sm) (.int (iK sd cl p)):=λx hx=>OD hx λe=>by rw[hB x hx,e,QK]
    refine ⟨TK sd cl,p,.int (iK sd cl p),rfl,rfl,RD hsd.p hcl hw,?_⟩;refine ⟨sd,p,sm,rfl,by lia,by lia,λo=>?_⟩;refine ⟨uQ sd p sm,ps,rfl,rfl,rfl,o4 (show ps.length<=24200 by lia) (by decide),hN _ ⟨dn++[p],rs,jZ ps (uQ sd p sm) (.int (iK sd cl p)),by rw[es];simp,rfl,?_,λx hx=>?_,λq' h1=>?_,rfl⟩⟩
    .have:=QD (ps:=ps) (k:=uQ sd p sm) (d:=.int (iK sd cl p));rw[U0,Z2];lia
    .rcases PD hx with z|z
     .exact hB x z
     .rw[z];show j0 (iK sd cl p)=.int (iK sd cl (uQ sd (uQ sd p sm) sm));rw[QK]
    .rcases A3.mp h1 with z|z
     .exact keep _ (hA q' z)
     .rw[G1.mp z];exact ND
  .rintro ρ ⟨dn,rs,ps,es,er,hpsl,hB,hA,rfl⟩;cases rs with
   |cons _ _=>cases er
   |nil=>rw[O2]at es;subst es;refine hE _ ⟨ps,λq hq=>?_,rfl⟩;have:=hA (uQ sd q sm) (kF (dw (sY hq)));rw[QK]at this;exact this
 rintro _ ⟨ps,hps,rfl⟩;with_reducible refine rX (λρ=>ρ=eR ns k l sd cl [ZA (tupD sm),ZA (XZ (TK sd cl)),YA (XZ ps),none,none,none,none]) ?_ ?_
 .intro N hN;refine ⟨sd,cl,sm,rfl,hsd,hcl,hsm,λo=>?_⟩;refine ⟨sd,ps,λq=>iK sd cl (uQ sd q sm),rfl,hsd,hps,λo=>⟨DU _ _,?_⟩⟩;exact ⟨_,rfl,EU (by lia) (by rw[q0];lia),λo=>hN _ rfl⟩
 rintro _ rfl;with_reducible refine rX (λρ=>∃(lo hi:Qa) (k l:Int),Bx lo hi sd/\(0<=k/\0<=l)/\ρ=eR ns k l sd cl [ZA (tupD sm),ZA (XZ (TK sd cl)),YA (XZ ps),none,ZA (tupD lo),ZA (tupD hi),none]) ?_ ?_
 .intro N hN;exact ⟨ns,k,l,sd,rfl,hk,hl,hsd,λlo hi k1 l1 _ hb hk1 hl1=>⟨rfl,hN _ ⟨lo,hi,k1,l1,hb,⟨hk1,hl1⟩,rfl⟩⟩⟩
 clear hk hl;rintro _ ⟨lo,hi,k,l,hb,⟨hk,hl⟩,rfl⟩;obtain⟨l1,l2⟩:=IZ hb;have hbt:=du hsd hb;with_reducible refine rX (λρ=>ρ=eR ns k l sd cl [ZA (tupD sm),ZA (XZ (TK sd cl)),YA (XZ ps),none,ZA (tupD lo),ZA (tupD hi),YA (.list (((fV lo hi).map λp=>uQ sd p sm).map tupD))]) ?_ ?_
 .intro N hN;refine ⟨tupD lo,tupD hi,lo,hi,rfl,rfl,rfl,by lia,by lia,by lia,OE hsd hb,KH hsd hb,λo=>?_⟩;refine ⟨by rw[q0];exact zQ hbt,rZ (λd=>tupD (uQ sd (CU d) sm)) (λd hd R hR=>?_) ?_⟩
  .obtain⟨p,hp,rfl⟩:=J0.mp hd;have hR:R (tupD (uQ sd (CU (tupD p)) sm)) _:=hR;rw[ZX]at hR;have hpl:=((WY (by lia)).mp hp).1;exact ⟨sd,p,sm,rfl,by lia,by lia,λo=>hR⟩
  .have e:((fV lo hi).map tupD).map (λd=>tupD (uQ sd (CU d) sm))=((fV lo hi).map λp=>uQ sd p sm).map tupD:=by
    rw[O0,O0];refine M3 λp _=>?_;show tupD (uQ sd (CU (tupD p)) sm)=_;rw[ZX];rfl
   rw[e];exact hN _ rfl
 rintro _ rfl;refine ⟨sd,lo,hi,sm,rfl,hsd,hb,hsm,λo=>?_⟩;obtain⟨⟨p1,hp1,e1⟩,p2,hp2,e2⟩:=gu (sm:=sm) hb;have lm:∀p∈fV lo hi,_:=λp hp=>fu (sm:=sm) hb hp;generalize hmn:ww (uQ sd lo sm) (uQ sd hi sm)=mn at *;generalize hmx:zw (uQ sd lo sm) (uQ sd hi sm)=mx at *;have ln:mn.length=sd.length:=by rw[<-e1];exact (lm p1 hp1).1
 have lx:mx.length=sd.length:=by rw[<-e2];exact (lm p2 hp2).1
 have b1:mn∈(fV lo hi).map λp=>uQ sd p sm:=J0.mpr ⟨p1,hp1,e1⟩;have b2:mx∈(fV lo hi).map λp=>uQ sd p sm:=J0.mpr ⟨p2,hp2,e2⟩;have c1:∀q∈(fV lo hi).map λp=>uQ sd p sm,HT.lexLt q mn=false/\HT.lexLt mx q=false:=λq hq=>by obtain⟨p,hp,rfl⟩:=J0.mp hq;obtain⟨g1,g2⟩:=lm p hp;exact ⟨uY (by lia) λk hk=>(g2 k (by lia)).1,uY (by lia) λk hk=>(g2 k (by lia)).2⟩
 generalize hL:((fV lo hi).map λp=>uQ sd p sm)=L at *;refine ⟨L,rfl,i8 b1,λm hm hmin=>?_⟩;obtain rfl:m=mn:=SG.lex_eq (c1 m hm).1 (hmin mn b1);refine ⟨L,rfl,i8 b2,λm2 hm2 hmax=>?_⟩;obtain rfl:m2=mx:=SG.lex_eq (hmax mx b2) (c1 m2 hm2).2;exact ⟨_,rfl,EU (by lia) (by lia),λo=>q k l _ hk hl⟩
def cLaw:Con:=λargs Q=>∃ns:Qa,args=[.fz (VJ ns)]/\ns.length<=63/\∀o,Q (.fz (.bool true)) o
def cLaw_at(ns:Qa)(h:ns.length<=63):cLaw [.fz (VJ ns)] λr _=>r=.fz (.bool true):=⟨ns,rfl,h,λ_=>rfl⟩
variable (P w K mg base) in
structure CalsL:Prop where
 Zt:Cal P w K mg base 1 "_law_pen" ["_law_script"] (dQ K VL)
 Xd:Cal P w K mg base 1 "_law_take" ["_law_pen_here","_law_many"] (dQ K sk)
 ZO:Cal P w K mg base 3 "_law_field" ["_law_pen_here","_law_most"] (dQ K Hk)
 ZP:Cal P w K mg base 7 "_law_exchanged_right" ["_law_pen_here","_law_field_here"] (dQ K SM)
 ZR:Cal P w K mg base 7 "_law_mirrored_right" ["_law_pen_here","_law_field_here"] (dQ K SM)
def RE{f:Addr}(F:ZS K "law" (top 49) f fd)(T:Txt mg)(C:CalsL P w K mg base):FnOk P w K mg base DX 8 f fd ["_law_script"] (dQ K cLaw):=by
 have S:FnScope ["_law_script","_law_pen_here","_law_turn","_law_field_here"] ["_law_script"] (cQ (top 49)):={};refine nJ F S (λcdv A outer s H E hr=>(fQ (zs 1 S.nd (QQ C.Zt hr.m (aQ (wn 0) bQ)))
     (fQ (BZ [2,3] PassesOwn.never rfl (oY T.QA (aQ (wx iQ) bQ)) (nQ (i:=2) S.nd rfl (Or.inl rfl)) (fQ (zs 3 S.nd (oX C.ZO hr.m (aQ (wn 1) (aQ (wx (bZ rfl (wx (MZ (aQ (wx iQ) (aQ (wx iQ) (aQ (wx iQ) (aQ (wx iQ) bQ)))))) (wx (oX C.Xd hr.m (aQ (wn 1) (aQ (wx iQ) bQ)))))) bQ))))
     (mQ (tZ (Du (tG (yZ (cZ (oX C.ZP hr.m (aQ (wn 1) (aQ (wn 3) bQ))))) (sW (yZ (cZ (oX C.ZR hr.m (aQ (wn 1) (aQ (wn 3) bQ)))))))) (mQ (BQ kU)) xX))))
     (mQ (BQ kU))))) ?_;rintro args Qd ⟨ns,rfl,hns,q⟩;with_reducible refine rX (λρ=>ρ=[ZA (VJ ns),YA (JX ns 0 0),none,none]) ?_ ?_
 .intro N hN;exact ⟨ns,rfl,λo=>hN _ rfl⟩
 rintro _ rfl;with_reducible refine rX (λρ=>∃k l:Int,0<=k/\0<=l/\ρ=[ZA (VJ ns),YA (JX ns k l),none,none]) ?_ ?_
 rotate_left
 .rintro _ ⟨k,l,_,_,rfl⟩;exact q _
 intro NE hE;refine ⟨by decide,by decide,?_⟩;generalize KQ 0 (4:Int).toNat=rg;refine qZ (λrest ρ=>∃k l:Int,0<=k/\0<=l/\ρ=[ZA (VJ ns),YA (JX ns k l),none,none]) ?_ (λρ h=>hE ρ h) ⟨0,0,by decide,by decide,rfl⟩;rintro d ds _ ⟨k,l,hk,hl,rfl⟩ N hN;with_reducible refine KO rfl ?_
 with_reducible refine rX (λρ=>∃(sd cl:Qa) (k l:Int),Sd sd/\cl.length=(nZ sd).length/\(0<=k/\0<=l)/\ρ=[ZA (VJ ns),YA (JX ns k l),ZA d,ZA (lJ sd cl)]) ?_ ?_
 .intro M hM;refine ⟨ns,k,l,4,rfl,hk,hl,by decide,by decide,λr k1 l1 _ r0 r1 hk1 hl1=>?_⟩;have pick:∃x:Int,NY [j0 24,j0 24,j0 24,j0 120] r=some (.int x)/\1<=x/\x<=120:=by
   rcases (show r=0\/r=1\/r=2\/r=3 by lia) with rfl|rfl|rfl|rfl
   .exact ⟨24,rfl,by decide,by decide⟩
   .exact ⟨24,rfl,by decide,by decide⟩
   .exact ⟨24,rfl,by decide,by decide⟩
   .exact ⟨120,rfl,by decide,by decide⟩
  obtain⟨x,hx,x1,x2⟩:=pick;exact ⟨_,hx,ns,k1,l1,x,rfl,hk1,hl1,x1,x2,λsd cl k2 l2 _ a1 a2 hk2 hl2=>hM _ ⟨sd,cl,k2,l2,a1,a2,⟨hk2,hl2⟩,rfl⟩⟩
 clear hk hl;rintro _ ⟨sd,cl,k,l,hsd,hcl,⟨hk,hl⟩,rfl⟩;refine ⟨ns,k,l,sd,cl,rfl,hk,hl,hsd,hcl,λk1 l1 _ hk1 hl1=>?_⟩;exact ⟨ns,k1,l1,sd,cl,rfl,hk1,hl1,hsd,hcl,λk2 l2 _ hk2 hl2=>hN _ ⟨k2,l2,hk2,hl2,rfl⟩⟩
def cO{p:List Value->Prop}(h:p []):∀us:List Value,us.length=0->p us:=λus e=>by
 cases us with
 |nil=>exact h
 |cons x us=>cases e
def len1{p:List Value->Prop}(h:∀x0,p [x0]):∀us:List Value,us.length=1->p us:=λus e=>by
 cases us with
 |nil=>cases e
 |cons x us=>exact cO (p:=λl=>p (x::l)) (h x) us (b9 e)
def len2{p:List Value->Prop}(h:∀x0 x1,p [x0,x1]):∀us:List Value,us.length=2->p us:=λus e=>by
 cases us with
 |nil=>cases e
 |cons x us=>exact len1 (p:=λl=>p (x::l)) (λx1=>h x x1) us (b9 e)
def qw{p:List Value->Prop}(h:∀x0 x1 x2,p [x0,x1,x2]):∀us:List Value,us.length=3->p us:=λus e=>by
 cases us with
 |nil=>cases e
 |cons x us=>exact len2 (p:=λl=>p (x::l)) (λx1 x2=>h x x1 x2) us (b9 e)
structure Df(K:B0)(mg:Str->Option Value)(x:Str)(st:Stmt)(f:Addr)(d:FuncData):Prop where
 F:Fun K x x st f d
 m:mg x=some (.ref f)
 k:Z4 K (.ref f)=true
section
variable {K:B0}{mg:Str->Option Value}
def df_mk(X:K.In h)(G:h.Ns mainGlobals mg){x:Str}{st:Stmt}{f:Addr}{oc:Value}{od an:Option Addr}{osl:Array (Option Value)}{kV doc pm cdv ct:Value}(a:B2 K mainGlobals x=some (some (.ref f)))(l:K.lookup f=some ⟨oc,od,.func (q5 x x (UZ st) (aX st) (cQ st) .none kV doc pm an cdv ct),osl⟩)(c:y7 K cdv x=true)(k:Z4 K (.ref f)=true):Df K mg x st f (q5 x x (UZ st) (aX st) (cQ st) .none kV doc pm an cdv ct):=⟨xB l c k,u6 X G a,k⟩
def hX(P:Program)(w:World)(base:Heap){k:Nat}{x:Str}{ps:List Str}{sp:Sp}{st:Stmt}{f:Addr}{d:FuncData}(D:Df K mg x st f d)(h:FnOk P w K mg base DX k f d ps sp)(b:∀(kV doc pm:Value) (an:Option Addr) (cdv ct:Value) (us:List Value),us.length=ps.length->bindArgs (q5 x x (UZ st) (aX st) (cQ st) .none kV doc pm an cdv ct) ⟨us,[]⟩=pure (ps.zip us)):Cal P w K mg base k x ps sp:=⟨⟨f,d,h,D.m,D.k,D.F.binds b⟩⟩
end
def all_mk{l:m8}{w:World}{K:B0}{mg:Str->Option Value}{fa f0 f1 f2 f3 f4 f5 f6 f7 f8 f9 f10 f11 f12 f13 f14 f15 f16 f17 f18 f19 f20 f21 f22 f23 f24 f25 f26 f27 f28 f29 f30 f31 f32 f33 f34 f35 f36 f37 f38 f39 f40 f41 f42 cl0 cl1 cl2 cl3:Addr}{d0 d1 d2 d3 d4 d5 d6 d7 d8 d9 d10 d11 d12 d13 d14 d15 d16 d17 d18 d19 d20 d21 d22 d23 d24 d25 d26 d27 d28 d29 d30 d31 d32 d33 d34 d35 d36 d37 d38 d39 d40 d41 d42:FuncData}(X:K.In h)(G:h.Ns mainGlobals mg)(hfa:mg "law"=some (.ref fa)){tk0:Tok}(D0:Df K mg "_law_pen" (top 32) f0 d0) (D1:Df K mg "_law_take" (top 33) f1 d1) (D2:Df K mg "_law_sides" (top 36) f2 d2) (D3:Df K mg "_law_number" (top 35) f3 d3) (D4:Df K mg "_law_places" (top 37) f4 d4) (D5:Df K mg "_law_all" (top 38) f5 d5) (D6:Df K mg "_law_field" (top 39) f6 d6) (D7:Df K mg "_law_order" (top 42) f7 d7) (D8:Df K mg "_law_known" (top 40) f8 d8) (D9:Df K mg "_law_in_order" (top 45) f9 d9) (D10:Df K mg "_law_laid" (top 46) f10 d10) (D11:Df K mg "_law_same" (top 34) f11 d11) (D12:Df K mg "_law_same" (top 34) f12 d12) (D13:Df K mg "_law_same" (top 34) f13 d13) (D14:Df K mg "_law_same" (top 34) f14 d14) (D15:Df K mg "_law_box" (top 41) f15 d15) (D16:Df K mg "is_whole" (top 6) f16 d16) (D17:Df K mg "are_wholes" (top 7) f17 d17) (D18:Df K mg "ask_for_order" (top 22) f18 d18) (D19:Df K mg "ways_exchanged" (top 25) f19 d19) (D20:Df K mg "product" (top 8) f20 d20) (D21:Df K mg "one_of_each" (top 9) f21 d21) (D22:Df K mg "places_between" (top 10) f22 d22) (D23:Df K mg "first_place" (top 17) f23 d23) (D24:Df K mg "last_place" (top 18) f24 d24) (D25:Df K mg "all_places" (top 20) f25 d25) (D26:Df K mg "index_of" (top 11) f26 d26) (D27:Df K mg "cell_at" (top 19) f27 d27) (D28:Df K mg "place_mirrored" (top 27) f28 d28) (D29:Df K mg "field_from" (top 24) f29 d29) (D30:Df K mg "exchanged" (top 26) f30 d30) (D31:Df K mg "is_place" (top 14) f31 d31) (D32:Df K mg "is_box" (top 15) f32 d32) (D33:Df K mg "ask_for_box" (top 16) f33 d33) (D34:Df K mg "box_exchanged" (top 29) f34 d34) (D35:Df K mg "_law_exchanged_right" (top 47) f35 d35) (D36:Df K mg "_law_some" (top 43) f36 d36) (D37:Df K mg "_law_turned" (top 44) f37 d37) (D38:Df K mg "ask_for_ways" (top 23) f38 d38) (D39:Df K mg "mirrored" (top 28) f39 d39) (D40:Df K mg "box_mirrored" (top 30) f40 d40) (D41:Df K mg "_law_mirrored_right" (top 48) f41 d41) (D42:Df K mg "law" (top 49) f42 d42)(x0:B2 K mainGlobals "BoxError"=some (some (.ref cl0))) (x1:B2 K mainGlobals "NoField"=some (some (.ref cl1))) (x2:B2 K mainGlobals "NoBox"=some (some (.ref cl2))) (x3:B2 K mainGlobals "NoTurn"=some (some (.ref cl3))) (z0:B2 K mainGlobals "len"=some none) (z1:B2 K mainGlobals "abs"=some none) (z2:B2 K mainGlobals "min"=some none) (z3:B2 K mainGlobals "max"=some none) (z4:B2 K mainGlobals "sum"=some none) (z5:B2 K mainGlobals "dict"=some none) (z6:B2 K mainGlobals "all"=some none) (z7:B2 K mainGlobals "isinstance"=some none) (z8:B2 K mainGlobals "tuple"=some none) (z9:B2 K mainGlobals "list"=some none) (z10:B2 K mainGlobals "int"=some none) (z11:B2 K mainGlobals "bool"=some none) (z12:B2 K mainGlobals "range"=some none) (z13:B2 K mainGlobals "enumerate"=some none) (z14:B2 K mainGlobals "zip"=some none) (z15:B2 K mainGlobals "sorted"=some none) (z16:B2 K mainGlobals "ValueError"=some none) (y0:B2 K mainGlobals "MOST_CELLS"=some (some (.int 120 tk0))) (e0:By K "exchanged" d30=true) (e1:By K "mirrored" d39=true) (e2:yK K "exchanged"=vq (aX (top 26))) (e3:yK K "mirrored"=vq (aX (top 28))):∃fd:FuncData,(∀(s:Shared) (v:Value),BindsTo s fd ⟨[v],[]⟩ [("_law_script",v)])/\∀base:Heap,K.In base->base.Ns mainGlobals mg->FnOk l.prog w K mg base DX 8 fa fd ["_law_script"] (dQ K cLaw):=by
 cases hfa.symm.trans D42.m;have T:Txt mg:=⟨⟨_,u6 X G y0⟩,U1 X G z0,U1 X G z1,U1 X G z2,U1 X G z3,U1 X G z4,U1 X G z5,U1 X G z6,U1 X G z7,U1 X G z8,U1 X G z9,U1 X G z10,U1 X G z11,U1 X G z12,U1 X G z13,U1 X G z14,U1 X G z15,U1 X G z16,mD (u6 X G x0),mD (u6 X G x1),mD (u6 X G x2),mD (u6 X G x3)⟩;obtain⟨oc,od,kV,doc,pm,an,cdv,ct,osl,e,lk,hcd⟩:=D42.F.ex;refine ⟨d42,λs v=>by subst e;exact .of_eq rfl,λb _ _=>?_⟩;have LF:LamF K:=⟨e2,e3⟩;have C0:=hX l.prog w b D0 (pE D0.F) λ_ _ _ _ _ _=>len1 λ_=>rfl;have C1:=hX l.prog w b D1 (Qy D1.F T) λ_ _ _ _ _ _=>len2 λ_ _=>rfl;have C2:=hX l.prog w b D2 (vk D2.F T ⟨C1⟩) λ_ _ _ _ _ _=>len2 λ_ _=>rfl;have C3:=hX l.prog w b D3 (vz D3.F T ⟨C1⟩) λ_ _ _ _ _ _=>len1 λ_=>rfl;have C4:=hX l.prog w b D4 (wE D4.F T) λ_ _ _ _ _ _=>len2 λ_ _=>rfl;have C5:=hX l.prog w b D5 (Ty D5.F T ⟨C4⟩) λ_ _ _ _ _ _=>len1 λ_=>rfl;have C6:=hX l.prog w b D6 (Ik D6.F T ⟨C2,C3,C5⟩) λ_ _ _ _ _ _=>len2 λ_ _=>rfl;have C7:=hX l.prog w b D7 (IE D7.F T ⟨C1⟩) λ_ _ _ _ _ _=>len2 λ_ _=>rfl;have C8:=hX l.prog w b D8 (iw D8.F T ⟨C5⟩) λ_ _ _ _ _ _=>len1 λ_=>rfl;have C9:=hX l.prog w b D9 (lM D9.F T) λ_ _ _ _ _ _=>len2 λ_ _=>rfl;have C10:=hX l.prog w b D10 (cu D10.F T ⟨C5⟩) λ_ _ _ _ _ _=>len2 λ_ _=>rfl;have C11:=hX l.prog w b D11 (Ck D11.F) λ_ _ _ _ _ _=>len2 λ_ _=>rfl;have C12:=hX l.prog w b D12 (Dk D12.F T ⟨C11⟩) λ_ _ _ _ _ _=>len2 λ_ _=>rfl;have C13:=hX l.prog w b D13 (Ek D13.F T ⟨C12⟩) λ_ _ _ _ _ _=>len2 λ_ _=>rfl;have C14:=hX l.prog w b D14 (Fk D14.F T ⟨C13⟩) λ_ _ _ _ _ _=>len2 λ_ _=>rfl;have C15:=hX l.prog w b D15 (ME D15.F T ⟨C1⟩) λ_ _ _ _ _ _=>len2 λ_ _=>rfl;have C16:=hX l.prog w b D16 (Pk D16.F T) λ_ _ _ _ _ _=>len1 λ_=>rfl;have C17:=hX l.prog w b D17 (Uy D17.F T ⟨C16⟩) λ_ _ _ _ _ _=>len2 λ_ _=>rfl;have C18:=hX l.prog w b D18 (ZL D18.F T ⟨C17⟩) λ_ _ _ _ _ _=>len2 λ_ _=>rfl;have C19:=hX l.prog w b D19 (bM D19.F T) λ_ _ _ _ _ _=>len2 λ_ _=>rfl;have C20:=hX l.prog w b D20 (Wy D20.F) λ_ _ _ _ _ _=>len1 λ_=>rfl;have C21:=hX l.prog w b D21 (Vy D21.F) λ_ _ _ _ _ _=>len1 λ_=>rfl;have C22:=hX l.prog w b D22 (yE D22.F T ⟨C21⟩) λ_ _ _ _ _ _=>len2 λ_ _=>rfl;have C23:=hX l.prog w b D23 (Yk D23.F T) λ_ _ _ _ _ _=>len1 λ_=>rfl;have C24:=hX l.prog w b D24 (Xy D24.F T) λ_ _ _ _ _ _=>len1 λ_=>rfl;have C25:=hX l.prog w b D25 (BU D25.F ⟨C22,C23,C24⟩) λ_ _ _ _ _ _=>len1 λ_=>rfl;have C26:=hX l.prog w b D26 (Uk D26.F T) λ_ _ _ _ _ _=>len2 λ_ _=>rfl;have C27:=hX l.prog w b D27 (XL D27.F ⟨C26⟩) λ_ _ _ _ _ _=>len2 λ_ _=>rfl;have C28:=hX l.prog w b D28 (FE D28.F T) λ_ _ _ _ _ _=>qw λ_ _ _=>rfl;have CV:=GE (P:=l.prog) (w:=w) (base:=b) LF ⟨C28⟩ T;have C29:=hX l.prog w b D29 (cM D29.F T ⟨C20,C25,C27,CV⟩) λ_ _ _ _ _ _=>qw λ_ _ _=>rfl;have C30:=hX l.prog w b D30 (eM D30.F T ⟨C18,C19,C29⟩ LF (Pu e0)) λ_ _ _ _ _ _=>len2 λ_ _=>rfl;have C31:=hX l.prog w b D31 (mF D31.F T ⟨C17⟩) λ_ _ _ _ _ _=>len2 λ_ _=>rfl;have C32:=hX l.prog w b D32 (Sk D32.F T ⟨C31⟩) λ_ _ _ _ _ _=>len2 λ_ _=>rfl;have C33:=hX l.prog w b D33 (BE D33.F ⟨C32⟩) λ_ _ _ _ _ _=>len2 λ_ _=>rfl;have C34:=hX l.prog w b D34 (gM D34.F T ⟨C18,C33,C19⟩) λ_ _ _ _ _ _=>qw λ_ _ _=>rfl;have C35:=hX l.prog w b D35 (pM D35.F T ⟨C7,C8,C9,C10,C14,C15,C30,C34⟩) λ_ _ _ _ _ _=>len2 λ_ _=>rfl;have C36:=hX l.prog w b D36 (JE D36.F T ⟨C1⟩) λ_ _ _ _ _ _=>len2 λ_ _=>rfl;have C37:=hX l.prog w b D37 (QE D37.F T) λ_ _ _ _ _ _=>qw λ_ _ _=>rfl;have C38:=hX l.prog w b D38 (aM D38.F T ⟨C17⟩) λ_ _ _ _ _ _=>len2 λ_ _=>rfl;have C39:=hX l.prog w b D39 (fM D39.F T ⟨C38,C29⟩ LF (Pu e1)) λ_ _ _ _ _ _=>len2 λ_ _=>rfl;have C40:=hX l.prog w b D40 (iM D40.F T ⟨C38,C33,C28⟩) λ_ _ _ _ _ _=>qw λ_ _ _=>rfl;have C41:=hX l.prog w b D41 (qM D41.F T ⟨C36,C8,C37,C10,C14,C15,C4,C39,C40⟩) λ_ _ _ _ _ _=>len2 λ_ _=>rfl;exact RE D42.F T ⟨C0,C1,C6,C35,C41⟩
end
end R54
open PySem.W
inductive PySem.W.Fast|tw5792026756054460986|tw17233288007252392755|tw12096447739211056462|tw12386092368758922391|tw13883952650479686868|tw7601793189078129625|tw8118678784940665596|tw788873227437485790|tw9952145348609257837|tw2773719122748996592|tw7418253841978982521|tw9460854590171862704|tw16147542822722684576|tw10591630811159042306|tw15665478613676619530|tw12868374296521425543|tw11899439187852764044|tw2026312111012590694|tw2904178570188154862|tw12314063036547809182|tw14075058423509438399|tw7602330489945602046|tw3307521458589806057|tw7809815205326664592|tw5543958858661133100|tw17856683628808510311|tw10369254395836025982|tw14793000251640876166|tw5345691795492423339|tw12608425372107557642|tw16550798128143238151|tw14273368627343854486|tw3972486733766587933|tw14904207996725274196|tw12137040431437338704|tw11972051722924855685|tw14945506031495290747|tw10799486776011264796|tw11450383254582096398|tw16596247819066473718|tw10882455978464583951|tw14532104030928531177|tw11817300832612407836|tw7850988018298133705|tw6966246205670507206|tw13652047648458142553|tw14644914658358698904|tw16355106636512366086|tw16823068639341142333|tw18378900929100244817|tw13077086963704382659|tw7891439462934644807|tw5962858807374136037|tw13338924523256817998|tw8195830556760821|tw9574135501581377051|tw14879468049306698899|tw16959505376482745519|tw203755925789962112|tw10032025057211881206|tw12395379583638222146|tw3713902503104963775|tw8437247477059472446|tw8274975776197700490|tw926125349570837130|tw2929103263566825903|tw4418423448407002822|tw10530979035410014611|tw6004633851235868515|tw17905549905128269247|tw6655580018067046421|tw3336260363039293848|tw15308030122219062448|tw2611090937942177434|tw1679489601158900223|tw13556540556784549251|tw8225536725352996656|tw2615061902539190487|tw7449143578768794186|tw5415018170151832239|tw14560259120070790361|tw14342895777637185851|tw133489713264081081|tw5175257040898238223|tw5060500906418115216|tw1915779386537167376|tw15712053097850000737|tw11601900974525686627|tw17126677029286334208|tw2697924146691247813|tw14997153635830485431|tw18128553719840096792|tw7179998322259097971|tw15178658539211060545|tw17219241175895049538|tw17803749636074152582|tw13335063027253675041|tw4615215163950979380|tw16594388338601258719|tw17891824138116589991|tw6521714984062052746|tw14285334504849612833|tw7863515521842739577|tw5576898926529089291|tw3271476448728112646|tw9926313606793494367|tw6079950821393963835|tw17472494145092506605|tw14523491246736468515|tw6636876126774756763|tw15579694045072897341|tw8909791788564233648|tw2941278651591096583|tw14032246901482978288|tw795429505728762226|tw13202940953955951002|tw9936954458333378434|tw892197218540912899|tw10810286643903838958|tw9839729645225585223|tw13168069773678979680|tw14888329245075037630|tw7659458266923603212|tw10784067723424717386|tw5822846154178729391|tw3133722876008690999|tw1318601053680374276|tw952126748911548271|tw2015766691626476964|tw14783443945634937630|tw10486458337519498470|tw17814612941750193330|tw1153627762635367261|tw8594072736513654935|tw5747224082609844798|tw49886655253873352|tw8837207546269204525|tw10114782911945304587|tw4023316245314673121|tw13568041029502588092|tw18068043592691115407|tw10378183304285460297|tw5225862267960329834|tw3345765188653496998|tw16559848665179904951|tw7301325323748436394|tw7766132531986090908|tw13440707071688873997|tw7646859066711320807|tw524568881473044309|tw13425041882608810751|tw6146011466867555308|tw4713291432042113026|tw417941520844397808|tw12207854158008543920|tw14341828488529090051|tw6323019451648558903|tw9456741971926126933|tw1858884271421458077|tw5362312046661119821|tw1208757254335603076|tw11947568988513152437|tw8967878761488567026|tw9941971255005210859|tw8877939985635011100|tw9608274145873728164|tw5021685465179106124|tw53598430296909644|tw5730687507825812796|tw4861797693831980135|tw8588740451186832246
set_option maxRecDepth 100000 in
set_option maxHeartbeats 0 in
theorem PySem.Challenge.cw_boxsums_k54_exchanged_and_mirrored_holds : PySem.Challenge.rw_boxsums_k54_exchanged_and_mirrored.Holds := by
 w_on;o_law;k_head;(case hw=>w_witness2)
 k_fill
 refine L3.walkT (l:=PySem.Challenge.rw_boxsums_k54_exchanged_and_mirrored) (k:=8) (x:="_law_script") R54.cLaw_at ⟨rfl,by decide,by decide,rfl⟩ rfl rfl (λw h Y=>⟨PySem.W.km_in_of Y,PySem.W.km_tabs_of Y⟩) (λw=>by kernel_rfl) ?F
 case F =>
  intro w mg fa h KX G hmg
  refine' R54.all_mk KX G hmg (R54.df_mk KX G ?a0 ?l0 ?c0 ?k0) (R54.df_mk KX G ?a1 ?l1 ?c1 ?k1) (R54.df_mk KX G ?a2 ?l2 ?c2 ?k2) (R54.df_mk KX G ?a3 ?l3 ?c3 ?k3) (R54.df_mk KX G ?a4 ?l4 ?c4 ?k4) (R54.df_mk KX G ?a5 ?l5 ?c5 ?k5) (R54.df_mk KX G ?a6 ?l6 ?c6 ?k6) (R54.df_mk KX G ?a7 ?l7 ?c7 ?k7) (R54.df_mk KX G ?a8 ?l8 ?c8 ?k8) (R54.df_mk KX G ?a9 ?l9 ?c9 ?k9) (R54.df_mk KX G ?a10 ?l10 ?c10 ?k10) (R54.df_mk KX G ?a11 ?l11 ?c11 ?k11) (R54.df_mk KX G ?a12 ?l12 ?c12 ?k12) (R54.df_mk KX G ?a13 ?l13 ?c13 ?k13) (R54.df_mk KX G ?a14 ?l14 ?c14 ?k14) (R54.df_mk KX G ?a15 ?l15 ?c15 ?k15) (R54.df_mk KX G ?a16 ?l16 ?c16 ?k16) (R54.df_mk KX G ?a17 ?l17 ?c17 ?k17) (R54.df_mk KX G ?a18 ?l18 ?c18 ?k18) (R54.df_mk KX G ?a19 ?l19 ?c19 ?k19) (R54.df_mk KX G ?a20 ?l20 ?c20 ?k20) (R54.df_mk KX G ?a21 ?l21 ?c21 ?k21) (R54.df_mk KX G ?a22 ?l22 ?c22 ?k22) (R54.df_mk KX G ?a23 ?l23 ?c23 ?k23) (R54.df_mk KX G ?a24 ?l24 ?c24 ?k24) (R54.df_mk KX G ?a25 ?l25 ?c25 ?k25) (R54.df_mk KX G ?a26 ?l26 ?c26 ?k26) (R54.df_mk KX G ?a27 ?l27 ?c27 ?k27) (R54.df_mk KX G ?a28 ?l28 ?c28 ?k28) (R54.df_mk KX G ?a29 ?l29 ?c29 ?k29) (R54.df_mk KX G ?a30 ?l30 ?c30 ?k30) (R54.df_mk KX G ?a31 ?l31 ?c31 ?k31) (R54.df_mk KX G ?a32 ?l32 ?c32 ?k32) (R54.df_mk KX G ?a33 ?l33 ?c33 ?k33) (R54.df_mk KX G ?a34 ?l34 ?c34 ?k34) (R54.df_mk KX G ?a35 ?l35 ?c35 ?k35) (R54.df_mk KX G ?a36 ?l36 ?c36 ?k36) (R54.df_mk KX G ?a37 ?l37 ?c37 ?k37) (R54.df_mk KX G ?a38 ?l38 ?c38 ?k38) (R54.df_mk KX G ?a39 ?l39 ?c39 ?k39) (R54.df_mk KX G ?a40 ?l40 ?c40 ?k40) (R54.df_mk KX G ?a41 ?l41 ?c41 ?k41) (R54.df_mk KX G ?a42 ?l42 ?c42 ?k42) ?x0 ?x1 ?x2 ?x3 ?z0 ?z1 ?z2 ?z3 ?z4 ?z5 ?z6 ?z7 ?z8 ?z9 ?z10 ?z11 ?z12 ?z13 ?z14 ?z15 ?z16 ?y0 ?e0 ?e1 ?e2 ?e3
  case a0|l0|c0|k0|a1|l1|c1|k1|a2|l2|c2|k2|a3|l3|c3|k3|a4|l4|c4|k4|a5|l5|c5|k5|a6|l6|c6|k6|a7|l7|c7|k7|a8|l8|c8|k8|a9|l9|c9|k9|a10|l10|c10|k10|a11|l11|c11|k11|a12|l12|c12|k12|a13|l13|c13|k13|a14|l14|c14|k14|a15|l15|c15|k15|a16|l16|c16|k16|a17|l17|c17|k17|a18|l18|c18|k18|a19|l19|c19|k19|a20|l20|c20|k20|a21|l21|c21|k21|a22|l22|c22|k22|a23|l23|c23|k23|a24|l24|c24|k24|a25|l25|c25|k25|a26|l26|c26|k26|a27|l27|c27|k27|a28|l28|c28|k28|a29|l29|c29|k29|a30|l30|c30|k30|a31|l31|c31|k31|a32|l32|c32|k32|a33|l33|c33|k33|a34|l34|c34|k34|a35|l35|c35|k35|a36|l36|c36|k36|a37|l37|c37|k37|a38|l38|c38|k38|a39|l39|c39|k39|a40|l40|c40|k40|a41|l41|c41|k41|a42|l42|c42|k42|x0|x1|x2|x3|z0|z1|z2|z3|z4|z5|z6|z7|z8|z9|z10|z11|z12|z13|z14|z15|z16|y0=>k_is
  case e0|e1|e2|e3=>kernel_rfl
