import PyProof.Rows.All
import Wide.All
import OpenK.AllK
import Wide.FinOn
import Lean
import PyProof.EqAt
import PyProof.EqKinds
import PyProof.TupleCall
import KE.KIntText
import PyProof.StrLawsTight
import PyProof.ExcClass2
import PyProof.ExcInit
import PyProof.InstStoreFacts
import PyProof.StrOps2
import KE.KRevSl
import PySem.Challenge.RW_boxsums_k61_box_texts
set_option Elab.async false
set_option linter.all false
set_option maxRecDepth 100000
set_option maxHeartbeats 4000000
namespace L2
open PySem PySem.Spec PyProof.Rows
noncomputable abbrev Key:=Sum Int Str
noncomputable def keyIs:Key -> Value -> Bool
 | .inl k,v=>Value.isInt k v
 | .inr x,v=>Value.isStrOf x v
noncomputable def keyH (w:World):Key -> Int
 | .inl k=>hashInt k
 | .inr x=>hashStr w x
theorem keyIs_shape:∀ {k:Key} {v:Value},keyIs k v = true -> (∃ i t,k = Sum.inl i /\ v = Value.int i t) \/ (∃ x t,k = Sum.inr x /\ v = Value.str x t)
 | .inl i,v,h=>by
  obtain ⟨t,e⟩:=Value.isInt_shape (k:=i) (v:=v) h
  exact .inl ⟨i,t,rfl,e⟩
 | .inr x,v,h=>by
  obtain ⟨t,e⟩:=Value.isStrOf_shape (x:=x) (v:=v) h
  exact .inr ⟨x,t,rfl,e⟩
theorem keyIs_int (i:Int) (t:Tok):keyIs (.inl i) (.int i t) = true:=by simp [keyIs,Value.isInt]
theorem keyIs_str (x:Str) (t:Tok):keyIs (.inr x) (.str x t) = true:=by simp [keyIs,Value.isStrOf]
theorem key_ll (a b:Int):decide ((Sum.inl a:Key) = Sum.inl b) = (a == b):=by
 by_cases e:a = b
 ·subst e; simp
 ·have h:¬ (Sum.inl a:Key) = Sum.inl b:=fun q=>e (Sum.inl.inj q)
  rw [decide_eq_false h]
  exact (beq_eq_false_iff_ne.mpr e).symm
theorem key_rr (a b:Str):decide ((Sum.inr a:Key) = Sum.inr b) = decide (a = b):=by
 by_cases e:a = b
 ·subst e; simp
 ·have h:¬ (Sum.inr a:Key) = Sum.inr b:=fun q=>e (Sum.inr.inj q)
  rw [decide_eq_false h,decide_eq_false e]
theorem key_lr (a:Int) (b:Str):decide ((Sum.inl a:Key) = Sum.inr b) = false:=decide_eq_false (fun q=>nomatch q)
theorem key_rl (a:Str) (b:Int):decide ((Sum.inr a:Key) = Sum.inl b) = false:=decide_eq_false (fun q=>nomatch q)
noncomputable def mixKind (prog:Program) (w:World):PySem.KeyKind prog w Key where
 is:=keyIs
 hash:=keyH w
 inj:=fun v a b ha hb=>by
  rcases keyIs_shape ha with ⟨i,t,rfl,rfl⟩ | ⟨x,t,rfl,rfl⟩
  ·rcases keyIs_shape hb with ⟨j,u,rfl,e⟩ | ⟨y,u,rfl,e⟩
   ·injection e with e1 _; rw [e1]
   ·exact nomatch e
  ·rcases keyIs_shape hb with ⟨j,u,rfl,e⟩ | ⟨y,u,rfl,e⟩
   ·exact nomatch e
   ·injection e with e1 _; rw [e1]
 byValue:=fun k v h=>by
  rcases keyIs_shape h with ⟨i,t,rfl,rfl⟩ | ⟨x,t,rfl,rfl⟩ <;> rfl
 pyHash:=fun hv h=>by
  rcases keyIs_shape hv with ⟨i,t,rfl,rfl⟩ | ⟨x,t,rfl,rfl⟩
  ·exact wpAny_pyHash_int h
  ·exact wpAny_pyHash_str h
 eqBool:=fun hu hv h=>by
  rcases keyIs_shape hu with ⟨i,t,rfl,rfl⟩ | ⟨x,t,rfl,rfl⟩
  ·rcases keyIs_shape hv with ⟨j,u,rfl,rfl⟩ | ⟨y,u,rfl,rfl⟩
   ·rw [key_ll] at h; exact wpAny_eqBool_int h
   ·rw [key_lr] at h; exact SeqAt.EqAt.int_str i t y u _ _ _ _ h
  ·rcases keyIs_shape hv with ⟨j,u,rfl,rfl⟩ | ⟨y,u,rfl,rfl⟩
   ·rw [key_rl] at h; exact SeqAt.EqAt.str_int x t j u _ _ _ _ h
   ·rw [key_rr] at h; exact wpAny_eqBool_str h
 «strs»:=fun k x t v h=>by
  rcases keyIs_shape h with ⟨i,u,rfl,e⟩ | ⟨y,u,rfl,e⟩
  ·exact nomatch e
  ·injection e with e1 _
   subst e1
   cases v <;> rfl
theorem mixKind_int (prog:Program) (w:World) (i:Int) (t:Tok):(mixKind prog w).is (.inl i) (.int i t) = true:=keyIs_int i t
theorem mixKind_str (prog:Program) (w:World) (x:Str) (t:Tok):(mixKind prog w).is (.inr x) (.str x t) = true:=keyIs_str x t
end L2
namespace L2
open PySem PySem.Spec PyProof.Rows
inductive V where
 | non | bl (b:Bool) | int (i:Int) | str (x:Str) | byt (b:Array UInt8) | flt (b:UInt64) | ref (a:Addr) | ty (n:String)
 deriving DecidableEq
noncomputable def RelV:V -> Value -> Prop
 | .non,u=>u = Value.none
 | .bl b,u=>u = Value.bool b
 | .int i,u=>∃ t,u = Value.int i t
 | .str x,u=>∃ t,u = Value.str x t
 | .byt b,u=>∃ t,u = Value.bytes b t
 | .flt b,u=>∃ t,u = Value.float b t
 | .ref a,u=>u = Value.ref a
 | .ty n,u=>u = Value.type n
noncomputable abbrev Vals:List V -> List Value -> Prop:=Paired RelV
theorem Vals.length {xs:List V} {us:List Value} (r:Vals xs us):xs.length = us.length:=Paired.length r
theorem Vals.get:∀ {xs:List V} {us:List Value} {i:Nat} {x:V},Vals xs us -> xs[i]? = some x -> ∃ u,us[i]? = some u /\ RelV x u
 | _,_,_,_,.nil,e=>by simp at e
 | _,_,0,_,.cons r _,e=>by simp at e; subst e; exact ⟨_,rfl,r⟩
 | _,_,i + 1,x,.cons _ t,e=>by
  obtain ⟨u,h1,h2⟩:=Vals.get (i:=i) (x:=x) t (by simpa using e)
  exact ⟨u,by simpa using h1,h2⟩
theorem Vals.set {x:V} {u:Value} (r:RelV x u):∀ {xs:List V} {us:List Value} (i:Nat),Vals xs us -> Vals (xs.set i x) (us.set i u)
 | _,_,_,.nil=>.nil
 | _,_,0,.cons _ t=>.cons r t
 | _,_,i + 1,.cons q t=>.cons q (Vals.set r i t)
theorem Vals.append:∀ {xs ys:List V} {us ws:List Value},Vals xs us -> Vals ys ws -> Vals (xs ++ ys) (us ++ ws)
 | _,_,_,_,.nil,s=>s
 | _,_,_,_,.cons r t,s=>.cons r (Vals.append t s)
theorem Vals.take:∀ {xs:List V} {us:List Value} (n:Nat),Vals xs us -> Vals (xs.take n) (us.take n)
 | _,_,0,_=>.nil
 | _,_,_ + 1,.nil=>.nil
 | _,_,n + 1,.cons r t=>.cons r (Vals.take n t)
theorem Vals.drop:∀ {xs:List V} {us:List Value} (n:Nat),Vals xs us -> Vals (xs.drop n) (us.drop n)
 | _,_,0,r=>r
 | _,_,_ + 1,.nil=>.nil
 | _,_,n + 1,.cons _ t=>Vals.drop n t
theorem Vals.none_of:∀ {xs:List V} {us:List Value} {i:Nat},Vals xs us -> xs[i]? = none -> us[i]? = none:=fun {xs us i} r e=>by
 have h1:=r.length
 have h2:xs.length <= i:=List.getElem?_eq_none_iff.mp e
 exact List.getElem?_eq_none_iff.mpr (by omega)
noncomputable def RelO:Option V -> Option Value -> Prop
 | some v,some u=>RelV v u
 | none,none=>True
 | _,_=>False
noncomputable def KV {κ:Type}:List (κ × V) -> List (κ × Value) -> Prop:=Paired fun (p:κ × V) (q:κ × Value)=>p.1 = q.1 /\ RelV p.2 q.2
noncomputable def kV:Key -> V
 | .inl i=>.int i
 | .inr x=>.str x
inductive HO where
 | lst (xs:List V)
 | tup (xs:List V)
 | dK (kvs:List (Key × V)) | dT (kvs:List (List Key × V))
 | set (S:Int -> Bool) (n:Nat)
 | ins (C dx:Addr) (fs:List (Str × V))
 | own (x:Addr)
 | xd (fs:List (Str × V))
 | met (f x:Addr)
 | rng (lo hi:Int)
 | frz (o:Obj) (u:HO)
 | tbl (ps:Array Value)
 | ext (φ:Heap -> Prop)
noncomputable abbrev Hp:=Addr -> Option HO
noncomputable def upd (H:Hp) (a:Addr) (o:HO):Hp:=fun b=>if b = a then some o else H b
theorem upd_same {H:Hp} {a:Addr} {o:HO}:upd H a o a = some o:=by unfold upd; rw [if_pos rfl]
theorem upd_ne {H:Hp} {a b:Addr} {o:HO} (h:b ≠ a):upd H a o b = H b:=by unfold upd; rw [if_neg h]
theorem upd_upd {H:Hp} {a:Addr} {o u:HO}:upd (upd H a o) a u = upd H a u:=by
 funext b; unfold upd; split <;> rfl
theorem ne_of_none {H:Hp} {a b:Addr} {o:HO} (h:H a = some o) (h':H b = none):a ≠ b:=by
 intro e; subst e; rw [h] at h'; cases h'
noncomputable def IsTupD (h:Heap) (a:Addr) (items:Array Value):Prop:=∃ o,h.get? a = some o /\ o.cls = .type "tuple" /\ ∃ n,o.data = .seq items n /\ o.dict = none
theorem IsTupD.t {h:Heap} {a:Addr} {items:Array Value}:IsTupD h a items -> IsTup h a items:=fun ⟨o,e,c,n,d,_⟩=>⟨o,e,c,n,d⟩
theorem IsTupD.new (h:Heap) (items:Array Value):IsTupD (h.push { cls:=.type "tuple",data:=.seq items }) h.objs.size items:=⟨_,Heap.get?_push_size _ rfl,rfl,_,rfl,rfl⟩
section
variable (P:Program) (w:World)
noncomputable def ObjOk (H:Hp) (h:Heap) (a:Addr):HO -> Prop
 | .lst xs=>xs.length <= sizeLine /\ ∃ (its:List Value) (n:Nat),Vals xs its /\ h.get? a = some { cls:=.type "list",data:=.seq its.toArray n }
 | .tup xs=>xs.length <= sizeLine /\ ∃ its:List Value,Vals xs its /\ IsTupD h a its.toArray
 | .dK kvs=>kvs.length <= sizeLine /\ (a == sysModules) = false /\ ∃ vs,KV kvs vs /\ h.DictOf (mixKind P w) a vs
 | .dT kvs=>kvs.length <= sizeLine /\ (a == sysModules) = false /\ ∃ xs:List (List Key × Addr × Value),
   Paired (fun (p:List Key × V) (q:List Key × Addr × Value)=>p.1 = q.1 /\ H q.2.1 = some (.tup (p.1.map kV)) /\ RelV p.2 q.2.2) kvs xs /\
   ∃ o es ep,h.get? a = some o /\ o.ExactDict /\ o.data = .dict es ep /\ es.toList = xs.map (entryOfKey (tupleKind (mixKind P w))) /\ (xs.map (·.1)).Nodup
 | .set S n=>h.SetOf (intKind P w) a S n
 | .ins C dx fs=>H dx = some (.own a) /\ fs.length <= 1000 /\ dx ≠ a /\ h.get? a = some (PySem.W.instObj C dx) /\
   ∃ mA,h.Ns1 dx mA /\ (∀ f,RelO (fs.lookup f) (mA f)) /\ PySem.Within mA (fs.map (·.1))
 | .own _=>∃ o,h.get? a = some o
 | .xd fs=>∃ mA,h.Ns1 a mA /\ ∀ f,RelO (fs.lookup f) (mA f)
 | .rng lo hi=>∃ t u v,h.get? a = some { cls:=.type "range",data:=.fields #[.int lo t,.int hi u,.int 1 v] }
 | .frz o u=>h.get? a = some o /\ ObjOk H h a u
 | .tbl ps=>h.get? a = some { cls:=.none,data:=.fields ps }
 | .met f x=>h.get? a = some (PySem.W.methodObj (.ref f) (.ref x))
 | .ext φ=>φ h /\ (∃ o,h.get? a = some o) /\ ∀ h1 h2:Heap,φ h1 -> (∀ o,h1.get? a = some o -> h2.get? a = some o) -> φ h2
noncomputable def HOk (H:Hp) (h:Heap):Prop:=∀ a o,H a = some o -> ObjOk P w H h a o
end
section
variable {P:Program} {w:World} {H H':Hp} {h h':Heap} {a:Addr} {o:HO}
theorem ObjOk.lt (x:ObjOk P w H h a o):a < h.objs.size:=by
 cases o with
 | lst xs=>obtain ⟨_,_,_,_,e⟩:=x; exact Heap.lt_size e
 | tup xs=>obtain ⟨_,_,_,p⟩:=x; exact p.t.lt
 | dK kvs=>obtain ⟨_,_,_,_,o,_,_,e,_⟩:=x; exact Heap.lt_size e
 | dT kvs=>obtain ⟨_,_,_,_,o,_,_,e,_⟩:=x; exact Heap.lt_size e
 | set S n=>obtain ⟨o,_,_,_,e,_⟩:=x; exact Heap.lt_size e
 | ins C dx fs=>obtain ⟨_,_,_,e,_⟩:=x; exact Heap.lt_size e
 | own y=>obtain ⟨_,e⟩:=x; exact Heap.lt_size e
 | xd fs=>obtain ⟨_,⟨_,_,_,e,_⟩,_⟩:=x; exact Heap.lt_size e
 | rng lo hi=>obtain ⟨_,_,_,e⟩:=x; exact Heap.lt_size e
 | frz ob u=>obtain ⟨e,_⟩:=x; exact Heap.lt_size e
 | tbl ps=>exact Heap.lt_size (show h.get? a = some _ from x)
 | met f y=>exact Heap.lt_size (show h.get? a = some _ from x)
 | ext φ=>obtain ⟨_,⟨_,e⟩,_⟩:=x; exact Heap.lt_size e
theorem Paired.mapP {α β:Type} {F G:α -> β -> Prop}:∀ {l₁:List α} {l₂:List β},Paired F l₁ l₂ -> (∀ a b,F a b -> G a b) -> Paired G l₁ l₂
 | _,_,.nil,_=>.nil
 | _,_,.cons r t,f=>.cons (f _ _ r) (Paired.mapP t f)
theorem ObjOk.stay (x:ObjOk P w H h a o) (k:∀ b u,(b = a \/ H b = some (.own a)) -> h.get? b = some u -> h'.get? b = some u)
  (ho:∀ b,H b = some (.own a) -> H' b = some (.own a)) (ht:∀ b xs,H b = some (.tup xs) -> H' b = some (.tup xs)):ObjOk P w H' h' a o:=by
 induction o with
 | lst xs=>obtain ⟨z,its,n,r,e⟩:=x; exact ⟨z,its,n,r,k _ _ (.inl rfl) e⟩
 | tup xs=>obtain ⟨z,its,r,ob,e,c⟩:=x; exact ⟨z,its,r,ob,k _ _ (.inl rfl) e,c⟩
 | dK kvs=>obtain ⟨z,y,vs,r,ob,es,ep,e,c⟩:=x; exact ⟨z,y,vs,r,ob,es,ep,k _ _ (.inl rfl) e,c⟩
 | dT kvs =>
  obtain ⟨z,y,xs,r,ob,es,ep,e,c⟩:=x
  exact ⟨z,y,xs,Paired.mapP r fun p q z=>⟨z.1,ht _ _ z.2.1,z.2.2⟩,ob,es,ep,k _ _ (.inl rfl) e,c⟩
 | set S n=>obtain ⟨ob,es,ep,t,e,c⟩:=x; exact ⟨ob,es,ep,t,k _ _ (.inl rfl) e,c⟩
 | ins C dx fs =>
  obtain ⟨d,z,ne,e,mA,⟨od,es,ep,e2,c⟩,r⟩:=x
  exact ⟨ho _ d,z,ne,k _ _ (.inl rfl) e,mA,⟨od,es,ep,k _ _ (.inr d) e2,c⟩,r⟩
 | own y=>obtain ⟨ob,e⟩:=x; exact ⟨ob,k _ _ (.inl rfl) e⟩
 | xd fs=>obtain ⟨mA,⟨od,es,ep,e,c⟩,r⟩:=x; exact ⟨mA,⟨od,es,ep,k _ _ (.inl rfl) e,c⟩,r⟩
 | rng lo hi=>obtain ⟨t,u,v,e⟩:=x; exact ⟨t,u,v,k _ _ (.inl rfl) e⟩
 | frz ob u ih=>obtain ⟨e,q⟩:=x; exact ⟨k _ _ (.inl rfl) e,ih q⟩
 | tbl ps =>
  have e:h.get? a = some { cls:=.none,data:=.fields ps }:=x
  show h'.get? a = some { cls:=.none,data:=.fields ps }
  exact k a _ (.inl rfl) e
 | met f y =>
  have e:h.get? a = some (PySem.W.methodObj (.ref f) (.ref y)):=x
  show h'.get? a = some (PySem.W.methodObj (.ref f) (.ref y))
  exact k a _ (.inl rfl) e
 | ext φ=>obtain ⟨p,⟨o,e⟩,st⟩:=x; exact ⟨st _ _ p fun o q=>k _ _ (.inl rfl) q,⟨o,k _ _ (.inl rfl) e⟩,st⟩
theorem HOk.lt (x:HOk P w H h) (e:H a = some o):a < h.objs.size:=(x a o e).lt
theorem HOk.fresh (x:HOk P w H h) (e:h.objs.size <= a):H a = none:=by
 cases q:H a with
 | none=>rfl
 | some u=>exact absurd (Nat.lt_of_lt_of_le (x.lt q) e) (Nat.lt_irrefl _)
theorem HOk.kept (x:HOk P w H h) (k:∀ b u,h.get? b = some u -> h'.get? b = some u):HOk P w H h':=fun a o e =>
 (x a o e).stay (fun b u _ q=>k b u q) (fun _ q=>q) fun _ _ q=>q
theorem HOk.laid (x:HOk P w H h) (k:∀ b u,h.get? b = some u -> h'.get? b = some u) (hp:h.objs.size <= a) (new:ObjOk P w (upd H a o) h' a o):HOk P w (upd H a o) h':=fun b u e=>by
 have hn:=x.fresh hp
 by_cases hb:b = a
 ·subst hb; rw [upd_same] at e; cases e; exact new
 ·rw [upd_ne hb] at e
  exact (x b u e).stay (fun c v _ q=>k c v q) (fun c q=>by rw [upd_ne (ne_of_none q hn)]; exact q) fun c xs q=>by rw [upd_ne (ne_of_none q hn)]; exact q
end
noncomputable def Rd (H:Hp) (a:Addr) (u:HO):Prop:=H a = some u \/ ∃ o,H a = some (.frz o u)
theorem Rd.ok {P:Program} {w:World} {H:Hp} {h:Heap} {a:Addr} {u:HO} (r:Rd H a u) (x:HOk P w H h):ObjOk P w H h a u:=by
 rcases r with r | ⟨o,r⟩
 ·exact x a u r
 ·obtain ⟨_,q⟩:=x a _ r
  exact q
noncomputable def Mut:Option HO -> Prop
 | some (.lst _)=>True
 | some (.dK _)=>True
 | some (.dT _)=>True
 | some (.set _ _)=>True
 | some (.ins _ _ _)=>True
 | some (.ext _)=>True
 | _=>False
section
variable {P:Program} {w:World} {H:Hp} {h h':Heap} {x e:Addr} {o':HO}
theorem HOk.write (ok:HOk P w H h) (mu:Mut (H x)) (he:e = x \/ H e = some (.own x)) (k:∀ b u,b ≠ e -> h.get? b = some u -> h'.get? b = some u) (heo:∃ u,h'.get? e = some u)
  (new:ObjOk P w (upd H x o') h' x o'):HOk P w (upd H x o') h':=fun b u q=>by
 have nown:∀ c y,H c = some (.own y) -> c ≠ x:=fun c y r z=>by subst z; rw [r] at mu; exact mu
 have ntup:∀ c xs,H c = some (.tup xs) -> c ≠ x:=fun c xs r z=>by subst z; rw [r] at mu; exact mu
 by_cases hb:b = x
 ·subst hb; rw [upd_same] at q; cases q; exact new
 ·rw [upd_ne hb] at q
  by_cases hbe:b = e
  ·have q':H b = some (.own x):=by
    rcases he with z | z
    ·exact absurd (hbe.trans z) hb
    ·rw [hbe]; exact z
   rw [q] at q'; cases q'
   obtain ⟨v,hv⟩:=heo
   exact ⟨v,by rw [hbe]; exact hv⟩
  ·refine (ok b u q).stay (fun c v hc r=>k c v ?_ r) (fun c r=>by rw [upd_ne (nown c b r)]; exact r) fun c xs r=>by rw [upd_ne (ntup c xs r)]; exact r
   rcases hc with rfl | hc
   ·exact hbe
   ·rintro rfl
    rcases he with z | z
    ·exact nown c b hc z
    ·rw [hc] at z; cases z; exact hb rfl
end
structure Un (fs ex:List Addr) (H H':Hp) (h h':Heap):Prop where
 keep:∀ b o,h.get? b = some o -> H b = none -> b ∉ fs -> b ∉ ex -> h'.get? b = some o
 slot:∀ b o,h.get? b = some o -> H b = none -> b ∈ fs -> b ∉ ex -> ∃ sl,h'.get? b = some { o with slots:=sl }
 free:∀ b o,h.get? b = some o -> H b = none -> b ∉ ex -> H' b = none
 there:∀ b o,h.get? b = some o -> b ∉ ex -> ∃ o',h'.get? b = some o'
 tups:∀ b xs,H b = some (.tup xs) -> H' b = some (.tup xs)
 frzs:∀ b o u,H b = some (.frz o u) -> H' b = some (.frz o u)
 tbls:∀ b ps,H b = some (.tbl ps) -> ∃ more,H' b = some (.tbl (ps ++ more))
section
variable {fs fs' ex ex':List Addr} {H H1 H2:Hp} {h h1 h2 h':Heap} {a x e:Addr} {o:HO}
theorem Un.any (u:Un fs ex H H1 h h1) {b:Addr} {ob:Obj} (q:h.get? b = some ob) (n:H b = none) (hx:b ∉ ex):∃ sl,h1.get? b = some { ob with slots:=sl }:=by
 by_cases hb:b ∈ fs
 ·exact u.slot b ob q n hb hx
 ·exact ⟨ob.slots,u.keep b ob q n hb hx⟩
theorem Un.kept (k:∀ b u,h.get? b = some u -> h'.get? b = some u):Un fs ex H H h h' :=
 ⟨fun b ob q _ _ _=>k b ob q,fun b ob q _ _ _=>⟨ob.slots,k b ob q⟩,fun _ _ _ n _=>n,fun b ob q _=>⟨ob,k b ob q⟩,fun _ _ q=>q,fun _ _ _ q=>q,fun _ ps q=>⟨#[],by rw [q]; simp⟩⟩
theorem Un.refl:Un fs ex H H h h:=Un.kept fun _ _ q=>q
theorem Un.laid (k:∀ b u,h.get? b = some u -> h'.get? b = some u) (hp:h.objs.size <= a) (hn:H a = none):Un fs ex H (upd H a o) h h' where
 keep:=fun b u q _ _ _=>k b u q
 slot:=fun b u q _ _ _=>⟨u.slots,k b u q⟩
 free:=fun b u q n _=>by rw [upd_ne (Nat.ne_of_lt (Nat.lt_of_lt_of_le (Heap.lt_size q) hp))]; exact n
 there:=fun b u q _=>⟨u,k b u q⟩
 tups:=fun b xs q=>by rw [upd_ne (ne_of_none q hn)]; exact q
 frzs:=fun b u xs q=>by rw [upd_ne (ne_of_none q hn)]; exact q
 tbls:=fun b ps q=>⟨#[],by rw [upd_ne (ne_of_none q hn),q]; simp⟩
theorem Un.write (mu:Mut (H x)) (he:e = x \/ H e = some (.own x)) (k:∀ b u,b ≠ e -> h.get? b = some u -> h'.get? b = some u) (heo:∃ u,h'.get? e = some u):Un fs ex H (upd H x o) h h':=by
 have hx:∀ b,H b = none -> b ≠ x:=fun b n z=>by subst z; rw [n] at mu; exact mu
 have hb:∀ b,H b = none -> b ≠ e:=fun b n z=>by
  subst z
  rcases he with r | r
  ·exact hx b n r
  ·rw [n] at r; cases r
 have hm:∀ b u,H b = some u -> ¬ Mut (some u) -> b ≠ x:=fun b u q nm z=>by subst z; rw [q] at mu; exact nm mu
 refine ⟨fun b u q n _ _=>k b u (hb b n) q,fun b u q n _ _=>⟨u.slots,k b u (hb b n) q⟩,fun b u q n _=>by rw [upd_ne (hx b n)]; exact n,fun b u q _=>?_,
   fun b xs q=>by rw [upd_ne (hm b _ q fun z=>z)]; exact q,fun b u xs q=>by rw [upd_ne (hm b _ q fun z=>z)]; exact q,fun b ps q=>⟨#[],by rw [upd_ne (hm b _ q fun z=>z),q]; simp⟩⟩
 by_cases hbe:b = e
 ·subst hbe; exact heo
 ·exact ⟨u,k b u hbe q⟩
end
noncomputable def trk (h:Heap) (H:Hp):List Addr:=(List.range h.objs.size).filter fun a=>(H a).isSome
noncomputable def hidT (h:Heap) (H:Hp):Heap:=PySem.W.hideAll h (trk h H)
theorem hidT_size (h:Heap) (H:Hp):(hidT h H).objs.size = h.objs.size:=PySem.W.hideAll_size _ _
theorem hidT_get {h:Heap} {H:Hp} {b:Addr} {o:Obj} (e:h.get? b = some o) (n:H b = none):(hidT h H).get? b = some o :=
 PySem.W.hideAll_get _ e fun hm=>by
  have q:(H b).isSome = true:=(List.mem_filter.mp hm).2
  rw [n] at q; simp at q
theorem of_hidT {h:Heap} {H:Hp} {b:Addr} {o:Obj} (e:(hidT h H).get? b = some o):h.get? b = some o /\ H b = none:=by
 have e':h.get? b = some o:=PySem.W.of_hideAll (trk h H) e
 refine ⟨e',?_⟩
 cases q:H b with
 | none=>rfl
 | some x =>
  have hm:b ∈ trk h H:=List.mem_filter.mpr ⟨List.mem_range.mpr (Heap.lt_size e'),by simp [q]⟩
  have z:(hidT h H).get? b = none:=PySem.W.hideAll_none (trk h H) hm
  rw [z] at e; cases e
noncomputable def allNews (g h:Heap) (L:Addr):List (Addr × Obj):=(List.range h.objs.size).filterMap fun a=>if a = L \/ (g.get? a).isSome = true then none else (h.get? a).map fun o=>(a,o)
noncomputable def rest (g h:Heap) (L d:Addr):List (Addr × Obj):=(allNews g h L).filter fun p=>decide (p.1 ≠ d)
end L2
namespace L2
open PySem PySem.Spec PyProof.Rows
structure Mod (K:PySem.W.Frag) (mg:Str -> Option Value) (base:Heap):Prop where
 kin:K.In base
 glob:base.Ns mainGlobals mg
 blt:∃ mb,base.Ns builtinsNs mb /\ ∀ x:Str,x ≠ "__name__" -> mb x = bootBuiltins x
 nolimit:base.NoLimit
structure Cx where
 prog:Program
 w:World
 K:PySem.W.Frag
 mg:Str -> Option Value
 base:Heap
 A:Around
 N:List Str
 s₀:Shared
 H₀:Hp
 env:Env
 outer:List Env
 stack:List Env
 ex:List Addr
 fn:Str -> Bool
 calm:Bool
 pn:List (Addr × Obj)
 xe:Value -> Shared -> Prop
noncomputable def frs (l:List Env):List Addr:=l.filterMap (·.frame)
noncomputable abbrev Cx.fs (X:Cx):List Addr:=frs X.outer
noncomputable def Vis (sc:Scope) (x:Str):Prop:=sc.names.lookup x = some .local \/ sc.names.lookup x = some .cell \/ sc.names.lookup x = some .free
noncomputable def Loc (sc:Scope) (x:Str):Prop:=sc.names.lookup x = some .local \/ sc.names.lookup x = some .cell
noncomputable def Look (env:Env) (h:Heap) (m:Str -> Option Value) (x:Str) (u:Value):Prop :=
 (env.kindOf x = some .local /\ m x = some u) \/ ((env.kindOf x = some .cell \/ env.kindOf x = some .free) /\ ∃ c,env.cells.lookup x = some c /\ h.IsCell c (some u))
structure Cx.Ok (X:Cx):Prop where
 mod:Mod X.K X.mg X.base
 kind:X.env.scope.kind = .function
 glob:X.env.globals = mainGlobals
 blt:X.env.builtins = builtinsNs
 above:X.s₀.heap.objs.size <= X.env.locals
 inj:∀ x y c,X.env.cells.lookup x = some c -> X.env.cells.lookup y = some c -> x = y
 has:∀ x,(X.env.kindOf x = some .cell \/ X.env.kindOf x = some .free) -> ∃ c,X.env.cells.lookup x = some c
 cab:∀ x c,X.fn x = true -> X.env.cells.lookup x = some c -> X.s₀.heap.objs.size <= c
 hd:X.calm = true -> X.A.handled = none
 frames:X.A.frames = some X.stack
 stk:X.stack = X.outer \/ (X.stack = X.env :: X.outer /\ X.env.frame = some X.env.locals)
 exf:∀ b ∈ X.ex,b ≠ X.env.locals /\ ∀ x c,X.env.cells.lookup x = some c -> c ≠ b
 bs:∀ b o,X.base.get? b = some o -> X.s₀.heap.get? b = some o /\ X.H₀ b = none
 bsz:X.base.objs.size <= X.s₀.heap.objs.size
 noex:∀ b o,X.base.get? b = some o -> b ∉ X.ex
 exfs:∀ b ∈ X.ex,b ∉ X.fs
 funs:X.s₀.heap.FunFrames X.base X.outer
 frf:∀ b ∈ X.fs,X.H₀ b = none
structure Inv (X:Cx) (pins:List (Addr × Obj)) (σ:List (Option V)) (H:Hp) (s:Shared):Prop where
 ok:X.Ok
 os:s.os = X.s₀.os
 bare:AllBare s.gens
 base:Un X.fs X.ex X.H₀ H X.s₀.heap s.heap
 loc:∃ m,s.heap.Ns X.env.locals m /\ ∀ (i:Nat) (x:Str) (v:V),X.N[i]? = some x -> σ[i]? = some (some v) -> Vis X.env.scope x -> ∃ u,RelV v u /\ Look X.env s.heap m x u
 cell:∀ x c,X.env.cells.lookup x = some c -> ∃ v,s.heap.IsCell c v
 free:H X.env.locals = none
 freeC:∀ x c,X.env.cells.lookup x = some c -> H c = none
 pin:∀ p ∈ X.pn ++ pins,s.heap.get? p.1 = some p.2 /\ H p.1 = none /\ p.1 ≠ X.env.locals /\ p.1 ∉ X.fs /\ ∀ v,p.2.data ≠ .cell v
 hok:HOk X.prog X.w H s.heap
 len:σ.length = X.N.length
section
variable {X:Cx} {pins:List (Addr × Obj)} {σ:List (Option V)} {H H':Hp} {s:Shared} {h':Heap}
theorem Cx.Ok.nofr (ok:X.Ok) {b:Addr} {o:Obj} (e:X.base.get? b = some o):b ∉ X.fs:=fun hb=>by
 have:=(ok.funs.mem hb).1
 rw [e] at this; cases this
theorem Inv.bs (I:Inv X pins σ H s):∀ b o,X.base.get? b = some o -> s.heap.get? b = some o /\ H b = none:=fun b o e =>
 ⟨I.base.keep b o (I.ok.bs b o e).1 (I.ok.bs b o e).2 (I.ok.nofr e) (I.ok.noex b o e),I.base.free b o (I.ok.bs b o e).1 (I.ok.bs b o e).2 (I.ok.noex b o e)⟩
theorem Inv.bk (I:Inv X pins σ H s):∀ b o,X.base.get? b = some o -> s.heap.get? b = some o:=fun b o e=>(I.bs b o e).1
theorem Inv.mod (I:Inv X pins σ H s):Mod X.K X.mg X.base:=I.ok.mod
theorem Inv.kIn (I:Inv X pins σ H s):X.K.In s.heap:=I.ok.mod.kin.keeps I.bk
theorem Inv.lt (I:Inv X pins σ H s):X.env.locals < s.heap.objs.size:=let ⟨_,hn,_⟩:=I.loc; hn.lt
theorem Inv.sz (I:Inv X pins σ H s):X.s₀.heap.objs.size <= s.heap.objs.size:=Nat.le_trans I.ok.above (Nat.le_of_lt I.lt)
theorem Inv.nofs (I:Inv X pins σ H s) {a:Addr} (h:s.heap.objs.size <= a):a ∉ X.fs:=fun hb=>by
 obtain ⟨_,o,ho,_⟩:=I.ok.funs.mem hb
 exact absurd (Nat.lt_of_lt_of_le (Heap.lt_size ho) (Nat.le_trans I.sz h)) (Nat.lt_irrefl _)
theorem Inv.cne (I:Inv X pins σ H s):∀ x c,X.env.cells.lookup x = some c -> c ≠ X.env.locals:=fun x c e z=>by
 obtain ⟨v,o,ho,hd⟩:=I.cell x c e
 obtain ⟨m,⟨o',es,ep,ho',hd',_⟩,_⟩:=I.loc
 rw [z,ho'] at ho; cases ho; rw [hd'] at hd; cases hd
theorem Inv.funs (I:Inv X pins σ H s):s.heap.FunFrames X.base X.outer:=by
 have all:∀ (l:List Env),(∀ b ∈ frs l,b ∈ X.fs) -> X.s₀.heap.FunFrames X.base l -> s.heap.FunFrames X.base l:=by
  intro l
  induction l with
  | nil=>intro _ _; trivial
  | cons env r ih =>
   intro hs hl
   obtain ⟨hk,⟨L,o,hf,hn,ho,hd⟩,hr⟩:=hl
   have hL:L ∈ X.fs:=hs L (by unfold frs; rw [List.filterMap_cons,hf]; exact List.mem_cons_self)
   obtain ⟨sl,e⟩:=I.base.slot L o ho (I.ok.frf L hL) hL fun z=>I.ok.exfs L z hL
   exact ⟨hk,⟨L,_,hf,hn,e,hd⟩,ih (fun b hb=>hs b (by unfold frs; rw [List.filterMap_cons,hf]; exact List.mem_cons_of_mem _ hb)) hr⟩
 exact all X.outer (fun _ hb=>hb) I.ok.funs
theorem Inv.stack (I:Inv X pins σ H s):s.heap.FunFrames X.base X.stack:=by
 rcases I.ok.stk with e | ⟨e,hf⟩
 ·rw [e]; exact I.funs
 ·rw [e]
  obtain ⟨m,hn,_⟩:=I.loc
  refine .cons (by rw [I.ok.kind]; decide) hf hn ?_ I.funs
  exact Heap.get?_none_of_le (Nat.le_trans I.ok.bsz I.ok.above)
theorem Inv.stkSub (I:Inv X pins σ H s):∀ b ∈ frs X.stack,b ∈ X.env.locals :: X.fs:=fun b hb=>by
 rcases I.ok.stk with e | ⟨e,hf⟩
 ·rw [e] at hb; exact List.mem_cons_of_mem _ hb
 ·rw [e] at hb
  unfold frs at hb
  rw [List.filterMap_cons,hf] at hb
  exact hb
theorem Inv.stkFree (I:Inv X pins σ H s):∀ b ∈ frs X.stack,H b = none:=fun b hb=>by
 rcases List.mem_cons.mp (I.stkSub b hb) with e | hb
 ·rw [e]; exact I.free
 ·obtain ⟨_,o,ho,_⟩:=I.ok.funs.mem hb
  exact I.base.free b o ho (I.ok.frf b hb) fun z=>I.ok.exfs b z hb
theorem Inv.step {g':Array GenState} {t':Nat} {d':Drawn} {ch:List Addr} (I:Inv X pins σ H s)
  (hch:∀ b ∈ ch,(b ∈ X.ex \/ X.s₀.heap.objs.size <= b) /\ b ≠ X.env.locals /\ (∀ x c,X.env.cells.lookup x = some c -> c ≠ b) /\ ∀ p ∈ X.pn ++ pins,p.1 ≠ b)
  (keep:∀ b o,b ≠ X.env.locals -> b ∉ X.fs -> b ∉ ch -> s.heap.get? b = some o -> H b = none -> h'.get? b = some o)
  (slot:∀ b o,b ≠ X.env.locals -> b ∈ X.fs -> b ∉ ch -> s.heap.get? b = some o -> H b = none -> ∃ sl,h'.get? b = some { o with slots:=sl }) (free:∀ b o,b ∉ ch -> s.heap.get? b = some o -> H b = none -> H' b = none)
  (there:∀ b o,b ∉ ch -> s.heap.get? b = some o -> ∃ o',h'.get? b = some o')
  (tups:∀ b xs,H b = some (.tup xs) -> H' b = some (.tup xs)) (frzs:∀ b o u,H b = some (.frz o u) -> H' b = some (.frz o u)) (tbls:∀ b ps,H b = some (.tbl ps) -> ∃ more,H' b = some (.tbl (ps ++ more)))
  (ns:∀ m,s.heap.Ns X.env.locals m -> h'.Ns X.env.locals m) (hok:HOk X.prog X.w H' h') (hg:AllBare g') :
  Inv X pins σ H' { s with heap:=h',gens:=g',drawn:=d',toks:=t' }:=by
 have neL:∀ b o,X.s₀.heap.get? b = some o -> b ≠ X.env.locals:=fun b o e=>Nat.ne_of_lt (Nat.lt_of_lt_of_le (Heap.lt_size e) I.ok.above)
 have neC:∀ b o,X.s₀.heap.get? b = some o -> b ∉ X.ex -> b ∉ ch:=fun b o e hx hb=>by
  rcases (hch b hb).1 with z | z
  ·exact hx z
  ·exact absurd (Nat.lt_of_lt_of_le (Heap.lt_size e) z) (Nat.lt_irrefl _)
 have cellK:∀ x c,X.env.cells.lookup x = some c -> ∀ v,s.heap.IsCell c v -> h'.IsCell c v:=fun x c e v ⟨o,ho,hd⟩=>by
  have nch:c ∉ ch:=fun z=>(hch c z).2.2.1 x c e rfl
  by_cases hc:c ∈ X.fs
  ·obtain ⟨sl,q⟩:=slot c o (I.cne x c e) hc nch ho (I.freeC x c e)
   exact ⟨_,q,hd⟩
  ·exact ⟨o,keep c o (I.cne x c e) hc nch ho (I.freeC x c e),hd⟩
 refine ⟨I.ok,I.os,hg,⟨fun b o e n hb hx=>?_,fun b o e n hb hx=>?_,fun b o e n hx=>?_,fun b o e hx=>?_,fun b xs e=>tups b xs (I.base.tups b xs e),fun b o xs e=>frzs b o xs (I.base.frzs b o xs e),fun b ps e=>?_⟩,?_,fun x c e=>?_,?_,fun x c e=>?_,fun p hp=>?_,hok,I.len⟩
 ·exact keep b o (neL b o e) hb (neC b o e hx) (I.base.keep b o e n hb hx) (I.base.free b o e n hx)
 ·obtain ⟨sl,e1⟩:=I.base.slot b o e n hb hx
  obtain ⟨sl',e2⟩:=slot b _ (neL b o e) hb (neC b o e hx) e1 (I.base.free b o e n hx)
  exact ⟨sl',e2⟩
 ·obtain ⟨o',e1⟩:=I.base.there b o e hx
  exact free b o' (neC b o e hx) e1 (I.base.free b o e n hx)
 ·obtain ⟨o',e1⟩:=I.base.there b o e hx
  exact there b o' (neC b o e hx) e1
 ·obtain ⟨m1,e1⟩:=I.base.tbls b ps e
  obtain ⟨m2,e2⟩:=tbls b _ e1
  exact ⟨m1 ++ m2,by rw [e2,Array.append_assoc]⟩
 ·obtain ⟨m,hn,hl⟩:=I.loc
  refine ⟨m,ns m hn,fun i x v e1 e2 e3=>?_⟩
  obtain ⟨u,r,l⟩:=hl i x v e1 e2 e3
  refine ⟨u,r,?_⟩
  rcases l with l | ⟨k,c,e,z⟩
  ·exact .inl l
  ·exact .inr ⟨k,c,e,cellK x c e _ z⟩
 ·obtain ⟨v,z⟩:=I.cell x c e
  exact ⟨v,cellK x c e v z⟩
 ·obtain ⟨m,⟨o,_,_,ho,_⟩,_⟩:=I.loc
  exact free _ o (fun z=>(hch _ z).2.1 rfl) ho I.free
 ·obtain ⟨v,o,ho,hd⟩:=I.cell x c e
  exact free c o (fun z=>(hch c z).2.2.1 x c e rfl) ho (I.freeC x c e)
 ·obtain ⟨e,n,ne,nf,d⟩:=I.pin p hp
  have nch:p.1 ∉ ch:=fun z=>(hch p.1 z).2.2.2 p hp rfl
  exact ⟨keep p.1 p.2 ne nf nch e n,free p.1 p.2 nch e n,ne,nf,d⟩
theorem Inv.un {t':Nat} (I:Inv X pins σ H s) (u:Un X.fs [] H H' s.heap h') (hok:HOk X.prog X.w H' h'):Inv X pins σ H' { s with heap:=h',toks:=t' }:=by
 obtain ⟨m,⟨o,es,ep,ho,r⟩,_⟩:=id I.loc
 obtain ⟨sl,hL⟩:=u.any ho I.free (by simp)
 exact I.step (g':=s.gens) (d':=s.drawn) (ch:=[]) (fun _ z=>nomatch z) (fun b o _ hb _ e n=>u.keep b o e n hb (by simp)) (fun b o _ hb _ e n=>u.slot b o e n hb (by simp)) (fun b o _ e n=>u.free b o e n (by simp)) (fun b o _ e=>u.there b o e (by simp)) u.tups u.frzs u.tbls (fun m' hm=>by
   obtain ⟨o',es',ep',ho',r'⟩:=hm
   rw [ho] at ho'; cases ho'
   exact ⟨_,es',ep',hL,r'⟩) hok I.bare
theorem Inv.call {g':Array GenState} {t':Nat} {d':Drawn} {ch:List Addr} (I:Inv X pins σ H s) (u:Un (frs X.stack) ch H H' s.heap h') (hok:HOk X.prog X.w H' h') (hg:AllBare g')
  (hch:∀ b ∈ ch,(b ∈ X.ex \/ X.s₀.heap.objs.size <= b) /\ b ≠ X.env.locals /\ (∀ x c,X.env.cells.lookup x = some c -> c ≠ b) /\ ∀ p ∈ X.pn ++ pins,p.1 ≠ b) :
  Inv X pins σ H' { s with heap:=h',gens:=g',drawn:=d',toks:=t' }:=by
 obtain ⟨m,⟨o,es,ep,ho,r⟩,_⟩:=id I.loc
 obtain ⟨sl,hL⟩:=u.any ho I.free fun z=>(hch _ z).2.1 rfl
 exact I.step (ch:=ch) hch (fun b o hL hb hc e n=>u.keep b o e n (fun z=>(List.mem_cons.mp (I.stkSub b z)).elim hL hb) hc) (fun b o _ _ hc e n=>u.any e n hc) (fun b o hc e n=>u.free b o e n hc) (fun b o hc e=>u.there b o e hc) u.tups u.frzs u.tbls (fun m' hm=>by
   obtain ⟨o',es',ep',ho',r'⟩:=hm
   rw [ho] at ho'; cases ho'
   exact ⟨_,es',ep',hL,r'⟩) hok hg
theorem Inv.turned {t':Nat} {it:Addr} (I:Inv X pins σ H s) (k:∀ b o,b ≠ it -> s.heap.get? b = some o -> h'.get? b = some o) (hn:H it = none) (hL:it ≠ X.env.locals)
  (h1:it ∈ X.ex \/ X.s₀.heap.objs.size <= it) (h2:∀ x c,X.env.cells.lookup x = some c -> c ≠ it) (h3:∀ p ∈ X.pn ++ pins,p.1 ≠ it):Inv X pins σ H { s with heap:=h',toks:=t' }:=by
 have nit:∀ b u,H b = some u -> b ≠ it:=fun b u e z=>by rw [z,hn] at e; cases e
 refine I.step (g':=s.gens) (d':=s.drawn) (ch:=[it]) (fun b hb=>?_) (fun b o _ _ hc e _=>k b o (fun z=>hc (by simp [z])) e) (fun b o _ _ hc e _=>⟨o.slots,k b o (fun z=>hc (by simp [z])) e⟩) (fun _ _ _ _ n=>n)
  (fun b o hc e=>⟨o,k b o (fun z=>hc (by simp [z])) e⟩) (fun _ _ e=>e) (fun _ _ _ e=>e) (fun b ps e=>⟨#[],by rw [e]; simp⟩) (fun m hm=>?_) (fun b u e=>?_) I.bare
 ·have e:b = it:=by simpa using hb
  subst e
  exact ⟨h1,hL,h2,h3⟩
 ·obtain ⟨o,es,ep,ho,r⟩:=hm
  exact ⟨o,es,ep,k _ o (Ne.symm hL) ho,r⟩
 ·refine (I.hok b u e).stay (fun c v hc q=>k c v ?_ q) (fun _ q=>q) fun _ _ q=>q
  rcases hc with z | z
  ·rw [z]; exact nit b u e
  ·exact nit c _ z
theorem Inv.tok (I:Inv X pins σ H s) (t:Nat):Inv X pins σ H { s with toks:=t }:=I.un (h':=s.heap) (t':=t) Un.refl I.hok
theorem Inv.kept {t':Nat} (I:Inv X pins σ H s) (k:∀ b u,s.heap.get? b = some u -> h'.get? b = some u):Inv X pins σ H { s with heap:=h',toks:=t' }:=I.un (Un.kept k) (I.hok.kept k)
theorem Inv.laid {a:Addr} {o:HO} {t':Nat} (I:Inv X pins σ H s) (k:∀ b u,s.heap.get? b = some u -> h'.get? b = some u) (hp:s.heap.objs.size <= a) (new:ObjOk X.prog X.w (upd H a o) h' a o) :
  Inv X pins σ (upd H a o) { s with heap:=h',toks:=t' }:=I.un (Un.laid k hp (I.hok.fresh hp)) (I.hok.laid k hp new)
theorem Inv.write {x e:Addr} {o:HO} {t':Nat} (I:Inv X pins σ H s) (mu:Mut (H x)) (he:e = x \/ H e = some (.own x)) (k:∀ b u,b ≠ e -> s.heap.get? b = some u -> h'.get? b = some u) (heo:∃ u,h'.get? e = some u)
  (new:ObjOk X.prog X.w (upd H x o) h' x o):Inv X pins σ (upd H x o) { s with heap:=h',toks:=t' }:=I.un (Un.write mu he k heo) (I.hok.write mu he k heo new)
theorem Inv.pins_of {pins':List (Addr × Obj)} (I:Inv X pins σ H s) (h:∀ p ∈ pins',s.heap.get? p.1 = some p.2 /\ H p.1 = none /\ p.1 ≠ X.env.locals /\ p.1 ∉ X.fs /\ ∀ v,p.2.data ≠ .cell v):Inv X pins' σ H s :=
 ⟨I.ok,I.os,I.bare,I.base,I.loc,I.cell,I.free,I.freeC,fun p hp=>(List.mem_append.mp hp).elim (fun z=>I.pin p (List.mem_append_left _ z)) (h p),I.hok,I.len⟩
theorem nodup_ix {N:List Str} (hN:N.Nodup) {i j:Nat} {x:Str} (a:N[i]? = some x) (b:N[j]? = some x):i = j:=by
 obtain ⟨h1,e1⟩:=List.getElem?_eq_some_iff.mp a
 obtain ⟨h2,e2⟩:=List.getElem?_eq_some_iff.mp b
 exact (List.getElem_inj hN).mp (e1.trans e2.symm)
theorem store_ok2 {M:Model} {A:Around} {E:Value -> Shared -> Prop} {i:Nat} {x:Str} {v:V} {u:Value} {Q:Unit -> Shared -> Prop} (I:Inv X pins σ H s) (hN:X.N.Nodup) (hi:X.N[i]? = some x) (hx:Loc X.env.scope x) (r:RelV v u)
  (h:∀ s',Inv X pins (σ.set i (some v)) H s' -> (∃ a,Heap.SameBut a s.heap s'.heap /\ (a = X.env.locals \/ X.env.cells.lookup x = some a)) -> Q () s') (hf:X.fn x = true \/ X.env.scope.names.lookup x = some .local:=by first | exact .inl rfl | exact .inr rfl | assumption):wpAny M A (storeName X.env x u) Q E s:=by
 obtain ⟨m,hn,hl⟩:=id I.loc
 have hcls:(X.env.scope.kind == .class || (X.env.scope.kind == .module && X.env.locals != X.env.globals)) = false:=by rw [I.ok.kind]; rfl
 have hiσ:i < σ.length:=by rw [I.len]; exact (List.getElem?_eq_some_iff.mp hi).1
 have cne:=I.cne
 have tracked:∀ {a:Addr} {h':Heap},(∃ o,s.heap.get? a = some o /\ H a = none) -> Heap.SameBut a s.heap h' -> HOk X.prog X.w H h':=fun {a h'} ha hs b ob e=>by
  obtain ⟨_,_,hfree⟩:=ha
  refine (I.hok b ob e).stay (fun c w' hc q=>(hs.2 c ?_).trans q) (fun _ q=>q) fun _ _ q=>q
  rintro rfl
  rcases hc with rfl | hc
  ·rw [hfree] at e; cases e
  ·rw [hfree] at hc; cases hc
 rcases hx with hk | hk
 ·refine wpAny_storeName_local hk hn (fun h' hn' hs=>?_) hcls
  obtain ⟨oL,_,_,hoL,_⟩:=id hn
  refine h _ ⟨I.ok,I.os,I.bare,⟨fun b o e n hb hx=>?_,fun b o e n hb hx=>?_,I.base.free,fun b o e hx=>?_,I.base.tups,I.base.frzs,I.base.tbls⟩,⟨_,hn',fun j y v' e1 e2 e3=>?_⟩,fun y c e=>?_,I.free,I.freeC,fun p hp=>?_,tracked ⟨oL,hoL,I.free⟩ hs,by simpa using I.len⟩ ⟨_,hs,.inl rfl⟩
  ·exact (hs.2 b (Nat.ne_of_lt (Nat.lt_of_lt_of_le (Heap.lt_size e) I.ok.above))).trans (I.base.keep b o e n hb hx)
  ·obtain ⟨sl,e1⟩:=I.base.slot b o e n hb hx
   exact ⟨sl,(hs.2 b (Nat.ne_of_lt (Nat.lt_of_lt_of_le (Heap.lt_size e) I.ok.above))).trans e1⟩
  ·obtain ⟨o',e1⟩:=I.base.there b o e hx
   exact ⟨o',(hs.2 b (Nat.ne_of_lt (Nat.lt_of_lt_of_le (Heap.lt_size e) I.ok.above))).trans e1⟩
  ·by_cases hj:j = i
   ·subst hj
    rw [hi] at e1; cases e1
    rw [List.getElem?_set_self hiσ] at e2
    cases e2
    exact ⟨u,r,.inl ⟨hk,by simp⟩⟩
   ·rw [List.getElem?_set_ne (Ne.symm hj)] at e2
    obtain ⟨u',r',q⟩:=hl j y v' e1 e2 e3
    refine ⟨u',r',?_⟩
    rcases q with ⟨k,e⟩ | ⟨k,c,e,z⟩
    ·refine .inl ⟨k,?_⟩
     have:y ≠ x:=fun e=>hj (nodup_ix hN e1 (e ▸ hi))
     simp [this,e]
    ·exact .inr ⟨k,c,e,z.sameBut hs (cne y c e)⟩
  ·obtain ⟨w',z⟩:=I.cell y c e
   exact ⟨w',z.sameBut hs (cne y c e)⟩
  ·obtain ⟨e,n,ne,nf,d⟩:=I.pin p hp
   exact ⟨(hs.2 p.1 ne).trans e,n,ne,nf,d⟩
 ·have hfn:X.fn x = true:=by
   rcases hf with z | z
   ·exact z
   ·rw [z] at hk; cases hk
  obtain ⟨c,hc⟩:=I.ok.has x (.inl hk)
  obtain ⟨w',z⟩:=I.cell x c hc
  refine wpAny_storeName_cell I.ok.kind hk hc z (fun h' hc' hs=>?_)
  obtain ⟨oc,hoc,hocd⟩:=id z
  refine h { s with heap:=h' } ⟨I.ok,I.os,I.bare,⟨fun b o e n hb hx=>?_,fun b o e n hb hx=>?_,I.base.free,fun b o e hx=>?_,I.base.tups,I.base.frzs,I.base.tbls⟩,⟨m,hn.sameBut hs (Ne.symm (cne x c hc)),fun j y v' e1 e2 e3=>?_⟩,fun y c' e=>?_,I.free,I.freeC,fun p hp=>?_,tracked ⟨oc,hoc,I.freeC x c hc⟩ hs,by simpa using I.len⟩ ⟨c,hs,.inr hc⟩
  ·exact (hs.2 b (Nat.ne_of_lt (Nat.lt_of_lt_of_le (Heap.lt_size e) (I.ok.cab x c hfn hc)))).trans (I.base.keep b o e n hb hx)
  ·obtain ⟨sl,e1⟩:=I.base.slot b o e n hb hx
   exact ⟨sl,(hs.2 b (Nat.ne_of_lt (Nat.lt_of_lt_of_le (Heap.lt_size e) (I.ok.cab x c hfn hc)))).trans e1⟩
  ·obtain ⟨o',e1⟩:=I.base.there b o e hx
   exact ⟨o',(hs.2 b (Nat.ne_of_lt (Nat.lt_of_lt_of_le (Heap.lt_size e) (I.ok.cab x c hfn hc)))).trans e1⟩
  ·by_cases hj:j = i
   ·subst hj
    rw [hi] at e1; cases e1
    rw [List.getElem?_set_self hiσ] at e2
    cases e2
    exact ⟨u,r,.inr ⟨.inl hk,c,hc,hc'⟩⟩
   ·rw [List.getElem?_set_ne (Ne.symm hj)] at e2
    obtain ⟨u',r',q⟩:=hl j y v' e1 e2 e3
    refine ⟨u',r',?_⟩
    rcases q with q | ⟨k,c',e,z'⟩
    ·exact .inl q
    ·refine .inr ⟨k,c',e,z'.sameBut hs ?_⟩
     rintro rfl
     exact hj (nodup_ix hN e1 (I.ok.inj _ _ _ e hc ▸ hi))
  ·by_cases hcc:c' = c
   ·subst hcc; exact ⟨_,hc'⟩
   ·obtain ⟨w2,z2⟩:=I.cell y c' e
    exact ⟨w2,z2.sameBut hs hcc⟩
  ·obtain ⟨e,n,ne,nf,d⟩:=I.pin p hp
   refine ⟨(hs.2 p.1 ?_).trans e,n,ne,nf,d⟩
   intro q
   rw [q,hoc] at e
   have q':oc = p.2:=Option.some.inj e
   exact d w' (by rw [<- q']; exact hocd)
theorem store_ok {M:Model} {A:Around} {E:Value -> Shared -> Prop} {i:Nat} {x:Str} {v:V} {u:Value} {Q:Unit -> Shared -> Prop} (I:Inv X pins σ H s) (hN:X.N.Nodup) (hi:X.N[i]? = some x) (hx:Loc X.env.scope x) (r:RelV v u)
  (h:∀ s',Inv X pins (σ.set i (some v)) H s' -> Q () s') (hf:X.fn x = true \/ X.env.scope.names.lookup x = some .local:=by first | exact .inl rfl | exact .inr rfl | assumption):wpAny M A (storeName X.env x u) Q E s :=
 store_ok2 I hN hi hx r (fun s' I' _=>h s' I') hf
theorem Inv.call' {s':Shared} {ch:List Addr} (I:Inv X pins σ H s) (ho:s'.os = s.os) (u:Un (frs X.stack) ch H H' s.heap s'.heap) (hok:HOk X.prog X.w H' s'.heap) (hg:AllBare s'.gens)
  (hch:∀ b ∈ ch,(b ∈ X.ex \/ X.s₀.heap.objs.size <= b) /\ b ≠ X.env.locals /\ (∀ x c,X.env.cells.lookup x = some c -> c ≠ b) /\ ∀ p ∈ X.pn ++ pins,p.1 ≠ b):Inv X pins σ H' s':=by
 obtain ⟨h',g',d',t',o'⟩:=s'
 have e:o' = s.os:=ho
 subst e
 exact I.call (g':=g') (t':=t') (d':=d') u hok hg hch
end
noncomputable abbrev XK:=Value -> Option Addr -> Hp -> Prop
noncomputable abbrev St:=List (Option V)
noncomputable abbrev VK:=V -> Hp -> Prop
noncomputable abbrev TE:=St -> Hp -> VK -> Prop
noncomputable abbrev TT:=St -> Hp -> (Bool -> Hp -> Prop) -> Prop
noncomputable abbrev TA:=St -> Hp -> (List V -> Hp -> Prop) -> Prop
structure Ends where
 nx:St -> Hp -> Prop
 rt:VK
 bk:St -> Hp -> Prop:=fun _ _=>False
 ct:St -> Hp -> Prop:=fun _ _=>False
noncomputable abbrev TS:=Ends -> St -> Hp -> Prop
noncomputable def EP (X:Cx) (pins:List (Addr × Obj)) (σ:St) (Q:VK) (u:Value) (s':Shared):Prop:=∃ v H',Inv X pins σ H' s' /\ RelV v u /\ Q v H'
noncomputable def TP (X:Cx) (pins:List (Addr × Obj)) (σ:St) (Q:Bool -> Hp -> Prop) (b:Bool) (s':Shared):Prop:=∃ H',Inv X pins σ H' s' /\ Q b H'
noncomputable def AP (X:Cx) (pins:List (Addr × Obj)) (σ:St) (Q:List V -> Hp -> Prop) (us:List Value) (s':Shared):Prop:=∃ vs H',Inv X pins σ H' s' /\ Vals vs us /\ Q vs H'
noncomputable def SP (X:Cx) (pins:List (Addr × Obj)) (D:Ends) (f:Flow) (s':Shared):Prop :=
 match f with
 | .next=>∃ σ' H',Inv X pins σ' H' s' /\ D.nx σ' H'
 | .brk=>∃ σ' H',Inv X pins σ' H' s' /\ D.bk σ' H'
 | .cont=>∃ σ' H',Inv X pins σ' H' s' /\ D.ct σ' H'
 | .ret u=>∃ v σ' H',Inv X pins σ' H' s' /\ RelV v u /\ D.rt v H'
noncomputable def PE (X:Cx) (e:Expr) (t:TE):Prop :=
 ∀ (pins:List (Addr × Obj)) (s:Shared) (σ:St) (H:Hp) (Q:VK),Inv X pins σ H s -> t σ H Q -> wpAny (model X.prog X.w) X.A (eval e X.env) (EP X pins σ Q) X.xe s
noncomputable def PT (X:Cx) (e:Expr) (t:TT):Prop :=
 ∀ (pins:List (Addr × Obj)) (s:Shared) (σ:St) (H:Hp) (Q:Bool -> Hp -> Prop),Inv X pins σ H s -> t σ H Q -> wpAny (model X.prog X.w) X.A (isTrue e X.env (eval e X.env)) (TP X pins σ Q) X.xe s
noncomputable def PW (X:Cx) (e:Expr) (t:TT):Prop :=
 ∀ (whole:Sem Value) (pins:List (Addr × Obj)) (s:Shared) (σ:St) (H:Hp) (Q:Bool -> Hp -> Prop),Inv X pins σ H s -> t σ H Q -> wpAny (model X.prog X.w) X.A (isTrue e X.env whole) (TP X pins σ Q) X.xe s
theorem PW.pt {X:Cx} {e:Expr} {t:TT} (h:PW X e t):PT X e t:=h _
noncomputable def PA (X:Cx) (es:List Expr) (t:TA):Prop :=
 ∀ (pos:Pos) (pins:List (Addr × Obj)) (s:Shared) (σ:St) (H:Hp) (Q:List V -> Hp -> Prop),Inv X pins σ H s -> t σ H Q -> wpAny (model X.prog X.w) X.A (spliced (backTo pos (starEach es X.env))) (AP X pins σ Q) X.xe s
noncomputable def PS (X:Cx) (st:Stmt) (t:TS):Prop :=
 ∀ (pins:List (Addr × Obj)) (s:Shared) (σ:St) (H:Hp) (D:Ends),Inv X pins σ H s -> t D σ H -> wpAny (model X.prog X.w) X.A (exec st X.env) (SP X pins D) X.xe s
noncomputable def PSs (X:Cx) (st:List Stmt) (t:TS):Prop :=
 ∀ (pins:List (Addr × Obj)) (s:Shared) (σ:St) (H:Hp) (D:Ends),Inv X pins σ H s -> t D σ H -> wpAny (model X.prog X.w) X.A (execs st X.env) (SP X pins D) X.xe s
theorem thn {α:Type} {t:Sem α} {Q Q':α -> Shared -> Prop} {M:Model} {A:Around} {E:Value -> Shared -> Prop} {s:Shared} (h:wpAny M A t Q E s) (hQ:∀ a s,Q a s -> Q' a s):wpAny M A t Q' E s:=wpAny_mono h hQ fun _ _ x=>x
end L2
namespace L2
open PySem PySem.Spec PyProof.Rows
section
variable {X:Cx}
noncomputable def tVar (i:Nat):TE:=fun σ H Q=>∃ v,σ[i]? = some (some v) /\ Q v H
noncomputable def tC (v:V):TE:=fun _ H Q=>Q v H
theorem pe_var {i:Nat} {x:Str} {pos:Pos} (hN:X.N[i]? = some x) (hv:Vis X.env.scope x) (hd:(x == ("__debug__":Str)) = false:=by decide) (hcd:(x == ("__classdict__":Str)) = false:=by decide):PE X (.Name x pos) (tVar i):=by
 intro pins s σ H Q I h
 obtain ⟨v,e,h⟩:=h
 obtain ⟨m,hn,hl⟩:=I.loc
 obtain ⟨u,r,l⟩:=hl i x v hN e hv
 have fin:EP X pins σ Q u s:=⟨v,H,I,r,h⟩
 rcases l with ⟨hk,hm⟩ | ⟨hk,c,hc,hcell⟩
 ·exact wpAny_Name (wpAny_loadName_local I.ok.kind hk hn hm fin) hd
 ·rcases hk with hk | hk
  ·exact wpAny_Name (wpAny_loadName_cell I.ok.kind hk hc hcell fin) hd
  ·exact wpAny_Name (wpAny_loadName_free I.ok.kind hk hc hcell fin hcd) hd
theorem pe_int {i j pos}:PE X (.Constant (.int i) j pos) (tC (.int i)):=fun _ _ _ H _ I h=>wpAny_Constant_int ⟨.int i,H,I.tok _,⟨_,rfl⟩,h⟩
theorem pe_bl {b j pos}:PE X (.Constant (.bool b) j pos) (tC (.bl b)):=fun _ _ _ H _ I h=>Constant_bool ⟨.bl b,H,I,rfl,h⟩
theorem pe_non {j pos}:PE X (.Constant .none j pos) (tC .non):=fun _ _ _ H _ I h=>Constant_none ⟨.non,H,I,rfl,h⟩
theorem pe_str {x j pos}:PE X (.Constant (.str x) j pos) (tC (.str x)):=fun _ _ _ H _ I h=>Calls.Constant_str ⟨.str x,H,I.tok _,⟨_,rfl⟩,h⟩
noncomputable def Gl (X:Cx) (x:Str):Prop:=X.env.kindOf x = some .globalImplicit
theorem ld_glob {E:Value -> Shared -> Prop} {pins:List (Addr × Obj)} {s:Shared} {σ:St} {H:Hp} {x:Str} {u:Value} {pos:Pos} {Q:Value -> Shared -> Prop} (I:Inv X pins σ H s) (hg:Gl X x) (hm:X.mg x = some u) (h:Q u s)
  (hd:(x == ("__debug__":Str)) = false:=by decide):wpAny (model X.prog X.w) X.A (eval (.Name x pos) X.env) Q E s :=
 Calls.Name_function_global I.ok.kind hg (Calls.loadGlobal_global (by rw [I.ok.glob]; exact I.mod.glob.keeps I.bk) hm h) hd
theorem ld_blt {E:Value -> Shared -> Prop} {pins:List (Addr × Obj)} {s:Shared} {σ:St} {H:Hp} {x:Str} {u:Value} {pos:Pos} {Q:Value -> Shared -> Prop} (I:Inv X pins σ H s) (hg:Gl X x) (hm:X.mg x = none) (hv:bootBuiltins x = some u) (h:Q u s)
  (hn:x ≠ "__name__":=by decide) (hd:(x == ("__debug__":Str)) = false:=by decide):wpAny (model X.prog X.w) X.A (eval (.Name x pos) X.env) Q E s:=by
 obtain ⟨mb,h1,h2⟩:=I.mod.blt
 exact Calls.Name_function_global I.ok.kind hg (Calls.loadGlobal_builtin (by rw [I.ok.glob]; exact I.mod.glob.keeps I.bk) hm (by rw [I.ok.blt]; exact h1.keeps I.bk) ((h2 x hn).trans hv) h) hd
theorem pe_glob {x:Str} {v:V} {u:Value} {pos:Pos} (hg:Gl X x) (hm:X.mg x = some u) (r:RelV v u) (hd:(x == ("__debug__":Str)) = false:=by decide):PE X (.Name x pos) (tC v) :=
 fun _ _ _ H _ I h=>ld_glob I hg hm ⟨v,H,I,r,h⟩ hd
theorem pe_bltn {x:Str} {v:V} {u:Value} {pos:Pos} (hg:Gl X x) (hm:X.mg x = none) (hv:bootBuiltins x = some u) (r:RelV v u) (hn:x ≠ "__name__":=by decide) (hd:(x == ("__debug__":Str)) = false:=by decide):PE X (.Name x pos) (tC v) :=
 fun _ _ _ H _ I h=>ld_blt I hg hm hv ⟨v,H,I,r,h⟩ hn hd
variable {a b:Expr} {ta tb:TE} {pos:Pos}
noncomputable def tB (t:TE):TT:=fun σ H Q=>t σ H fun x H1=>∃ c,x = .bl c /\ Q c H1
theorem pt_val {e:Expr} {t:TE} (h:PE X e t) (he:∀ whole,isTrue e X.env whole = (do let v <- whole; standAt e.pos; holding [v] (truthy v)):=by intro _; rfl):PT X e (tB t):=by
 intro pins s σ H Q I hw
 refine isTrue_plain (thn (h pins s σ H _ I hw) fun v s1 ⟨x,H1,I1,r1,q1⟩=>?_) (he _)
 obtain ⟨d,rfl,q⟩:=q1
 cases r1
 exact wpAny_truthy_bool ⟨H1,I1,q⟩
variable {tA tB':TT} {rest:List Expr}
noncomputable def tAnd (t u:TT):TT:=fun σ H Q=>t σ H fun c H1=>if c = true then u σ H1 Q else Q false H1
noncomputable def tOr (t u:TT):TT:=fun σ H Q=>t σ H fun c H1=>if c = true then Q true H1 else u σ H1 Q
noncomputable def tNot (t:TT):TT:=fun σ H Q=>t σ H fun c H1=>Q (!c) H1
theorem pw_and1 (ha:PT X a tA):PW X (.BoolOp .And [a] pos) tA:=by
 intro wh pins s σ H Q I h
 refine isTrue_and (thn (ha pins s σ H Q I h) fun c s1 e=>?_)
 cases c with
 | true=>exact isTrue_and_nil e
 | false=>exact e
theorem pw_or1 (ha:PT X a tA):PW X (.BoolOp .Or [a] pos) tA:=by
 intro wh pins s σ H Q I h
 refine isTrue_or (thn (ha pins s σ H Q I h) fun c s1 e=>?_)
 cases c with
 | false=>exact isTrue_or_nil e
 | true=>exact e
theorem pw_and (ha:PT X a tA) (hb:PW X (.BoolOp .And (b :: rest) pos) tB'):PW X (.BoolOp .And (a :: b :: rest) pos) (tAnd tA tB'):=by
 intro wh pins s σ H Q I h
 refine isTrue_and (thn (ha pins s σ H _ I h) fun c s1 ⟨H1,I1,q1⟩=>?_)
 cases c with
 | true=>exact hb wh pins s1 σ H1 Q I1 q1
 | false=>exact ⟨H1,I1,q1⟩
theorem pw_or (ha:PT X a tA) (hb:PW X (.BoolOp .Or (b :: rest) pos) tB'):PW X (.BoolOp .Or (a :: b :: rest) pos) (tOr tA tB'):=by
 intro wh pins s σ H Q I h
 refine isTrue_or (thn (ha pins s σ H _ I h) fun c s1 ⟨H1,I1,q1⟩=>?_)
 cases c with
 | true=>exact ⟨H1,I1,q1⟩
 | false=>exact hb wh pins s1 σ H1 Q I1 q1
theorem pt_not (ha:PT X a tA):PT X (.UnaryOp .Not a pos) (tNot tA):=by
 intro pins s σ H Q I h
 exact isTrue_not (ha pins s σ H (fun c H1=>Q (!c) H1) I h)
noncomputable def tAndV (ta tb:TE):TE:=fun σ H Q=>ta σ H fun x H1=>∃ c,x = .bl c /\ if c = true then tb σ H1 Q else Q (.bl false) H1
noncomputable def tOrV (ta tb:TE):TE:=fun σ H Q=>ta σ H fun x H1=>∃ c,x = .bl c /\ if c = true then Q (.bl true) H1 else tb σ H1 Q
noncomputable def tNotV (ta:TE):TE:=fun σ H Q=>ta σ H fun x H1=>∃ c,x = .bl c /\ Q (.bl (!c)) H1
theorem pe_one {op} {t:TE} (h:PE X a t):PE X (.BoolOp op [a] pos) t:=fun pins s σ H Q I hw=>BoolOp_one (h pins s σ H Q I hw)
theorem pe_and (ha:PE X a ta) (hb:PE X (.BoolOp .And (b :: rest) pos) tb):PE X (.BoolOp .And (a :: b :: rest) pos) (tAndV ta tb):=by
 intro pins s σ H Q I h
 refine BoolOp_and (thn (ha pins s σ H _ I h) fun v s1 ⟨x,H1,I1,r1,q1⟩=>?_)
 obtain ⟨c,rfl,q1⟩:=q1
 cases r1
 refine wpAny_truthy_bool ?_
 cases c with
 | true=>exact hb pins s1 σ H1 Q I1 q1
 | false=>exact ⟨.bl false,H1,I1,rfl,q1⟩
theorem pe_or (ha:PE X a ta) (hb:PE X (.BoolOp .Or (b :: rest) pos) tb):PE X (.BoolOp .Or (a :: b :: rest) pos) (tOrV ta tb):=by
 intro pins s σ H Q I h
 refine BoolOp_or (thn (ha pins s σ H _ I h) fun v s1 ⟨x,H1,I1,r1,q1⟩=>?_)
 obtain ⟨c,rfl,q1⟩:=q1
 cases r1
 refine wpAny_truthy_bool ?_
 cases c with
 | false=>exact hb pins s1 σ H1 Q I1 q1
 | true=>exact ⟨.bl true,H1,I1,rfl,q1⟩
theorem pe_not (ha:PE X a ta):PE X (.UnaryOp .Not a pos) (tNotV ta):=by
 intro pins s σ H Q I h
 refine UnaryOp_ (thn (ha pins s σ H _ I h) fun v s1 ⟨x,H1,I1,r1,q1⟩=>?_)
 obtain ⟨c,rfl,q1⟩:=q1
 cases r1
 exact not_of (wpAny_truthy_bool ⟨.bl (!c),H1,I1,rfl,q1⟩)
noncomputable def tIf (t:TT) (ta tb:TE):TE:=fun σ H Q=>t σ H fun c H1=>if c = true then ta σ H1 Q else tb σ H1 Q
theorem pe_ifExp {c:Expr} (hc:PT X c tA) (ha:PE X a ta) (hb:PE X b tb):PE X (.IfExp c a b pos) (tIf tA ta tb):=by
 intro pins s σ H Q I h
 refine wpAny_IfExp (thn (hc pins s σ H _ I h) fun d s1 ⟨H1,I1,q1⟩=>?_)
 cases d with
 | true=>exact ha pins s1 σ H1 Q I1 q1
 | false=>exact hb pins s1 σ H1 Q I1 q1
end
end L2
namespace L2
open PySem PySem.Spec PyProof.Rows
noncomputable def SqL (K:PySem.W.Frag) (H:Hp) (a:Addr) (xs:List V):Prop :=
 Rd H a (.lst xs) \/
  ∃ (o:Obj) (its:Array Value) (n:Nat),K.lookup a = some o /\ o.cls = .type "list" /\ o.dict = none /\ o.data = .seq its n /\ its.size <= sizeLine /\ Vals xs its.toList
noncomputable def SqT (K:PySem.W.Frag) (H:Hp) (a:Addr) (xs:List V):Prop :=
 Rd H a (.tup xs) \/
  ∃ (o:Obj) (its:Array Value) (n:Nat),K.lookup a = some o /\ o.cls = .type "tuple" /\ o.data = .seq its n /\ its.size <= sizeLine /\ Vals xs its.toList
noncomputable def absV:Value -> Option V
 | .none=>some .non
 | .bool b=>some (.bl b)
 | .int i _=>some (.int i)
 | .str x _=>some (.str x)
 | .bytes b _=>some (.byt b)
 | .float b _=>some (.flt b)
 | .ref a=>some (.ref a)
 | .type n=>some (.ty n)
 | _=>none
theorem RelV.abs {x:V} {u:Value} (r:RelV x u):absV u = some x:=by
 cases x with
 | non=>cases r; rfl
 | bl _=>cases r; rfl
 | int _=>obtain ⟨t,rfl⟩:=r; rfl
 | str _=>obtain ⟨t,rfl⟩:=r; rfl
 | byt _=>obtain ⟨t,rfl⟩:=r; rfl
 | flt _=>obtain ⟨t,rfl⟩:=r; rfl
 | ref _=>cases r; rfl
 | ty _=>cases r; rfl
theorem RelV.inj {x y:V} {u:Value} (r:RelV x u) (q:RelV y u):x = y:=Option.some.inj (r.abs.symm.trans q.abs)
theorem Vals.inj:∀ {xs ys:List V} {us:List Value},Vals xs us -> Vals ys us -> xs = ys
 | _,_,_,.nil,.nil=>rfl
 | _,_,_,.cons r t,.cons r' t'=>by rw [r.inj r',Vals.inj t t']
section
variable {X:Cx} {pins:List (Addr × Obj)} {σ:St} {H:Hp} {s:Shared} {a:Addr} {xs ys:List V}
theorem SqL.of {K:PySem.W.Frag} (h:H a = some (.lst xs)):SqL K H a xs:=.inl (.inl h)
theorem SqT.of {K:PySem.W.Frag} (h:H a = some (.tup xs)):SqT K H a xs:=.inl (.inl h)
theorem Inv.list (I:Inv X pins σ H s) (h:SqL X.K H a xs):∃ its:List Value,Vals xs its /\ PlainL s.heap a its.toArray /\ xs.length <= sizeLine:=by
 rcases h with h | ⟨o,its,n,hk,hc,hd,hs,hz,r⟩
 ·obtain ⟨z,its,n,r,e⟩:=h.ok I.hok
  exact ⟨its,r,⟨_,n,e,rfl,rfl,rfl⟩,z⟩
 ·refine ⟨its.toList,r,⟨o,n,I.kIn a o hk,hc,hd,by simpa using hs⟩,?_⟩
  have e:=r.length
  simp only [Array.length_toList] at e
  omega
theorem Inv.tuple (I:Inv X pins σ H s) (h:SqT X.K H a xs):∃ its:List Value,Vals xs its /\ IsTup s.heap a its.toArray /\ xs.length <= sizeLine:=by
 rcases h with h | ⟨o,its,n,hk,hc,hs,hz,r⟩
 ·obtain ⟨z,its,r,p⟩:=h.ok I.hok
  exact ⟨its,r,p.t,z⟩
 ·refine ⟨its.toList,r,⟨o,I.kIn a o hk,hc,n,by simpa using hs⟩,?_⟩
  have e:=r.length
  simp only [Array.length_toList] at e
  omega
theorem Inv.list_inj (I:Inv X pins σ H s) (h:SqL X.K H a xs) (h':SqL X.K H a ys):xs = ys:=by
 obtain ⟨its,r,⟨o,n,e,_,_,d⟩,_⟩:=I.list h
 obtain ⟨its',r',⟨o',n',e',_,_,d'⟩,_⟩:=I.list h'
 rw [e] at e'; cases e'
 rw [d] at d'
 injection d' with d1 _
 have:its = its':=by simpa using congrArg Array.toList d1
 subst this
 exact r.inj r'
theorem Inv.tuple_inj (I:Inv X pins σ H s) (h:SqT X.K H a xs) (h':SqT X.K H a ys):xs = ys:=by
 obtain ⟨its,r,⟨o,e,_,n,d⟩,_⟩:=I.tuple h
 obtain ⟨its',r',⟨o',e',_,n',d'⟩,_⟩:=I.tuple h'
 rw [e] at e'; cases e'
 rw [d] at d'
 injection d' with d1 _
 have:its = its':=by simpa using congrArg Array.toList d1
 subst this
 exact r.inj r'
end
noncomputable abbrev Cx.wish (X:Cx) (E:Value -> Shared -> Prop):Cx:={ X with xe:=E }
noncomputable abbrev Cx.nox (X:Cx):Cx:=X.wish fun _ _=>False
theorem Cx.Ok.wish {X:Cx} (ok:X.Ok) (E:Value -> Shared -> Prop):(X.wish E).Ok :=
 ⟨ok.mod,ok.kind,ok.glob,ok.blt,ok.above,ok.inj,ok.has,ok.cab,ok.hd,ok.frames,ok.stk,ok.exf,ok.bs,ok.bsz,ok.noex,ok.exfs,ok.funs,ok.frf⟩
theorem Cx.Ok.unwish {X:Cx} {E:Value -> Shared -> Prop} (ok:(X.wish E).Ok):X.Ok :=
 ⟨ok.mod,ok.kind,ok.glob,ok.blt,ok.above,ok.inj,ok.has,ok.cab,ok.hd,ok.frames,ok.stk,ok.exf,ok.bs,ok.bsz,ok.noex,ok.exfs,ok.funs,ok.frf⟩
section
variable {X:Cx} {pins:List (Addr × Obj)} {σ:St} {H:Hp} {s:Shared} {E:Value -> Shared -> Prop}
theorem Inv.wish (I:Inv X pins σ H s) (E:Value -> Shared -> Prop):Inv (X.wish E) pins σ H s:=⟨I.ok.wish E,I.os,I.bare,I.base,I.loc,I.cell,I.free,I.freeC,I.pin,I.hok,I.len⟩
theorem Inv.unwish (I:Inv (X.wish E) pins σ H s):Inv X pins σ H s:=⟨I.ok.unwish,I.os,I.bare,I.base,I.loc,I.cell,I.free,I.freeC,I.pin,I.hok,I.len⟩
theorem SP.unwish {D:Ends} {f:Flow} {s':Shared} (h:SP (X.wish E) pins D f s'):SP X pins D f s':=by
 cases f with
 | next=>obtain ⟨σ',H',I,q⟩:=h; exact ⟨σ',H',I.unwish,q⟩
 | brk=>obtain ⟨σ',H',I,q⟩:=h; exact ⟨σ',H',I.unwish,q⟩
 | cont=>obtain ⟨σ',H',I,q⟩:=h; exact ⟨σ',H',I.unwish,q⟩
 | ret u=>obtain ⟨v,σ',H',I,r,q⟩:=h; exact ⟨v,σ',H',I.unwish,r,q⟩
theorem PT.nox {e:Expr} {t:TT} (h:PT X.nox e t):PT X e t:=fun pins s σ H Q I hw =>
 wpAny_mono (h pins s σ H Q (I.wish _) hw) (fun _ _ ⟨H',I',q⟩=>⟨H',I'.unwish,q⟩) fun _ _ z=>False.elim z
theorem PSs.nox {st:List Stmt} {t:TS} (h:PSs X.nox st t):PSs X st t:=fun pins s σ H D I hw =>
 wpAny_mono (h pins s σ H D (I.wish _) hw) (fun _ _ q=>q.unwish) fun _ _ z=>False.elim z
end
section
variable {X:Cx} {st:Stmt} {rest:List Stmt} {t u:TS} {e:Expr} {te:TE} {pos:Pos}
noncomputable def tNext:TS:=fun D σ H=>D.nx σ H
noncomputable def tSeq (t u:TS):TS:=fun D σ H=>t { D with nx:=u D } σ H
theorem pss_nil:PSs X [] tNext:=fun _ _ σ H _ I h=>wpAny_execs_nil ⟨σ,H,I,h⟩
theorem pss_cons (h1:PS X st t) (h2:PSs X rest u):PSs X (st :: rest) (tSeq t u):=by
 intro pins s σ H D I h
 refine wpAny_execs_cons (thn (h1 pins s σ H { D with nx:=u D } I h) fun f s1 q=>?_)
 cases f with
 | next =>
  obtain ⟨σ',H',I',q⟩:=q
  exact h2 pins s1 σ' H' D I' q
 | ret v=>exact q
 | brk=>exact q
 | cont=>exact q
theorem pss_one (h1:PS X st t):PSs X [st] t:=by
 intro pins s σ H D I h
 refine wpAny_execs_cons (thn (h1 pins s σ H D I h) fun f s1 q=>?_)
 cases f with
 | next=>exact wpAny_execs_nil q
 | ret v=>exact q
 | brk=>exact q
 | cont=>exact q
theorem Inv.quiet {pins:List (Addr × Obj)} {σ:St} {H:Hp} {s:Shared} (I:Inv X pins σ H s):interactive X.env = false:=by simp [interactive,I.ok.kind]
noncomputable def tDrop (te:TE):TS:=fun D σ H=>te σ H fun _ H1=>D.nx σ H1
theorem ps_expr (he:PE X e te) (hs:swapsWith e none pos.line X.env = pure false:=by rfl):PS X (.Expr e pos) (tDrop te):=by
 intro pins s σ H D I h
 exact wpAny_Expr_any (thn (he pins s σ H _ I h) fun v s1 ⟨x,H1,I1,r1,q1⟩=>⟨σ,H1,I1,q1⟩) I.quiet hs
noncomputable def tRet (te:TE):TS:=fun D σ H=>te σ H D.rt
theorem ps_ret (he:PE X e te):PS X (.Return (some e) pos) (tRet te):=by
 intro pins s σ H D I h
 exact wpAny_Return_some (thn (he pins s σ H _ I h) fun v s1 ⟨x,H1,I1,r1,q1⟩=>⟨x,σ,H1,I1,r1,q1⟩)
noncomputable def tIfS (c:TT) (t u:TS):TS:=fun D σ H=>c σ H fun b H1=>if b = true then t D σ H1 else u D σ H1
theorem ps_if {c:Expr} {a b:List Stmt} {tc:TT} (hc:PT X c tc) (ha:PSs X a t) (hb:PSs X b u):PS X (.If c a b pos) (tIfS tc t u):=by
 intro pins s σ H D I h
 refine wpAny_If (thn (hc pins s σ H _ I h) fun d s1 ⟨H1,I1,q1⟩=>?_)
 cases d with
 | true=>exact ha pins s1 σ H1 D I1 q1
 | false=>exact hb pins s1 σ H1 D I1 q1
end
noncomputable abbrev TG:=V -> St -> Hp -> (St -> Hp -> Prop) -> Prop
noncomputable abbrev TGs:=List V -> St -> Hp -> (St -> Hp -> Prop) -> Prop
noncomputable def PG (X:Cx) (target:Expr) (t:TG):Prop :=
 ∀ (pins:List (Addr × Obj)) (s:Shared) (σ:St) (H:Hp) (v:V) (u:Value) (Q:St -> Hp -> Prop),Inv X pins σ H s -> RelV v u -> t v σ H Q ->
  wpAny (model X.prog X.w) X.A (assign target X.env u) (fun _ s'=>∃ σ' H',Inv X pins σ' H' s' /\ Q σ' H') X.xe s
noncomputable def PGs (X:Cx) (ts:List Expr) (t:TGs):Prop :=
 ∀ (pins:List (Addr × Obj)) (s:Shared) (σ:St) (H:Hp) (vs:List V) (us:List Value) (Q:St -> Hp -> Prop),Inv X pins σ H s -> Vals vs us -> t vs σ H Q ->
  wpAny (model X.prog X.w) X.A (assignInOrder ((assignEach ts X.env).map (·.2)) us) (fun _ s'=>∃ σ' H',Inv X pins σ' H' s' /\ Q σ' H') X.xe s
noncomputable abbrev TSet:=V -> V -> V -> Hp -> (Hp -> Prop) -> Prop
noncomputable def PSet (X:Cx) (t:TSet):Prop :=
 ∀ (pins:List (Addr × Obj)) (s:Shared) (σ:St) (H:Hp) (o i v:V) (ov iv u:Value) (Q:Hp -> Prop),Inv X pins σ H s -> RelV o ov -> RelV i iv -> RelV v u -> t o i v H Q ->
  wpAny (model X.prog X.w) X.A (setItem ov iv u) (fun _ s'=>∃ H',Inv X pins σ H' s' /\ Q H') X.xe s
section
variable {X:Cx} {pos:Pos}
noncomputable def gName (i:Nat):TG:=fun v σ H Q=>Q (σ.set i (some v)) H
theorem pg_name {i:Nat} {x:Str} (hN:X.N.Nodup) (hi:X.N[i]? = some x) (hx:Loc X.env.scope x) (hf:X.fn x = true \/ X.env.scope.names.lookup x = some .local:=by first | exact .inl rfl | exact .inr rfl | assumption):PG X (.Name x pos) (gName i):=by
 intro pins s σ H v u Q I r h
 exact wpAny_assign_Name (store_ok I hN hi hx r (fun s' I'=>⟨_,H,I',h⟩) hf)
noncomputable def gNil:TGs:=fun vs σ H Q=>vs = [] /\ Q σ H
noncomputable def gCons (t:TG) (u:TGs):TGs:=fun vs σ H Q=>∃ v r,vs = v :: r /\ t v σ H fun σ' H'=>u r σ' H' Q
theorem pgs_nil:PGs X [] gNil:=by
 intro pins s σ H vs us Q I r h
 obtain ⟨e,h⟩:=h
 subst e
 cases r
 exact assignInOrder_nil ⟨σ,H,I,h⟩
theorem pgs_cons {e:Expr} {es:List Expr} {t:TG} {u:TGs} (h1:PG X e t) (h2:PGs X es u)
  (hs:(assignEach (e :: es) X.env).map (·.2) = assign e X.env :: (assignEach es X.env).map (·.2):=by rfl):PGs X (e :: es) (gCons t u):=by
 intro pins s σ H vs us Q I r h
 obtain ⟨v,vr,e1,h⟩:=h
 subst e1
 cases r with
 | cons r rr =>
  rw [hs]
  refine assignInOrder_cons (thn (h1 pins s σ H _ _ _ I r h) fun _ s1 ⟨σ1,H1,I1,q1⟩=>?_)
  exact h2 pins s1 σ1 H1 _ _ Q I1 rr q1
noncomputable def gTup (K:PySem.W.Frag) (n:Nat) (t:TGs):TG:=fun v σ H Q=>∃ a xs,v = .ref a /\ SqT K H a xs /\ xs.length = n /\ t xs σ H Q
theorem pg_tup {es:List Expr} {k:Nat} {t:TGs} {n:Nat} (hc:X.calm = true) (h:PGs X es t)
  (hn:(assignEach es X.env).length = n:=by rfl) (hst:(assignEach es X.env).findIdx? (·.1) = none:=by rfl):PG X (.Tuple es k pos) (gTup X.K n t):=by
 intro pins s σ H v u Q I r hw
 obtain ⟨a,xs,e1,hq,hl,hw⟩:=hw
 subst e1
 cases r
 obtain ⟨its,rv,ht,hz⟩:=I.tuple hq
 refine assign_Tuple_tuple (I.ok.hd hc) ht (by simp [hn,<- hl,rv.length]) hst fun h' hx=>?_
 have I1:Inv X pins σ H { s with heap:=h' }:=I.kept (t':=s.toks) fun b o e=>hx b o (Nat.ne_of_lt (Heap.lt_size e)) e
 exact h pins _ σ H xs _ Q I1 (by simpa using rv) hw
noncomputable def gSub (to ti:TE) (t:TSet):TG:=fun v σ H Q=>to σ H fun o H1=>ti σ H1 fun i H2=>t o i v H2 fun H3=>Q σ H3
theorem pg_sub {o i:Expr} {to ti:TE} {t:TSet} (ho:PE X o to) (hi:PE X i ti) (hs:PSet X t)
  (ha:∀ v,assign (.Subscript o i pos) X.env v = (do
    let ov <- holding [v] (eval o X.env)
    let iv <- holding [v,ov] (eval i X.env)
    standAt pos
    holding [v,ov,iv] (setItem ov iv v)
    release [v,ov,iv] []):=by intro _; rfl):PG X (.Subscript o i pos) (gSub to ti t):=by
 intro pins s σ H v u Q I r h
 rw [ha]
 refine wpAny_bind (wpAny_holding (thn (ho pins s σ H _ I h) fun ov s1 ⟨x,H1,I1,r1,q1⟩=>?_))
 refine wpAny_bind (wpAny_holding (thn (hi pins s1 σ H1 _ I1 q1) fun iv s2 ⟨y,H2,I2,r2,q2⟩=>?_))
 refine wpAny_bind (wpAny_standAt (wpAny_bind (wpAny_holding (thn (hs pins s2 σ H2 x y v ov iv u _ I2 r1 r2 r q2) fun _ s3 ⟨H3,I3,q3⟩=>?_))))
 exact wpAny_release ⟨σ,H3,I3,q3⟩
noncomputable def tAsg (te:TE) (g:TG):TS:=fun D σ H=>te σ H fun x H1=>g x σ H1 D.nx
theorem ps_asg {tg e:Expr} {te:TE} {g:TG} (he:PE X e te) (hg:PG X tg g) (hs:swapsWithSole [tg] e pos.line X.env = pure false:=by rfl) (hw:swappedStores [tg] e X.env = pure none:=by rfl)
  (h1:(assignEach [tg] X.env).map (·.2) = [assign tg X.env]:=by rfl):PS X (.Assign [tg] e pos) (tAsg te g):=by
 intro pins s σ H D I h
 refine wpAny_Assign_stores (thn (he pins s σ H _ I h) fun v s1 ⟨x,H1,I1,r1,q1⟩=>?_) hs hw
 rw [h1]
 exact thn (hg pins s1 σ H1 x v _ I1 r1 q1) fun _ s2 q=>q
theorem ps_set {i:Nat} {x:Str} {e:Expr} {te:TE} {pos':Pos} (hN:X.N.Nodup) (hi:X.N[i]? = some x) (hx:Loc X.env.scope x) (he:PE X e te) (hs:swapsWith e (some (.Name x pos')) pos.line X.env = pure false:=by rfl) (hf:X.fn x = true \/ X.env.scope.names.lookup x = some .local:=by first | exact .inl rfl | exact .inr rfl | assumption) :
  PS X (.Assign [.Name x pos'] e pos) (tAsg te (gName i)):=by
 intro pins s σ H D I h
 refine wpAny_Assign_Name (thn (he pins s σ H _ I h) fun v s1 ⟨y,H1,I1,r1,q1⟩=>?_) hs
 exact store_ok I1 hN hi hx r1 (fun s2 I2=>⟨_,H1,I2,q1⟩) hf
end
section
variable {X:Cx} {pos:Pos}
end
structure It where
 go:Nat -> Hp -> Prop
 yld:Nat -> Hp -> V -> Hp -> Prop
 stop:Nat -> Hp -> Prop
noncomputable def FpOk (X:Cx) (pins:List (Addr × Obj)) (H:Hp) (b:Addr):Prop :=
 H b = none /\ b ≠ X.env.locals /\ b ∉ X.fs /\ (b ∈ X.ex \/ X.s₀.heap.objs.size <= b) /\ (∀ x c,X.env.cells.lookup x = some c -> c ≠ b) /\ ∀ p ∈ X.pn ++ pins,p.1 ≠ b
theorem Inv.fpOk {X:Cx} {pins:List (Addr × Obj)} {σ:St} {H H':Hp} {s:Shared} {b:Addr} (I:Inv X pins σ H s) (hb:s.heap.objs.size <= b) (hn:H' b = none):FpOk X pins H' b:=by
 refine ⟨hn,Nat.ne_of_gt (Nat.lt_of_lt_of_le I.lt hb),I.nofs hb,.inr (Nat.le_trans I.sz hb),fun x c e z=>?_,fun p hp z=>?_⟩
 ·obtain ⟨v,q⟩:=I.cell x c e
  exact absurd (Nat.lt_of_lt_of_le q.lt (by rw [z]; exact hb)) (Nat.lt_irrefl _)
 ·exact absurd (Nat.lt_of_lt_of_le (Heap.lt_size (I.pin p hp).1) (by rw [z]; exact hb)) (Nat.lt_irrefl _)
structure Turn (P:Program) (w:World) (K:PySem.W.Frag) (tg:Expr) (J:It) (fp:List Addr) (it:Addr) (tn:Nat -> Heap -> Prop):Prop where
 mem:it ∈ fp
 obj:∀ i h,tn i h -> ∀ b ∈ fp,∃ o,h.get? b = some o /\ ∀ v,o.data ≠ .cell v
 keep:∀ i h h',tn i h -> (∀ b ∈ fp,∀ o,h.get? b = some o -> h'.get? b = some o) -> tn i h'
 item:∀ (X:Cx),X.prog = P -> X.w = w -> X.K = K -> X.calm = true -> ∀ (i:Nat) (pins:List (Addr × Obj)) (s:Shared) (σ:St) (H:Hp) (E:Value -> Shared -> Prop),Inv X pins σ H s -> (∀ b ∈ fp,FpOk X pins H b) -> tn i s.heap -> J.go i H ->
  wpAny (model P w) X.A (pyNext (.ref it)) (fun r s1=>∃ u,r = some u /\
    wpAny (model P w) X.A (letOwnedTupleGo tg (.ref it) u) (fun _ s2=>∃ x H',Inv X pins σ H' s2 /\ RelV x u /\ J.yld i H x H' /\ tn (i + 1) s2.heap /\ ∀ b ∈ fp,H' b = none) E s1) E s
 done:∀ (X:Cx),X.prog = P -> X.w = w -> X.K = K -> X.calm = true -> ∀ (i:Nat) (pins:List (Addr × Obj)) (s:Shared) (σ:St) (H:Hp) (E:Value -> Shared -> Prop),Inv X pins σ H s -> (∀ b ∈ fp,FpOk X pins H b) -> tn i s.heap -> J.stop i H ->
  wpAny (model P w) X.A (pyNext (.ref it)) (fun r s1=>r = none /\ Inv X pins σ H s1) E s
 self:∀ (A:Around) (i:Nat) (s:Shared) (Q:Value -> Shared -> Prop) (E:Value -> Shared -> Prop),tn i s.heap -> Q (.ref it) s -> wpAny (model P w) A (pyIter (.ref it)) Q E s
noncomputable abbrev TI:=St -> Hp -> (It -> Hp -> Prop) -> Prop
noncomputable def PIE (X:Cx) (pins:List (Addr × Obj)) (σ:St) (tg:Expr) (R:It -> Hp -> Prop) (itv:Value) (s2:Shared):Prop :=
 ∃ (it:Addr) (fp:List Addr) (tn:Nat -> Heap -> Prop) (J:It) (H':Hp),itv = .ref it /\ Inv X pins σ H' s2 /\ Turn X.prog X.w X.K tg J fp it tn /\ tn 0 s2.heap /\ (∀ b ∈ fp,FpOk X pins H' b) /\ R J H'
noncomputable def PI (X:Cx) (tg iter:Expr) (wi:TI):Prop :=
 ∀ (pins:List (Addr × Obj)) (s:Shared) (σ:St) (H:Hp) (R:It -> Hp -> Prop),Inv X pins σ H s -> wi σ H R ->
  wpAny (model X.prog X.w) X.A (eval iter X.env) (fun v s1=>wpAny (model X.prog X.w) X.A (pyIter v) (PIE X pins σ tg R) X.xe s1) X.xe s
theorem go_of {M:Model} {A:Around} {E:Value -> Shared -> Prop} {s:Shared} {tg:Expr} {it:Addr} {u:Value} {o:Obj} {n:String} {vs:Array Value} {Q:Unit -> Shared -> Prop} (ho:s.heap.get? it = some o) (hc:o.cls = .type n) (hd:o.data = .fields vs)
  (hn:["enumerate","zip","dict_itemiterator","dict_reverseitemiterator","odict_iterator","itertools.zip_longest","itertools.pairwise"].contains n = false) (hQ:Q () s):wpAny M A (letOwnedTupleGo tg (.ref it) u) Q E s:=by
 unfold letOwnedTupleGo
 cases tg <;> first
  | exact wpAny_pure hQ
  | (cases u <;> first
      | exact wpAny_pure hQ
      | (refine wpAny_bind (wpAny_load ho ?_)
         rw [hc,hd]
         show wpAny M A (if (["enumerate","zip","dict_itemiterator","dict_reverseitemiterator","odict_iterator","itertools.zip_longest","itertools.pairwise"].contains n && vs[0]? == some (rawInt _)) = true then _ else _) Q E s
         rw [if_neg (by intro h; rw [hn,Bool.false_and] at h; cases h)]
         exact wpAny_pure hQ))
noncomputable def Itl (K:PySem.W.Frag) (a:Addr):It :=
 ⟨fun i H=>∃ xs x,SqL K H a xs /\ xs[i]? = some x,fun i H x H'=>H' = H /\ ∀ xs,SqL K H a xs -> xs[i]? = some x,fun i H=>∃ xs,SqL K H a xs /\ xs.length <= i⟩
noncomputable def Itt (K:PySem.W.Frag) (a:Addr):It :=
 ⟨fun i H=>∃ xs x,SqT K H a xs /\ xs[i]? = some x,fun i H x H'=>H' = H /\ ∀ xs,SqT K H a xs -> xs[i]? = some x,fun i H=>∃ xs,SqT K H a xs /\ xs.length <= i⟩
noncomputable def Itr (lo:Int) (n:Nat):It:=⟨fun i _=>i < n,fun i H x H'=>H' = H /\ x = .int (lo + i),fun i _=>n <= i⟩
theorem turn_list {P:Program} {w:World} {K:PySem.W.Frag} {tg:Expr} (a it:Addr):Turn P w K tg (Itl K a) [it] it (fun i h=>h.IsListIter it a i) where
 mem:=by simp
 obj:=fun i h st b hb=>by
  have e:b = it:=by simpa using hb
  subst e
  obtain ⟨o,e,c,d⟩:=st
  exact ⟨o,e,fun v z=>by rw [d] at z; cases z⟩
 keep:=fun i h h' st k=>st.at fun o e=>k it (by simp) o e
 item:=by
  intro X hP hw hK hc i pins s σ H E I hf st hg
  subst hP hw hK
  obtain ⟨xs,x,hq,hx⟩:=hg
  obtain ⟨its,rv,p,hz⟩:=I.list hq
  obtain ⟨u,hu,ru⟩:=rv.get hx
  obtain ⟨f0,f1,f2,f3,f4,f5⟩:=hf it (by simp)
  refine wpAny_pyNext_list_item st p.isList (x:=u) (by simpa using hu) fun h' st' sb=>?_
  have I1:Inv X pins σ H { s with heap:=h' }:=I.turned (t':=s.toks) (fun b o hb e=>(sb.2 b hb).trans e) f0 f1 f3 f4 f5
  obtain ⟨o,e,c,d⟩:=id st'
  exact ⟨u,rfl,go_of (s:={ s with heap:=h' }) e c d (by decide) ⟨x,H,I1,ru,⟨rfl,fun ys hy=>by rw [I.list_inj hy hq]; exact hx⟩,st',fun b hb=>(hf b hb).1⟩⟩
 done:=by
  intro X hP hw hK hc i pins s σ H E I hf st hg
  subst hP hw hK
  obtain ⟨xs,hq,hx⟩:=hg
  obtain ⟨its,rv,p,hz⟩:=I.list hq
  obtain ⟨f0,f1,f2,f3,f4,f5⟩:=hf it (by simp)
  have hl:=rv.length
  exact wpAny_pyNext_list_end (I.ok.hd hc) st p.isList (by simp; omega) fun h' eb=>⟨rfl,I.turned (t':=s.toks) (fun b o hb e=>eb b o hb e) f0 f1 f3 f4 f5⟩
 self:=fun _ _ _ _ _ st h=>wpAny_pyIter_listiter st h
theorem turn_tuple {P:Program} {w:World} {K:PySem.W.Frag} {tg:Expr} (a it:Addr):Turn P w K tg (Itt K a) [it] it (fun i h=>h.IsTupleIter it a i) where
 mem:=by simp
 obj:=fun i h st b hb=>by
  have e:b = it:=by simpa using hb
  subst e
  obtain ⟨o,e,c,d⟩:=st
  exact ⟨o,e,fun v z=>by rw [d] at z; cases z⟩
 keep:=fun i h h' st k=>st.at fun o e=>k it (by simp) o e
 item:=by
  intro X hP hw hK hc i pins s σ H E I hf st hg
  subst hP hw hK
  obtain ⟨xs,x,hq,hx⟩:=hg
  obtain ⟨its,rv,p,hz⟩:=I.tuple hq
  obtain ⟨u,hu,ru⟩:=rv.get hx
  obtain ⟨f0,f1,f2,f3,f4,f5⟩:=hf it (by simp)
  refine wpAny_pyNext_tuple_item st (show s.heap.IsTuple a its.toArray from p) (x:=u) (by simpa using hu) fun h' st' sb=>?_
  have I1:Inv X pins σ H { s with heap:=h' }:=I.turned (t':=s.toks) (fun b o hb e=>(sb.2 b hb).trans e) f0 f1 f3 f4 f5
  obtain ⟨o,e,c,d⟩:=id st'
  exact ⟨u,rfl,go_of (s:={ s with heap:=h' }) e c d (by decide) ⟨x,H,I1,ru,⟨rfl,fun ys hy=>by rw [I.tuple_inj hy hq]; exact hx⟩,st',fun b hb=>(hf b hb).1⟩⟩
 done:=by
  intro X hP hw hK hc i pins s σ H E I hf st hg
  subst hP hw hK
  obtain ⟨xs,hq,hx⟩:=hg
  obtain ⟨its,rv,p,hz⟩:=I.tuple hq
  obtain ⟨f0,f1,f2,f3,f4,f5⟩:=hf it (by simp)
  have hl:=rv.length
  exact wpAny_pyNext_tuple_end (I.ok.hd hc) st (show s.heap.IsTuple a its.toArray from p) (by simp; omega) fun h' eb=>⟨rfl,I.turned (t':=s.toks) (fun b o hb e=>eb b o hb e) f0 f1 f3 f4 f5⟩
 self:=fun _ _ _ _ _ st h=>wpAny_pyIter_tupleiter st h
theorem turn_range {P:Program} {w:World} {K:PySem.W.Frag} {tg:Expr} (it:Addr) (lo:Int) (n:Nat):Turn P w K tg (Itr lo n) [it] it (fun i h=>IsRangeIter h it (lo + (i:Nat) * 1) ((n:Int) - (i:Nat)) 1) where
 mem:=by simp
 obj:=fun i h st b hb=>by
  have e:b = it:=by simpa using hb
  subst e
  exact ⟨_,st,fun v z=>by
    have z':Data.fields _ = Data.cell v:=z
    cases z'⟩
 keep:=fun i h h' st k=>k it (by simp) _ st
 item:=by
  intro X hP hw hK hc i pins s σ H E I hf st hg
  subst hP hw hK
  obtain ⟨f0,f1,f2,f3,f4,f5⟩:=hf it (by simp)
  have W:=Walks.range (prog:=X.prog) (w:=X.w) (I.ok.hd hc) it lo 1 n
  refine W.item i s _ _ hg st fun v h' tk hv st' kk=>?_
  obtain ⟨t,rfl⟩:=hv
  have I1:Inv X pins σ H { s with heap:=h',toks:=tk }:=I.turned (fun b o hb e=>kk b o (by simpa using hb) e) f0 f1 f3 f4 f5
  refine ⟨_,rfl,go_of (s:={ s with heap:=h',toks:=tk }) (n:="range_iterator") st' rfl rfl (by decide) ⟨.int (lo + i),H,I1,⟨t,?_⟩,⟨rfl,rfl⟩,st',fun b hb=>(hf b hb).1⟩⟩
  rw [Int.mul_one]
 done:=by
  intro X hP hw hK hc i pins s σ H E I hf st hg
  subst hP hw hK
  obtain ⟨f0,f1,f2,f3,f4,f5⟩:=hf it (by simp)
  exact wpAny_pyNext_range_end (I.ok.hd hc) st (by have:n <= i:=hg; omega) fun h' eb=>⟨rfl,I.turned (t':=s.toks) (fun b o hb e=>eb b o hb e) f0 f1 f3 f4 f5⟩
 self:=fun _ _ _ _ _ st h=>wpAny_pyIter_rangeiter st h
end L2
namespace L2
open PySem PySem.Spec PyProof.Rows
section
variable {X:Cx} {tg:Expr}
theorem range_it {pins:List (Addr × Obj)} {σ:St} {H:Hp} {s:Shared} {R:It -> Hp -> Prop} {E:Value -> Shared -> Prop} {lo hi:Int} {t u v:Tok} {tk:Nat} (I:Inv X pins σ H s) (h1:-(2 ^ 62) <= lo) (h2:lo < 2 ^ 62) (h3:-(2 ^ 62) <= hi) (h4:hi < 2 ^ 62)
  (q:R (Itr lo (hi - lo).toNat) H):wpAny (model X.prog X.w) X.A (pyIter (.ref s.heap.objs.size)) (PIE X pins σ tg R) E { s with heap:=s.heap.push { cls:=.type "range",data:=.fields #[.int lo t,.int hi u,.int 1 v] },toks:=tk }:=by
 refine wpAny_pyIter_range (IsRange.new ..) (small_one h1 h2 h3 h4) ?_
 have I1:Inv X pins σ H { s with heap:=s.heap.push { cls:=.type "range",data:=.fields #[.int lo t,.int hi u,.int 1 v] },toks:=tk }:=I.kept fun b o e=>Heap.get?_push_of_some _ e
 refine ⟨(s.heap.push { cls:=.type "range",data:=.fields #[.int lo t,.int hi u,.int 1 v] }).objs.size,[(s.heap.push { cls:=.type "range",data:=.fields #[.int lo t,.int hi u,.int 1 v] }).objs.size],_,_,H,rfl,
   I1.kept (t':=tk) fun b o e=>Heap.get?_push_of_some _ e,turn_range _ lo (hi - lo).toNat,?_,fun b hb=>?_,q⟩
 ·have e1:lo + ((0:Nat):Int) * 1 = lo:=by simp
  have e2:(((hi - lo).toNat:Nat):Int) - ((0:Nat):Int) = Builtin.Range.rangeSize lo hi 1:=by rw [rangeSize_one]; split <;> omega
  show IsRangeIter _ _ (lo + ((0:Nat):Int) * 1) ((((hi - lo).toNat:Nat):Int) - ((0:Nat):Int)) 1
  rw [e1,e2]
  exact Heap.get?_push_size _ rfl
 ·have e:b = (s.heap.push { cls:=.type "range",data:=.fields #[.int lo t,.int hi u,.int 1 v] }).objs.size:=by simpa using hb
  subst e
  exact I1.fpOk (Nat.le_refl _) (I1.hok.fresh (Nat.le_refl _))
noncomputable def iRng1 (ta:TA):TI:=fun σ H R=>ta σ H fun vs H1=>∃ j:Int,vs = [.int j] /\ -(2 ^ 62) <= j /\ j < 2 ^ 62 /\ R (Itr 0 j.toNat) H1
theorem pi_range1 {a:Expr} {ta:TA} {p pos:Pos} (hg:Gl X "range") (hm:X.mg "range" = none) (ha:PA X [a] ta) (hs:starEach [a] X.env = [(false,eval a X.env)]:=by rfl):PI X tg (.Call (.Name "range" p) [a] [] pos) (iRng1 ta):=by
 intro pins s σ H R I h
 refine Call_ (ld_blt I hg hm boot_range (PyProof.Rows.callWith_type1 (thn (ha pos pins s σ H _ I h) fun us s1 ⟨vs,H1,I1,r1,q1⟩=>?_) hs rfl))
 obtain ⟨j,e,q1,q2,q⟩:=q1
 subst e
 cases r1 with
 | cons r rr =>
  cases rr
  obtain ⟨t,rfl⟩:=r
  exact call_range_1 (range_it I1 (by omega) (by omega) q1 q2 (by simpa using q))
noncomputable def tFor (wi:TI) (g:TG) (tb:TS):TS:=fun D σ H=>wi σ H fun J H1=>∃ W:Nat -> Nat -> St -> Hp -> Prop,(∃ m,W 0 m σ H1) /\ ∀ i m σ H,W i m σ H ->
 (J.stop i H /\ D.nx σ H) \/ (J.go i H /\ ∃ N:St -> Hp -> Prop,(∀ σ' H',N σ' H' -> ∃ m',m' < m /\ W (i + 1) m' σ' H') /\ ∀ x H',J.yld i H x H' -> g x σ H' fun σ2 H2=>tb { D with nx:=N,ct:=N,bk:=D.nx } σ2 H2)
noncomputable def pinsAt (fp:List Addr) (h:Heap):List (Addr × Obj):=fp.filterMap fun b=>(h.get? b).map fun o=>(b,o)
theorem mem_pinsAt {fp:List Addr} {h:Heap} {b:Addr} {o:Obj} (hb:b ∈ fp) (e:h.get? b = some o):(b,o) ∈ pinsAt fp h:=List.mem_filterMap.mpr ⟨b,hb,by rw [e]; rfl⟩
theorem of_pinsAt {fp:List Addr} {h:Heap} {p:Addr × Obj} (hp:p ∈ pinsAt fp h):p.1 ∈ fp /\ h.get? p.1 = some p.2:=by
 obtain ⟨b,hb,e⟩:=List.mem_filterMap.mp hp
 cases q:h.get? b with
 | none=>rw [q] at e; cases e
 | some o =>
  rw [q] at e
  have e':(b,o) = p:=Option.some.inj e
  subst e'
  exact ⟨hb,q⟩
theorem Inv.pinned {pins:List (Addr × Obj)} {σ:St} {H:Hp} {s:Shared} {fp:List Addr} (I:Inv X pins σ H s) (hf:∀ b ∈ fp,FpOk X pins H b) (ho:∀ b ∈ fp,∃ o,s.heap.get? b = some o /\ ∀ v,o.data ≠ .cell v):Inv X (pins ++ pinsAt fp s.heap) σ H s :=
 I.pins_of fun p hp=>(List.mem_append.mp hp).elim (fun z=>I.pin p (List.mem_append_right _ z)) fun z=>by
  obtain ⟨hb,e⟩:=of_pinsAt z
  obtain ⟨f0,f1,f2,_⟩:=hf p.1 hb
  obtain ⟨o,e',d⟩:=ho p.1 hb
  rw [e] at e'; cases e'
  exact ⟨e,f0,f1,f2,d⟩
theorem Inv.unpinned {pins pl:List (Addr × Obj)} {σ:St} {H:Hp} {s:Shared} (I:Inv X (pins ++ pl) σ H s):Inv X pins σ H s:=I.pins_of fun p hp=>I.pin p (List.mem_append_right _ (List.mem_append_left _ hp))
theorem ps_for {iter:Expr} {body:List Stmt} {wi:TI} {g:TG} {tb:TS} {pos:Pos} (hp:PassesOwn (model X.prog X.w) X.A X.env X.xe) (hc:X.calm = true) (hi:PI X tg iter wi) (hg:PG X tg g) (hb:PSs X body tb)
  (hs:∀ x,foldedSetIterable iter X.env x = pure x:=by intro _; rfl):PS X (.For tg iter body [] pos) (tFor wi g tb):=by
 intro pins s σ H D I h
 refine wpAny_For (thn (hi pins s σ H _ I h) fun v s1 h1=>thn h1 fun itv s2 h2=>?_) hs
 obtain ⟨it,fp,tn,J,H2,e,I2,T,st2,f2,W,⟨m0,w0⟩,turn⟩:=h2
 subst e
 have stat:∀ {H':Hp},(∀ b ∈ fp,H' b = none) -> ∀ b ∈ fp,FpOk X pins H' b:=fun hn b hb=>⟨hn b hb,(f2 b hb).2⟩
 refine codeAny_forLoop_any (fun n s'=>∃ i σ' H',Inv X pins σ' H' s' /\ tn i s'.heap /\ (∀ b ∈ fp,H' b = none) /\ W i n σ' H') ?_ m0 ⟨0,σ,H2,I2,st2,fun b hb=>(f2 b hb).1,w0⟩
 rintro n s3 ⟨i,σ3,H3,I3,st3,fr3,w3⟩
 rcases turn i n σ3 H3 w3 with ⟨stop,qn⟩ | ⟨go,N,hN,step⟩
 ·refine wpAny_passesOwn hp (thn (T.done X rfl rfl rfl hc i pins s3 σ3 H3 X.xe I3 (stat fr3) st3 stop) fun r s4 ⟨hr,I4⟩=>?_)
  subst hr
  exact wpAny_execs_nil ⟨σ3,H3,I4,qn⟩
 ·refine wpAny_passesOwn hp (thn (T.item X rfl rfl rfl hc i pins s3 σ3 H3 X.xe I3 (stat fr3) st3 go) fun r s4 ⟨u,hr,h4⟩=>?_)
  subst hr
  refine wpAny_passesOwn hp (thn h4 fun _ s5 ⟨x,H5,I5,r5,y5,st5,fr5⟩=>?_)
  have I5':=I5.pinned (stat fr5) (T.obj _ _ st5)
  refine wpAny_passesOwn hp (thn (hg _ s5 σ3 H5 x u _ I5' r5 (step x H5 y5)) fun _ s6 ⟨σ6,H6,I6,q6⟩=>?_)
  refine wpAny_passesOwn hp (thn (hb _ s6 σ6 H6 _ I6 q6) fun f s7 q7=>?_)
  have again:∀ {σ7:St} {H7:Hp},Inv X (pins ++ pinsAt fp s5.heap) σ7 H7 s7 -> N σ7 H7 -> ∃ m,m < n /\ ∃ i σ' H',Inv X pins σ' H' s7 /\ tn i s7.heap /\ (∀ b ∈ fp,H' b = none) /\ W i m σ' H':=fun {σ7 H7} I7 n7=>by
   obtain ⟨m',hm,w7⟩:=hN σ7 H7 n7
   refine ⟨m',hm,i + 1,σ7,H7,I7.unpinned,T.keep _ _ _ st5 fun b hb o e=>(I7.pin (b,o) (List.mem_append_right _ (List.mem_append_right _ (mem_pinsAt hb e)))).1,fun b hb=>?_,w7⟩
   obtain ⟨o,e,d⟩:=T.obj _ _ st5 b hb
   exact (I7.pin (b,o) (List.mem_append_right _ (List.mem_append_right _ (mem_pinsAt hb e)))).2.1
  cases f with
  | next=>obtain ⟨σ7,H7,I7,n7⟩:=q7; exact again I7 n7
  | cont=>obtain ⟨σ7,H7,I7,n7⟩:=q7; exact again I7 n7
  | brk=>obtain ⟨σ7,H7,I7,q7⟩:=q7; exact ⟨σ7,H7,I7.unpinned,q7⟩
  | ret v=>obtain ⟨x7,σ7,H7,I7,r7,q7⟩:=q7; exact ⟨x7,σ7,H7,I7.unpinned,r7,q7⟩
end
end L2
namespace L2
open PySem PySem.Spec PyProof.Rows
noncomputable abbrev R2:=V -> V -> Hp -> VK -> Prop
noncomputable def OpR (X:Cx) (f:Value -> Value -> Sem Value) (r:R2):Prop :=
 ∀ (pins:List (Addr × Obj)) (s:Shared) (σ:St) (H:Hp) (x y:V) (v u:Value) (Q:VK),Inv X pins σ H s -> RelV x v -> RelV y u -> r x y H Q ->
  wpAny (model X.prog X.w) X.A (f v u) (EP X pins σ Q) X.xe s
noncomputable def UnR (X:Cx) (f:Value -> Sem Value) (r:V -> Hp -> VK -> Prop):Prop :=
 ∀ (pins:List (Addr × Obj)) (s:Shared) (σ:St) (H:Hp) (x:V) (v:Value) (Q:VK),Inv X pins σ H s -> RelV x v -> r x H Q ->
  wpAny (model X.prog X.w) X.A (f v) (EP X pins σ Q) X.xe s
noncomputable def CallR (X:Cx) (f:Value) (r:List V -> Hp -> VK -> Prop):Prop :=
 ∀ (pins:List (Addr × Obj)) (s:Shared) (σ:St) (H:Hp) (xs:List V) (us:List Value) (Q:VK),Inv X pins σ H s -> Vals xs us -> r xs H Q ->
  wpAny (model X.prog X.w) X.A (call f us) (EP X pins σ Q) X.xe s
noncomputable def tOp (r:R2) (ta tb:TE):TE:=fun σ H Q=>ta σ H fun x H1=>tb σ H1 fun y H2=>r x y H2 Q
noncomputable def tUn (r:V -> Hp -> VK -> Prop) (ta:TE):TE:=fun σ H Q=>ta σ H fun x H1=>r x H1 Q
noncomputable def rI (C:Int -> Int -> Prop) (g:Int -> Int -> V):R2:=fun x y H Q=>∃ i j,x = .int i /\ y = .int j /\ C i j /\ Q (g i j) H
noncomputable def rI0 (g:Int -> Int -> V):R2:=fun x y H Q=>∃ i j,x = .int i /\ y = .int j /\ Q (g i j) H
noncomputable def rU (g:Int -> V):V -> Hp -> VK -> Prop:=fun x H Q=>∃ i,x = .int i /\ Q (g i) H
section
variable {X:Cx} {a b c:Expr} {ta tb tc:TE} {pos:Pos}
theorem binT (ha:PE X a ta) (hb:PE X b tb) {pins:List (Addr × Obj)} {s:Shared} {σ:St} {H:Hp} {R:V -> V -> Hp -> Prop} (I:Inv X pins σ H s)
  (h:ta σ H fun x H1=>tb σ H1 fun y H2=>R x y H2) {Q:Value -> Shared -> Prop} {f:Value -> Value -> Sem Value}
  (hf:∀ v u s2 x y H2,Inv X pins σ H2 s2 -> RelV x v -> RelV y u -> R x y H2 -> wpAny (model X.prog X.w) X.A (f v u) Q X.xe s2) :
  wpAny (model X.prog X.w) X.A (eval a X.env) (fun v s₁=>wpAny (model X.prog X.w) X.A (eval b X.env) (fun u s₂=>wpAny (model X.prog X.w) X.A (f v u) Q X.xe s₂) X.xe s₁) X.xe s:=by
 refine thn (ha pins s σ H _ I h) fun v s1 ⟨x,H1,I1,r1,q1⟩=>?_
 refine thn (hb pins s1 σ H1 _ I1 q1) fun u s2 ⟨y,H2,I2,r2,q2⟩=>?_
 exact hf v u s2 x y H2 I2 r1 r2 q2
theorem pe_op {op:Operator} {r:R2} (ho:OpR X (binaryOp op) r) (ha:PE X a ta) (hb:PE X b tb):PE X (.BinOp a op b pos) (tOp r ta tb):=by
 intro pins s σ H Q I h
 exact wpAny_BinOp (binT ha hb I h fun v u s2 x y H2 I2 rx ry q=>ho pins s2 σ H2 x y v u Q I2 rx ry q)
theorem pe_un {op:UnaryOp} {r:V -> Hp -> VK -> Prop} (ho:UnR X (unaryOp op) r) (ha:PE X a ta):PE X (.UnaryOp op a pos) (tUn r ta):=by
 intro pins s σ H Q I h
 exact UnaryOp_ (thn (ha pins s σ H _ I h) fun v s1 ⟨x,H1,I1,r1,q1⟩=>ho pins s1 σ H1 x v Q I1 r1 q1)
theorem opI {f:Value -> Value -> Sem Value} {C:Int -> Int -> Prop} {g:Int -> Int -> Int}
  (rule:∀ (i j:Int) (t u:Tok) (s:Shared) (Q:Value -> Shared -> Prop) (E:Value -> Shared -> Prop),C i j -> Q (.int (g i j) s.toks) { s with toks:=s.toks + 1 } -> wpAny (model X.prog X.w) X.A (f (.int i t) (.int j u)) Q E s) :
  OpR X f (rI C fun i j=>.int (g i j)):=by
 intro pins s σ H x y v u Q I rx ry h
 obtain ⟨i,j,rfl,rfl,hc,q⟩:=h
 obtain ⟨t,rfl⟩:=rx
 obtain ⟨t',rfl⟩:=ry
 exact rule i j t t' s _ _ hc ⟨.int (g i j),H,I.tok _,⟨_,rfl⟩,q⟩
theorem opI0 {f:Value -> Value -> Sem Value} {g:Int -> Int -> Int}
  (rule:∀ (i j:Int) (t u:Tok) (s:Shared) (Q:Value -> Shared -> Prop) (E:Value -> Shared -> Prop),Q (.int (g i j) s.toks) { s with toks:=s.toks + 1 } -> wpAny (model X.prog X.w) X.A (f (.int i t) (.int j u)) Q E s) :
  OpR X f (rI0 fun i j=>.int (g i j)):=by
 intro pins s σ H x y v u Q I rx ry h
 obtain ⟨i,j,rfl,rfl,q⟩:=h
 obtain ⟨t,rfl⟩:=rx
 obtain ⟨t',rfl⟩:=ry
 exact rule i j t t' s _ _ ⟨.int (g i j),H,I.tok _,⟨_,rfl⟩,q⟩
theorem opB0 {f:Value -> Value -> Sem Value} {g:Int -> Int -> Bool}
  (rule:∀ (i j:Int) (t u:Tok) (s:Shared) (Q:Value -> Shared -> Prop) (E:Value -> Shared -> Prop),Q (.bool (g i j)) s -> wpAny (model X.prog X.w) X.A (f (.int i t) (.int j u)) Q E s) :
  OpR X f (rI0 fun i j=>.bl (g i j)):=by
 intro pins s σ H x y v u Q I rx ry h
 obtain ⟨i,j,rfl,rfl,q⟩:=h
 obtain ⟨t,rfl⟩:=rx
 obtain ⟨t',rfl⟩:=ry
 exact rule i j t t' s _ _ ⟨.bl (g i j),H,I,rfl,q⟩
noncomputable def CDiv (i j:Int):Prop:=0 < j /\ j < 1073741824
noncomputable def CPow (i j:Int):Prop:=0 <= j /\ j <= 1000000 /\ i.natAbs < 2 ^ 64
noncomputable def CMul (i j:Int):Prop:=(-(2 ^ 64) < i /\ i < 2 ^ 64) \/ (-(2 ^ 64) < j /\ j < 2 ^ 64)
theorem CMul.ok {i j:Int} (h:CMul i j):IntMulOk i j:=by
 rcases h with ⟨h1,h2⟩ | ⟨h1,h2⟩
 ·exact .of_left (intBits_le_64 h1 h2)
 ·exact .of_right (intBits_le_64 h1 h2)
theorem op_add:OpR X (binaryOp .Add) (rI0 fun i j=>.int (i + j)):=opI0 fun _ _ _ _ _ _ _ q=>add_int q
theorem op_sub:OpR X (binaryOp .Sub) (rI0 fun i j=>.int (i - j)):=opI0 fun _ _ _ _ _ _ _ q=>sub_int q
theorem op_mul:OpR X (binaryOp .Mult) (rI CMul fun i j=>.int (i * j)):=opI fun _ _ _ _ _ _ _ hc q=>mul_int q hc.ok
theorem op_fdiv:OpR X (binaryOp .FloorDiv) (rI CDiv fun i j=>.int (i / j)):=opI fun i j _ _ _ _ _ hc q=>by
 have h1:(0:Int) < j:=hc.1
 have h2:j < 1073741824:=hc.2
 exact floordiv_int (by omega) (by rw [Int.fdiv_eq_ediv_of_nonneg i (by omega)]; exact q) (.inl (PyProof.noPylong_small (by omega)))
theorem op_mod:OpR X (binaryOp .Mod) (rI (fun _ j=>0 < j) fun i j=>.int (i % j)):=opI fun i j _ _ _ _ _ hc q=>by
 have h1:(0:Int) < j:=hc
 exact mod_int' (by omega) (by rw [Int.fmod_eq_emod_of_nonneg i (by omega)]; exact q)
theorem op_pow:OpR X (binaryOp .Pow) (rI CPow fun i j=>.int (i ^ j.toNat)):=opI fun _ _ _ _ _ _ _ hc q=>pow_int_small hc.1 hc.2.1 hc.2.2 q
theorem unI {f:Value -> Sem Value} {g:Int -> Int}
  (rule:∀ (i:Int) (t:Tok) (s:Shared) (Q:Value -> Shared -> Prop) (E:Value -> Shared -> Prop),Q (.int (g i) s.toks) { s with toks:=s.toks + 1 } -> wpAny (model X.prog X.w) X.A (f (.int i t)) Q E s) :
  UnR X f (rU fun i=>.int (g i)):=by
 intro pins s σ H x v Q I rx h
 obtain ⟨i,rfl,q⟩:=h
 obtain ⟨t,rfl⟩:=rx
 exact rule i t s _ _ ⟨.int (g i),H,I.tok _,⟨_,rfl⟩,q⟩
theorem un_neg:UnR X (unaryOp .USub) (rU fun i=>.int (-i)):=unI fun _ _ _ _ _ q=>neg_int q
end
noncomputable def scal:V -> V -> Bool
 | .non,.non=>true | .non,.int _=>true | .int _,.non=>true | .non,.bl _=>true | .bl _,.non=>true | .non,.str _=>true | .str _,.non=>true
 | .int _,.int _=>true | .bl _,.bl _=>true | .str _,.str _=>true | .byt _,.byt _=>true
 | .int _,.str _=>true | .str _,.int _=>true | .bl _,.str _=>true | .str _,.bl _=>true
 | _,_=>false
noncomputable def rEq:R2:=fun x y H Q=>scal x y = true /\ Q (.bl (decide (x = y))) H
noncomputable def rNe:R2:=fun x y H Q=>scal x y = true /\ Q (.bl (!decide (x = y))) H
theorem dec_int {i j:Int}:decide (V.int i = V.int j) = (i == j):=by
 rw [Bool.eq_iff_iff]
 simp
theorem dec_bl {i j:Bool}:decide (V.bl i = V.bl j) = (i == j):=by
 rw [Bool.eq_iff_iff]
 simp
theorem dec_str {i j:Str}:decide (V.str i = V.str j) = (i == j):=by
 rw [Bool.eq_iff_iff]
 simp
theorem dec_byt {i j:Array UInt8}:decide (V.byt i = V.byt j) = (i.toList == j.toList):=by
 rw [Bool.eq_iff_iff]
 cases i
 cases j
 simp
section
variable {X:Cx} {a b c:Expr} {ta tb tc:TE} {pos:Pos}
theorem fin_bl {pins:List (Addr × Obj)} {σ:St} {H:Hp} {s:Shared} {Q:VK} {k k':Bool} (I:Inv X pins σ H s) (q:Q (.bl k) H) (e:k = k'):EP X pins σ Q (.bool k') s:=by
 subst e
 exact ⟨.bl k,H,I,rfl,q⟩
theorem op_eq:OpR X (compareOp .Eq) rEq:=by
 intro pins s σ H x y v u Q I rx ry h
 obtain ⟨hs,q⟩:=h
 cases x with
 | non =>
  cases rx
  cases y with
  | non=>cases ry; exact PySem.EqNone.eq_none_none (fin_bl I q (by simp))
  | bl j=>cases ry; exact PySem.EqNone.eq_none_bool (fin_bl I q (by simp))
  | int j=>obtain ⟨t',rfl⟩:=ry; exact PySem.EqNone.eq_none_int (fin_bl I q (by simp))
  | str j=>obtain ⟨t',rfl⟩:=ry; exact PySem.EqNone.eq_none_str (fin_bl I q (by simp))
  | _=>exact absurd (show false = true from hs) Bool.false_ne_true
 | bl i =>
  cases rx
  cases y with
  | non=>cases ry; exact PySem.EqNone.eq_bool_none (fin_bl I q (by simp))
  | bl j=>cases ry; exact eq_bool (fin_bl I q dec_bl)
  | str j=>obtain ⟨t',rfl⟩:=ry; exact PySem.EqMixed.eq_bool_str (fin_bl I q (by simp))
  | _=>exact absurd (show false = true from hs) Bool.false_ne_true
 | int i =>
  obtain ⟨t,rfl⟩:=rx
  cases y with
  | non=>cases ry; exact PySem.EqNone.eq_int_none (fin_bl I q (by simp))
  | int j=>obtain ⟨t',rfl⟩:=ry; exact eq_int (fin_bl I q dec_int)
  | str j=>obtain ⟨t',rfl⟩:=ry; exact PySem.EqMixed.eq_int_str (fin_bl I q (by simp))
  | _=>exact absurd (show false = true from hs) Bool.false_ne_true
 | str i =>
  obtain ⟨t,rfl⟩:=rx
  cases y with
  | non=>cases ry; exact PySem.EqNone.eq_str_none (fin_bl I q (by simp))
  | bl j=>cases ry; exact PySem.EqMixed.eq_str_bool (fin_bl I q (by simp))
  | int j=>obtain ⟨t',rfl⟩:=ry; exact PySem.EqMixed.eq_str_int (fin_bl I q (by simp))
  | str j=>obtain ⟨t',rfl⟩:=ry; exact eq_str (fin_bl I q dec_str)
  | _=>exact absurd (show false = true from hs) Bool.false_ne_true
 | byt i =>
  obtain ⟨t,rfl⟩:=rx
  cases y with
  | byt j=>obtain ⟨t',rfl⟩:=ry; exact PySem.W.eq_bytes (fin_bl I q dec_byt)
  | _=>exact absurd (show false = true from hs) Bool.false_ne_true
 | _=>cases y <;> exact absurd (show false = true from hs) Bool.false_ne_true
theorem op_ne:OpR X (compareOp .NotEq) rNe:=by
 intro pins s σ H x y v u Q I rx ry h
 obtain ⟨hs,q⟩:=h
 cases x with
 | non =>
  cases rx
  cases y with
  | non=>cases ry; exact PySem.EqNone.ne_none_none (fin_bl I q (by simp))
  | bl j=>cases ry; exact PySem.EqNone.ne_none_bool (fin_bl I q (by simp))
  | int j=>obtain ⟨t',rfl⟩:=ry; exact PySem.EqNone.ne_none_int (fin_bl I q (by simp))
  | str j=>obtain ⟨t',rfl⟩:=ry; exact PySem.EqNone.ne_none_str (fin_bl I q (by simp))
  | _=>exact absurd (show false = true from hs) Bool.false_ne_true
 | bl i =>
  cases rx
  cases y with
  | non=>cases ry; exact PySem.EqNone.ne_bool_none (fin_bl I q (by simp))
  | bl j=>cases ry; exact ne_bool (fin_bl I q (congrArg not dec_bl))
  | str j=>obtain ⟨t',rfl⟩:=ry; exact PySem.EqMixed.ne_bool_str (fin_bl I q (by simp))
  | _=>exact absurd (show false = true from hs) Bool.false_ne_true
 | int i =>
  obtain ⟨t,rfl⟩:=rx
  cases y with
  | non=>cases ry; exact PySem.EqNone.ne_int_none (fin_bl I q (by simp))
  | int j=>obtain ⟨t',rfl⟩:=ry; exact ne_int (fin_bl I q (congrArg not dec_int))
  | str j=>obtain ⟨t',rfl⟩:=ry; exact PySem.EqMixed.ne_int_str (fin_bl I q (by simp))
  | _=>exact absurd (show false = true from hs) Bool.false_ne_true
 | str i =>
  obtain ⟨t,rfl⟩:=rx
  cases y with
  | non=>cases ry; exact PySem.EqNone.ne_str_none (fin_bl I q (by simp))
  | bl j=>cases ry; exact PySem.EqMixed.ne_str_bool (fin_bl I q (by simp))
  | int j=>obtain ⟨t',rfl⟩:=ry; exact PySem.EqMixed.ne_str_int (fin_bl I q (by simp))
  | str j=>obtain ⟨t',rfl⟩:=ry; exact ne_str (fin_bl I q (congrArg not dec_str))
  | _=>exact absurd (show false = true from hs) Bool.false_ne_true
 | byt i =>
  obtain ⟨t,rfl⟩:=rx
  cases y with
  | byt j=>obtain ⟨t',rfl⟩:=ry; exact PySem.W.ne_bytes (fin_bl I q (congrArg not dec_byt))
  | _=>exact absurd (show false = true from hs) Bool.false_ne_true
 | _=>cases y <;> exact absurd (show false = true from hs) Bool.false_ne_true
theorem op_lt:OpR X (compareOp .Lt) (rI0 fun i j=>.bl (decide (i < j))):=opB0 fun _ _ _ _ _ _ _ q=>lt_int q
theorem op_le:OpR X (compareOp .LtE) (rI0 fun i j=>.bl (decide (i <= j))):=opB0 fun _ _ _ _ _ _ _ q=>le_int q
theorem op_gt:OpR X (compareOp .Gt) (rI0 fun i j=>.bl (decide (j < i))):=opB0 fun _ _ _ _ _ _ _ q=>gt_int q
theorem op_ge:OpR X (compareOp .GtE) (rI0 fun i j=>.bl (decide (j <= i))):=opB0 fun _ _ _ _ _ _ _ q=>ge_int q
theorem op_in_str:OpR X (compareOp .In) (fun x y H Q=>∃ i j,x = .str i /\ y = .str j /\ Q (.bl (!(Builtin.Str.occurrences j i 0 j.length 1).isEmpty)) H):=by
 intro pins s σ H x y v u Q I rx ry h
 obtain ⟨i,j,rfl,rfl,q⟩:=h
 obtain ⟨t,rfl⟩:=rx
 obtain ⟨t',rfl⟩:=ry
 exact in_str (fin_bl I q rfl)
theorem op_isN:OpR X (compareOp .Is) (fun x y H Q=>y = .non /\ Q (.bl (decide (x = .non))) H):=by
 intro pins s σ H x y v u Q I rx ry h
 obtain ⟨rfl,q⟩:=h
 cases ry
 refine is_none_gen (fin_bl I q ?_)
 cases x <;> first
  | (cases rx; rfl)
  | (obtain ⟨t,rfl⟩:=rx; rfl)
theorem op_notN:OpR X (compareOp .IsNot) (fun x y H Q=>y = .non /\ Q (.bl (!decide (x = .non))) H):=by
 intro pins s σ H x y v u Q I rx ry h
 obtain ⟨rfl,q⟩:=h
 cases ry
 refine isnot_none_gen (fin_bl I q ?_)
 cases x <;> first
  | (cases rx; rfl)
  | (obtain ⟨t,rfl⟩:=rx; rfl)
theorem op_notin_str:OpR X (compareOp .NotIn) (fun x y H Q=>∃ i j,x = .str i /\ y = .str j /\ Q (.bl (!(!(Builtin.Str.occurrences j i 0 j.length 1).isEmpty))) H):=by
 intro pins s σ H x y v u Q I rx ry h
 obtain ⟨i,j,rfl,rfl,q⟩:=h
 obtain ⟨t,rfl⟩:=rx
 obtain ⟨t',rfl⟩:=ry
 exact notIn_str (fin_bl I q rfl)
theorem OpR.or {f:Value -> Value -> Sem Value} {r r':R2} (h:OpR X f r) (h':OpR X f r'):OpR X f (fun x y H Q=>r x y H Q \/ r' x y H Q):=by
 intro pins s σ H x y v u Q I rx ry q
 rcases q with q | q
 ·exact h pins s σ H x y v u Q I rx ry q
 ·exact h' pins s σ H x y v u Q I rx ry q
theorem nomark (b:Expr) {op:CmpOp} (h:op ≠ .In:=by decide) (h2:op ≠ .NotIn:=by decide):behindInMarks op b = false:=by
 have e1:(op == CmpOp.In) = false:=by cases op <;> first | rfl | exact absurd rfl h
 have e2:(op == CmpOp.NotIn) = false:=by cases op <;> first | rfl | exact absurd rfl h2
 cases b <;> simp [behindInMarks,e1,e2]
theorem pe_cmpR {op:CmpOp} {r:R2} (ho:OpR X (compareOp op) r) (ha:PE X a ta) (hb:PE X b tb) (hm:behindInMarks op b = false):PE X (.Compare a [op] [b] pos) (tOp r ta tb):=by
 intro pins s σ H Q I h
 exact wpAny_Compare1 (binT ha hb I h fun v u s2 x y H2 I2 rx ry q=>ho pins s2 σ H2 x y v u Q I2 rx ry q) hm
noncomputable def tTest (t:TE):TT:=fun σ H Q=>t σ H fun x H'=>∃ k,x = .bl k /\ Q k H'
theorem pt_cmpR {op:CmpOp} {r:R2} (ho:OpR X (compareOp op) r) (ha:PE X a ta) (hb:PE X b tb) (hm:behindInMarks op b = false):PT X (.Compare a [op] [b] pos) (tTest (tOp r ta tb)):=by
 intro pins s σ H Q I h
 refine wpAny_isTrue_Compare1 (thn (ha pins s σ H _ I h) fun v s1 ⟨x,H1,I1,r1,q1⟩=>thn (hb pins s1 σ H1 _ I1 q1) fun u s2 ⟨y,H2,I2,r2,q2⟩ =>
   thn (ho pins s2 σ H2 x y v u _ I2 r1 r2 q2) fun c s3 ⟨z,H3,I3,r3,k,e,q3⟩=>?_) hm
 subst e
 cases r3
 exact wpAny_truthy_bool ⟨H3,I3,q3⟩
noncomputable def tChain (r r':R2) (ta tb tc:TE):TE:=fun σ H Q=>ta σ H fun x H1=>tb σ H1 fun y H2=>r x y H2 fun z H3=>∃ k,z = .bl k /\
 (if k = true then tc σ H3 fun w' H4=>r' y w' H4 Q else Q (.bl false) H3)
theorem pe_chain {op op':CmpOp} {r r':R2} (ho:OpR X (compareOp op) r) (ho':OpR X (compareOp op') r') (ha:PE X a ta) (hb:PE X b tb) (hc:PE X c tc)
  (hm:lastMarks [op,op'] [b,c] = false:=by with_unfolding_all rfl):PE X (.Compare a [op,op'] [b,c] pos) (tChain r r' ta tb tc):=by
 intro pins s σ H Q I h
 refine Compare_chain (thn (ha pins s σ H _ I h) fun v s1 ⟨x,H1,I1,r1,q1⟩=>chain_link (thn (hb pins s1 σ H1 _ I1 q1) fun u s2 ⟨y,H2,I2,r2,q2⟩ =>
   thn (ho pins s2 σ H2 x y v u _ I2 r1 r2 q2) fun d s3 ⟨z,H3,I3,r3,k,e,q3⟩=>?_)) hm
 subst e
 cases r3
 refine wpAny_truthy_bool ?_
 cases k with
 | false=>exact ite_ff ⟨.bl false,H3,I3,rfl,q3⟩
 | true=>exact ite_tt (chain_last (thn (hc pins s3 σ H3 _ I3 q3) fun w' s4 ⟨z',H4,I4,r4,q4⟩=>ho' pins s4 σ H4 y z' u w' Q I4 r2 r4 q4))
theorem pt_chain {op op':CmpOp} {r r':R2} (ho:OpR X (compareOp op) r) (ho':OpR X (compareOp op') r') (ha:PE X a ta) (hb:PE X b tb) (hc:PE X c tc)
  (hm:lastMarks [op,op'] [b,c] = false:=by with_unfolding_all rfl):PT X (.Compare a [op,op'] [b,c] pos) (tTest (tChain r r' ta tb tc)):=by
 intro pins s σ H Q I h
 refine isTrue_chain (thn (ha pins s σ H _ I h) fun v s1 ⟨x,H1,I1,r1,q1⟩=>test_link (thn (hb pins s1 σ H1 _ I1 q1) fun u s2 ⟨y,H2,I2,r2,q2⟩ =>
   thn (ho pins s2 σ H2 x y v u _ I2 r1 r2 q2) fun d s3 ⟨z,H3,I3,r3,k,e,q3⟩=>?_)) hm
 subst e
 cases r3
 refine wpAny_truthy_bool ?_
 cases k with
 | false =>
  obtain ⟨k',e',q'⟩:=q3
  cases e'
  exact ite_ff ⟨H3,I3,q'⟩
 | true =>
  refine ite_tt (test_last (thn (hc pins s3 σ H3 _ I3 q3) fun w' s4 ⟨z',H4,I4,r4,q4⟩=>thn (ho' pins s4 σ H4 y z' u w' _ I4 r2 r4 q4) fun d' s5 ⟨z2,H5,I5,r5,k2,e2,q5⟩=>?_))
  subst e2
  cases r5
  exact wpAny_truthy_bool ⟨H5,I5,q5⟩
theorem line63:(sizeLine:Nat) < 2 ^ 63:=by rw [sizeLine_eq]; decide
theorem op_add_str:OpR X (binaryOp .Add) (fun x y H Q=>∃ i j,x = .str i /\ y = .str j /\ i.length + j.length <= sizeLine /\ Q (.str (i ++ j)) H):=by
 intro pins s σ H x y v u Q I rx ry h
 obtain ⟨i,j,rfl,rfl,hz,q⟩:=h
 obtain ⟨t,rfl⟩:=rx
 obtain ⟨t',rfl⟩:=ry
 exact add_str (fun t' tk=>⟨.str (i ++ j),H,I.tok _,⟨_,rfl⟩,q⟩) hz
theorem vals1 {x:V} {us:List Value} (r:Vals [x] us):∃ u,us = [u] /\ RelV x u:=by
 cases r with
 | cons r1 r2=>cases r2; exact ⟨_,rfl,r1⟩
theorem vals2 {x y:V} {us:List Value} (r:Vals [x,y] us):∃ u w',us = [u,w'] /\ RelV x u /\ RelV y w':=by
 cases r with
 | cons r1 r2 =>
  cases r2 with
  | cons r3 r4=>cases r4; exact ⟨_,_,rfl,r1,r3⟩
theorem call_abs:CallR X (.builtin "abs") (fun xs H Q=>∃ i,xs = [.int i] /\ Q (.int (if i < 0 then -i else i)) H):=by
 intro pins s σ H xs us Q I r h
 obtain ⟨i,rfl,q⟩:=h
 obtain ⟨u,rfl,t,rfl⟩:=vals1 r
 exact call_abs_int fun u tk=>⟨.int (if i < 0 then -i else i),H,I.tok _,⟨_,rfl⟩,q⟩
theorem call_int1:CallR X (.type "int") (fun xs H Q=>(∃ i,xs = [.int i] /\ Q (.int i) H) \/ ∃ k,xs = [.bl k] /\ Q (.int (if k then 1 else 0)) H):=by
 intro pins s σ H xs us Q I r h
 rcases h with ⟨i,rfl,q⟩ | ⟨k,rfl,q⟩
 ·obtain ⟨u,rfl,t,rfl⟩:=vals1 r
  exact call_int_int ⟨.int i,H,I,⟨_,rfl⟩,q⟩
 ·obtain ⟨u,rfl,r1⟩:=vals1 r
  cases r1
  exact call_int_bool ⟨.int (if k then 1 else 0),H,I.tok _,⟨_,rfl⟩,q⟩
theorem call_str_int:CallR X (.type "str") (fun xs H Q=>∃ i,xs = [.int i] /\ i.natAbs.log2 < 1920 /\ Q (.str (toString i)) H):=by
 intro pins s σ H xs us Q I r h
 obtain ⟨i,rfl,hz,q⟩:=h
 obtain ⟨u,rfl,t,rfl⟩:=vals1 r
 exact PySem.P.str_of_int hz ⟨.str _,H,I.tok _,⟨_,rfl⟩,q⟩
end
end L2
namespace L2
open PySem PySem.Spec PyProof.Rows
structure ObjM (h:Heap) (x dx C:Addr) (mA:Str -> Option Value):Prop where
 obj:h.get? x = some (PySem.W.instObj C dx)
 ns:h.Ns1 dx mA
 ne:dx ≠ x
section
variable {prog:Program} {w:World} {A:Around} {E:Value -> Shared -> Prop} {s:Shared} {K:PySem.W.Frag} {x dx C f:Addr} {mA:Str -> Option Value} {name:Str} {v:Value}
end
theorem RelO.some_of {v:V} {o:Option Value} (r:RelO (some v) o):∃ u,o = some u /\ RelV v u:=by
 cases o with
 | none=>exact (show False from r).elim
 | some u=>exact ⟨u,rfl,r⟩
theorem handed_of {v:V} {u:Value} (r:RelV v u):PySem.W.handedIn u = true:=by
 cases v with
 | non=>cases (show u = Value.none from r); rfl
 | bl b=>cases (show u = Value.bool b from r); rfl
 | int i=>obtain ⟨t,e⟩:=(show ∃ t,u = Value.int i t from r); cases e; rfl
 | str x=>obtain ⟨t,e⟩:=(show ∃ t,u = Value.str x t from r); cases e; rfl
 | byt b=>obtain ⟨t,e⟩:=(show ∃ t,u = Value.bytes b t from r); cases e; rfl
 | flt b=>obtain ⟨t,e⟩:=(show ∃ t,u = Value.float b t from r); cases e; rfl
 | ref a=>cases (show u = Value.ref a from r); rfl
 | ty n=>cases (show u = Value.type n from r); rfl
section
variable {P:Program} {w:World} {H H':Hp} {h h':Heap} {a C dx:Addr} {fs fs':List (Str × V)}
end
structure Cls (K:PySem.W.Frag) (C:Addr):Prop where
 pg:PySem.W.plainGet K C Str.empty = true
 hd:PySem.W.hasDictIn K C = true
 po:PySem.W.plainOver K C = true
 sa:PySem.W.findIn K (.ref C) "__setattr__" = some (some (.builtin "object.__setattr__"))
structure Con (K:PySem.W.Frag) (C:Addr) (f:Str) (v:V) (u:Value):Prop where
 at_:PySem.W.findIn K (.ref C) f = some (some u)
 rel:RelV v u
 get:PySem.W.specialIn K u "__get__" = some none
 cp:PySem.W.copiedNames.contains f = false
structure Meth (K:PySem.W.Frag) (C:Addr) (m:Str) (f:Addr):Prop where
 at_:PySem.W.findIn K (.ref C) m = some (some (.ref f))
 fn:PySem.W.isFn K (.ref f) = true
 kp:PySem.W.keepIn K (.ref f) = true
section
variable {X:Cx} {pins:List (Addr × Obj)} {σ:St} {H:Hp} {s:Shared} {a C dx:Addr} {fs:List (Str × V)} {f:Str} {v:V} {A:Around} {E:Value -> Shared -> Prop}
theorem attr_of {prog:Program} {w:World} {env:Env} {e:Expr} {f:Str} {pos:Pos} {s:Shared} {Q:Value -> Shared -> Prop} (hb:attributeBase e f env (eval e env) = eval e env)
  (h:wpAny (model prog w) A (eval e env) (fun o s₁=>wpAny (model prog w) A (getAttr o f true) Q E s₁) E s):wpAny (model prog w) A (eval (.Attribute e f pos) env) Q E s :=
 Attribute_any_ h (by rw [arm_eval_Attribute,hb])
end
section
variable {X:Cx} {o e value:Expr} {f:Str} {pos pos' tpos:Pos} {ta tv:TE}
end
section
variable {X:Cx} {pins:List (Addr × Obj)} {σ:St} {H:Hp} {s:Shared} {A:Around} {E:Value -> Shared -> Prop} {Q:Value -> Shared -> Prop} {c:Value} {b:Bool}
inductive TyOf (K:PySem.W.Frag) (H:Hp):V -> Value -> Prop where
 | non:TyOf K H .non (.type "NoneType")
 | bl (x:Bool):TyOf K H (.bl x) (.type "bool")
 | int (i:Int):TyOf K H (.int i) (.type "int")
 | str (x:Str):TyOf K H (.str x) (.type "str")
 | flt (x:UInt64):TyOf K H (.flt x) (.type "float")
 | lst {a:Addr} {xs:List V} (e:H a = some (.lst xs)):TyOf K H (.ref a) (.type "list")
 | frz {a:Addr} {o:Obj} {xs:List V} (e:H a = some (.frz o (.lst xs))):TyOf K H (.ref a) (.type "list")
 | tup {a:Addr} {xs:List V} (e:H a = some (.tup xs)):TyOf K H (.ref a) (.type "tuple")
 | dK {a:Addr} {kvs:List (Key × V)} (e:H a = some (.dK kvs)):TyOf K H (.ref a) (.type "dict")
 | dT {a:Addr} {kvs:List (List Key × V)} (e:H a = some (.dT kvs)):TyOf K H (.ref a) (.type "dict")
 | ins {a C dx:Addr} {fs:List (Str × V)} (e:H a = some (.ins C dx fs)) (cl:Cls K C) (ha:PySem.W.findIn K (.ref C) "__class__" = some (some (.builtin "object.__class__")))
   (hn:PySem.W.specialIn K (.builtin "object.__class__") "__get__" = some (some (.builtin "getset_descriptor.__get__"))) (htk:PySem.W.takesIn K (.builtin "object.__class__") = some true)
   (hm:PySem.W.mroIn K C (.type "object") = some true):TyOf K H (.ref a) (.ref C)
end
end L2
namespace L2
open PySem PySem.Spec PyProof.Rows
structure Room (k:Nat) (A:Around):Prop where
 hd:A.handled = none
 dp:A.depth + 3 * k + 5 < recursionLimit
 un:A.units + 16 * k + 200 < cLine
 gd:A.guards = some []
theorem Room.mono {j k:Nat} {A:Around} (r:Room k A) (h:j <= k):Room j A:=⟨r.hd,by have:=r.dp; omega,by have:=r.un; omega,r.gd⟩
theorem Room.deeper {k:Nat} {A:Around} (r:Room (k + 1) A) (env:Env):Room k (A.deeper env) :=
 ⟨r.hd,by have:=r.dp; show A.depth + 1 + 3 * k + 5 < _; omega,by have:=r.un; show A.units + 3 + 16 * k + 200 < _; omega,r.gd⟩
theorem make_depth {A:Around} {C:Addr} {us:List Value} {kw:List (Str × Value)}:(A.under (.builtin "type.__call__" ⟨.ref C :: us,kw⟩)).depth = A.depth + 1:=by
 first | rfl | simp [Around.under,Code.weight,Code.isCreation,Code.isGuard,Code.isCaller,Code.frames,Code.isFrame,guardIds]
theorem make_units {A:Around} {C:Addr} {us:List Value} {kw:List (Str × Value)}:(A.under (.builtin "type.__call__" ⟨.ref C :: us,kw⟩)).units = A.units + 1:=by
 first | rfl | simp [Around.under,Code.cUnits,Code.frames,Code.isFrame]
theorem Room.make {k:Nat} {A:Around} (r:Room (k + 1) A) (C:Addr) (us:List Value) (kw:List (Str × Value)):Room k (A.under (.builtin "type.__call__" ⟨.ref C :: us,kw⟩)) :=
 ⟨r.hd,by have:=r.dp; rw [make_depth]; omega,by have:=r.un; rw [make_units]; omega,by first | exact r.gd | (rw [<- r.gd]; simp [Around.under,Code.isGuard,guardIds])⟩
theorem Room.depth {k:Nat} {A:Around} (r:Room k A):A.depth < recursionLimit:=by have:=r.dp; omega
theorem Room.units {k:Nat} {A:Around} (r:Room k A):A.units + 64 < cLine:=by have:=r.un; omega
noncomputable def tNil:TA:=fun _ H Q=>Q [] H
noncomputable def tCons (ta:TE) (tr:TA):TA:=fun σ H Q=>ta σ H fun x H1=>tr σ H1 fun xs H2=>Q (x :: xs) H2
section
variable {X:Cx} {e:Expr} {es:List Expr} {te:TE} {t:TA} {pos:Pos}
theorem pa_nil:PA X [] tNil:=fun _ _ _ _ H Q I h=>Calls.spliced_nil ⟨[],H,I,.nil,h⟩
theorem pa_cons (ha:PE X e te) (hr:PA X es t) (hs:starEach (e :: es) X.env = (false,eval e X.env) :: starEach es X.env:=by rfl):PA X (e :: es) (tCons te t):=by
 intro pos pins s σ H Q I h
 rw [hs]
 show wpAny _ _ (spliced ((false,eval e X.env) :: backTo pos (starEach es X.env))) _ _ s
 refine Calls.spliced_cons (thn (ha pins s σ H _ I h) fun u s1 ⟨x,H1,I1,r1,q1⟩=>?_)
 exact thn (hr pos pins s1 σ H1 _ I1 q1) fun us s2 ⟨xs,H2,I2,r2,q2⟩=>⟨x :: xs,H2,I2,.cons r1 r2,q2⟩
noncomputable def tTup (t:TA):TE:=fun σ H Q=>t σ H fun xs H1=>xs.length <= sizeLine /\ ∀ p,H1 p = none -> Q (.ref p) (upd H1 p (.tup xs))
noncomputable def tLst (t:TA):TE:=fun σ H Q=>t σ H fun xs H1=>xs.length <= sizeLine /\ ∀ p,H1 p = none -> Q (.ref p) (upd H1 p (.lst xs))
theorem pe_tup {x1} (h:PA X es t):PE X (.Tuple es x1 pos) (tTup t):=by
 intro pins s σ H Q I hq
 refine wpAny_Tuple_spliced (thn (h pos pins s σ H _ I hq) fun us s1 ⟨xs,H1,I1,r,z,q⟩=>⟨by rw [<- r.length]; exact z,?_⟩)
 have hf:H1 s1.heap.objs.size = none:=I1.hok.fresh (Nat.le_refl _)
 refine ⟨.ref s1.heap.objs.size,upd H1 s1.heap.objs.size (.tup xs),I1.laid (t':=s1.toks) (fun b u e=>Heap.get?_push_of_some _ e) (Nat.le_refl _) ?_,rfl,q _ hf⟩
 exact ⟨z,us,r,⟨_,Heap.get?_push_size _ rfl,rfl,_,rfl,rfl⟩⟩
theorem pe_lst (h:PA X es t):PE X (.List es pos) (tLst t):=by
 intro pins s σ H Q I hq
 refine wpAny_List_spliced (thn (h pos pins s σ H _ I hq) fun us s1 ⟨xs,H1,I1,r,z,q⟩=>⟨by rw [<- r.length]; exact z,?_⟩)
 have hf:H1 s1.heap.objs.size = none:=I1.hok.fresh (Nat.le_refl _)
 refine ⟨.ref s1.heap.objs.size,upd H1 s1.heap.objs.size (.lst xs),I1.laid (t':=s1.toks) (fun b u e=>Heap.get?_push_of_some _ e) (Nat.le_refl _) ?_,rfl,q _ hf⟩
 exact ⟨z,us,0,r,Heap.get?_push_size _ rfl⟩
end
noncomputable abbrev Sp:=List V -> Hp -> VK -> XK -> Prop
noncomputable abbrev CXT:=List Env -> Hp -> Shared -> XK -> Value -> Shared -> Prop
structure Env0 (P:Program) (w:World) (K:PySem.W.Frag) (mg:Str -> Option Value) (base:Heap) (A:Around) (outer:List Env) (s:Shared) (H:Hp):Prop where
 frames:A.frames = some outer
 mod:Mod K mg base
 bs:∀ b o,base.get? b = some o -> s.heap.get? b = some o /\ H b = none
 bsz:base.objs.size <= s.heap.objs.size
 funs:s.heap.FunFrames base outer
 frf:∀ b ∈ frs outer,H b = none
 hok:HOk P w H s.heap
 bare:AllBare s.gens
noncomputable def CE (outer:List Env) (P:Program) (w:World) (H:Hp) (s:Shared) (Q:VK) (u:Value) (s':Shared):Prop :=
 ∃ v H',s'.os = s.os /\ AllBare s'.gens /\ Un (frs outer) [] H H' s.heap s'.heap /\ HOk P w H' s'.heap /\ RelV v u /\ Q v H'
noncomputable def CR (CX:CXT) (outer:List Env) (P:Program) (w:World) (H:Hp) (s:Shared) (Q:VK) (E:XK) (r:Result) (s':Shared):Prop :=
 match r with
 | .ok (.ret u)=>CE outer P w H s Q u s'
 | .ok _=>False
 | .error e=>CX outer H s E e s'
structure FnOk (P:Program) (w:World) (K:PySem.W.Frag) (mg:Str -> Option Value) (base:Heap) (CX:CXT) (k:Nat) (f:Addr) (fd:FuncData) (ps:List Str) (sp:Sp):Prop where
 len:∀ vs H Q E,sp vs H Q E -> vs.length = ps.length
 run:∀ (A:Around) (outer:List Env) (s:Shared) (H:Hp) (args:Args) (us:List Value) (vs:List V) (Q:VK) (E:XK),Room k A -> Env0 P w K mg base A outer s H -> BindsTo s fd args (ps.zip us) -> Vals vs us -> sp vs H Q E ->
  codeAny (model P w) A (.call (.ref f) args) (CR CX outer P w H s Q E) s
theorem Env0.make {P:Program} {w:World} {K:PySem.W.Frag} {mg:Str -> Option Value} {base:Heap} {A:Around} {outer:List Env} {s:Shared} {H:Hp} (e:Env0 P w K mg base A outer s H) (C:Addr) (us:List Value) (kw:List (Str × Value)) :
  Env0 P w K mg base (A.under (.builtin "type.__call__" ⟨.ref C :: us,kw⟩)) outer s H:=⟨by first | exact e.frames | (simpa [Around.under,Code.envs,Code.isFrame,pushEnvs] using e.frames),e.mod,e.bs,e.bsz,e.funs,e.frf,e.hok,e.bare⟩
section
variable {X:Cx} {pins:List (Addr × Obj)} {σ:St} {H:Hp} {s s':Shared}
theorem Inv.env0 (I:Inv X pins σ H s):Env0 X.prog X.w X.K X.mg X.base X.A X.stack s H :=
 ⟨I.ok.frames,I.ok.mod,I.bs,Nat.le_trans I.ok.bsz I.sz,I.stack,I.stkFree,I.hok,I.bare⟩
theorem Inv.after {Q:VK} {u:Value} (I:Inv X pins σ H s) (h:CE X.stack X.prog X.w H s Q u s'):EP X pins σ Q u s':=by
 obtain ⟨v,H',os,bare,un,hok,r,q⟩:=h
 obtain ⟨hh,g,d,t,os'⟩:=s'
 obtain rfl:os' = s.os:=os
 exact ⟨v,H',I.call (h':=hh) (g':=g) (d':=d) (t':=t) (ch:=[]) un hok bare (fun b z=>absurd z (by simp)),r,q⟩
end
noncomputable def tCall (sp:Sp) (dvs:List V) (E:XK) (t:TA):TE:=fun σ H Q=>t σ H fun vs H1=>sp (vs ++ dvs) H1 Q E
noncomputable def Binds (K:PySem.W.Frag) (fd:FuncData) (ps:List Str) (ds:List Value):Prop :=
 ∀ (s:Shared) (us:List Value),K.In s.heap -> (us ++ ds).length = ps.length -> BindsTo s fd ⟨us,[]⟩ (ps.zip (us ++ ds))
theorem Binds.all {K:PySem.W.Frag} {fd:FuncData} {ps:List Str} (h:∀ us:List Value,us.length = ps.length -> bindArgs fd ⟨us,[]⟩ = pure (ps.zip us)):Binds K fd ps []:=fun s us _ hl=>by
 rw [List.append_nil] at hl ⊢
 exact .of_eq (h us hl)
noncomputable def Passes (CX:CXT) (X:Cx) (E:XK):Prop:=∀ (pins:List (Addr × Obj)) (σ:St) (H:Hp) (s:Shared) (e:Value) (s':Shared),Inv X pins σ H s -> CX X.stack H s E e s' -> X.xe e s'
section
variable {X:Cx} {CX:CXT} {k:Nat} {f C:Addr} {fd:FuncData} {ps:List Str} {sp:Sp} {dvs:List V} {ds:List Value} {E:XK} {x m:Str} {p pos apos:Pos} {e o:Expr} {es:List Expr} {ta:TE} {t:TA}
theorem run_fn {pins:List (Addr × Obj)} {σ:St} {H:Hp} {s:Shared} {Q:VK} {us:List Value} {vs:List V} (F:FnOk X.prog X.w X.K X.mg X.base CX k f fd ps sp) (hr:Room k X.A) (hb:Binds X.K fd ps ds) (hd:Vals dvs ds) (hx:Passes CX X E)
  (I:Inv X pins σ H s) (r:Vals vs us) (h:sp (vs ++ dvs) H Q E):wpAny (model X.prog X.w) X.A (call (.ref f) us) (EP X pins σ Q) X.xe s:=by
 have r2:Vals (vs ++ dvs) (us ++ ds):=r.append hd
 have hl:(us ++ ds).length = ps.length:=by rw [<- r2.length]; exact F.len _ _ _ _ h
 refine wpAny_call (codeAny_mono (F.run X.A X.stack s H ⟨us,[]⟩ (us ++ ds) (vs ++ dvs) Q E hr I.env0 (hb s us I.kIn hl) r2 h) fun r s' hq=>?_)
 cases r with
 | error e=>exact hx pins σ H s e s' I hq
 | ok fl =>
  cases fl with
  | ret u=>exact I.after hq
  | next=>exact False.elim hq
  | brk=>exact False.elim hq
  | cont=>exact False.elim hq
theorem pe_call (F:FnOk X.prog X.w X.K X.mg X.base CX k f fd ps sp) (hr:Room k X.A) (hg:Gl X x) (hm:X.mg x = some (.ref f)) (hk:PySem.W.keepIn X.K (.ref f) = true) (hb:Binds X.K fd ps ds) (hd:Vals dvs ds) (hx:Passes CX X E)
  (ha:PA X (e :: es) t) (hdb:(x == ("__debug__":Str)) = false:=by decide) (he:starEach (e :: es) X.env = (false,eval e X.env) :: starEach es X.env:=by rfl) (hpl:(backTo pos (starEach es X.env)).any (·.1) = false:=by rfl) :
  PE X (.Call (.Name x p) (e :: es) [] pos) (tCall sp dvs E t):=by
 intro pins s σ H Q I h
 refine wpAny_Call_Name_kw (ld_glob I hg hm ?_ hdb)
 refine PySem.W.callWith_K (h₀:=X.base) I.ok.mod.kin hk (thn (ha pos pins s σ H _ I h) fun us s1 ⟨vs,H1,I1,r,q⟩=>⟨I1.kIn,?_⟩) he hpl
 exact run_fn F hr hb hd hx I1 r q
structure Mk (K:PySem.W.Frag) (C f:Addr):Prop where
 makes:PySem.W.makesIn K C = true
 init:PySem.W.findIn K (.ref C) "__init__" = some (some (.ref f))
 fn:PySem.W.isFn K (.ref f) = true
 kp:PySem.W.keepIn K (.ref C) = true
end
section
variable {X:Cx} {CX:CXT} {k:Nat} {f C:Addr} {fd:FuncData} {ps ks:List Str} {sp:Sp} {E:XK} {x m:Str} {p pos apos kpos:Pos} {e o:Expr} {es:List Expr} {kws:List Keyword} {te ta:TE} {t tk:TA} {nm:Option Str}
structure KBinds (K:PySem.W.Frag) (fd:FuncData) (ps ks:List Str) (g:List Value -> List Value -> List Value) (gV:List V -> List V -> List V):Prop where
 to:∀ (s:Shared) (us ws:List Value),K.In s.heap -> (g us ws).length = ps.length -> BindsTo s fd ⟨us,ks.zip ws⟩ (ps.zip (g us ws))
 rel:∀ {vs:List V} {us:List Value} {zs:List V} {ws:List Value},Vals vs us -> Vals zs ws -> Vals (gV vs zs) (g us ws)
variable {g:List Value -> List Value -> List Value} {gV:List V -> List V -> List V}
end
structure FnScope (N P:List Str) (sc:Scope):Prop where
 kind:sc.kind = .function
 co:sc.isCoroutine = false
 gen:sc.isGenerator = false
 nd:N.Nodup
 pre:N.take P.length = P
 par:∀ x ∈ P,sc.names.lookup x = some .local \/ sc.names.lookup x = some .cell
 nofree:∀ y ∈ sc.names,y.2 ≠ .free
theorem bindL_out {kindOf:Str -> Option NameKind} {x:Str}:∀ {binds:List (Str × Value)} {m:Str -> Option Value},(∀ v,(x,v) ∉ binds) -> bindL kindOf binds m x = m x
 | [],_,_=>rfl
 | (n,v) :: r,m,h=>by
  unfold bindL
  rw [bindL_out fun w hw=>h w (List.mem_cons_of_mem _ hw)]
  split
  ·have:x ≠ n:=by rintro rfl; exact h v List.mem_cons_self
   simp [this]
  ·rfl
theorem bindC_out {kindOf:Str -> Option NameKind} {x:Str}:∀ {binds:List (Str × Value)} {m:Str -> Option Value},(∀ v,(x,v) ∉ binds) -> bindC kindOf binds m x = m x
 | [],_,_=>rfl
 | (n,v) :: r,m,h=>by
  unfold bindC
  rw [bindC_out fun w hw=>h w (List.mem_cons_of_mem _ hw)]
  split
  ·rfl
  ·have:x ≠ n:=by rintro rfl; exact h v List.mem_cons_self
   simp [this]
theorem bindL_get {kindOf:Str -> Option NameKind} {x:Str} {v:Value}:∀ {P:List Str} {vs:List Value} {i:Nat} {m:Str -> Option Value},P.Nodup -> P[i]? = some x -> vs[i]? = some v -> kindOf x = some .local ->
  bindL kindOf (P.zip vs) m x = some v
 | [],_,_,_,_,h,_,_=>by simp at h
 | _ :: _,[],_,_,_,_,h,_=>by simp at h
 | p :: P,w :: vs,0,m,nd,h1,h2,hk=>by
  simp at h1 h2; subst h1; subst h2
  show bindL kindOf ((p,w) :: P.zip vs) m p = _
  unfold bindL
  rw [bindL_out fun v hv=>(List.nodup_cons.mp nd).1 (List.of_mem_zip hv).1,if_pos hk]
  simp
 | p :: P,w :: vs,i + 1,m,nd,h1,h2,hk=>by
  show bindL kindOf ((p,w) :: P.zip vs) m x = _
  unfold bindL
  exact bindL_get (i:=i) (List.nodup_cons.mp nd).2 (by simpa using h1) (by simpa using h2) hk
theorem bindC_get {kindOf:Str -> Option NameKind} {x:Str} {v:Value}:∀ {P:List Str} {vs:List Value} {i:Nat} {m:Str -> Option Value},P.Nodup -> P[i]? = some x -> vs[i]? = some v -> kindOf x ≠ some .local ->
  bindC kindOf (P.zip vs) m x = some v
 | [],_,_,_,_,h,_,_=>by simp at h
 | _ :: _,[],_,_,_,_,h,_=>by simp at h
 | p :: P,w :: vs,0,m,nd,h1,h2,hk=>by
  simp at h1 h2; subst h1; subst h2
  show bindC kindOf ((p,w) :: P.zip vs) m p = _
  unfold bindC
  rw [bindC_out fun v hv=>(List.nodup_cons.mp nd).1 (List.of_mem_zip hv).1,if_neg hk]
  simp
 | p :: P,w :: vs,i + 1,m,nd,h1,h2,hk=>by
  show bindC kindOf ((p,w) :: P.zip vs) m x = _
  unfold bindC
  exact bindC_get (i:=i) (List.nodup_cons.mp nd).2 (by simpa using h1) (by simpa using h2) hk
noncomputable def start (N:List Str) (vs:List V):St:=vs.map some ++ List.replicate (N.length - vs.length) none
noncomputable def cxOf (CX:CXT) (P:Program) (w:World) (K:PySem.W.Frag) (mg:Str -> Option Value) (base:Heap) (N:List Str) (qual:Str) (scope:Scope) (f:Addr) (cd:Value) (A:Around) (outer:List Env) (s:Shared) (H:Hp) (E:XK):Cx where
 prog:=P
 w:=w
 K:=K
 mg:=mg
 base:=base
 A:=A.deeper (envOfC qual scope s.heap.objs.size f cd)
 N:=N
 s₀:=s
 H₀:=H
 env:=envOfC qual scope s.heap.objs.size f cd
 outer:=outer
 stack:=envOfC qual scope s.heap.objs.size f cd :: outer
 ex:=[]
 calm:=true
 fn:=fun _=>true
 pn:=[]
 xe:=fun e s'=>wpAny (model P w) (A.deeper (envOfC qual scope s.heap.objs.size f cd)) (leaving (envOfC qual scope s.heap.objs.size f cd) e) (fun _ s''=>CX outer H s E e s'') (fun e' s''=>CX outer H s E e' s'') s'
theorem cell_has {sc:Scope} {n:Nat} {x:Str} (h:sc.names.lookup x = some .cell):∃ c,(cellsFrom n sc.names []).lookup x = some c:=by
 have q:=PySem.W.cellsFrom_some sc.names n [] (.inl h)
 exact Option.isSome_iff_exists.mp q
theorem inv_start {CX:CXT} {P:Program} {w:World} {K:PySem.W.Frag} {mg:Str -> Option Value} {base:Heap} {N ps:List Str} {qual:Str} {scope:Scope} {f:Addr} {cd:Value} {A:Around} {outer:List Env} {s s1:Shared} {H:Hp} {E:XK} {us:List Value} {vs:List V}
  (S:FnScope N ps scope) (hd:A.handled = none) (e0:Env0 P w K mg base A outer s H) (hl:vs.length = ps.length) (r:Vals vs us)
  (x:InCallC s s.heap.objs.size (bindL (envOfC qual scope s.heap.objs.size f cd).kindOf (ps.zip us) fun _=>none) (cellsFrom (s.heap.objs.size + 1) scope.names []) (bindC (envOfC qual scope s.heap.objs.size f cd).kindOf (ps.zip us) fun _=>none) s1) :
  Inv (cxOf CX P w K mg base N qual scope f cd A outer s H E) [] (start N vs) H s1:=by
 have hpl:ps.length <= N.length:=by have:=congrArg List.length S.pre; rw [List.length_take] at this; omega
 obtain ⟨h1,tk,rfl,hk⟩:=x.done
 have noA:∀ b:Addr,b ∉ (cxOf CX P w K mg base N qual scope f cd A outer s H E).ex:=fun b z=>absurd (show b ∈ ([]:List Addr) from z) (by simp)
 refine ⟨⟨e0.mod,S.kind,rfl,rfl,Nat.le_refl _,fun y z c h1 h2=>?_,fun y hy=>?_,fun y c _ h=>?_,fun _=>hd,Around.frames_deeper e0.frames,.inr ⟨rfl,rfl⟩,fun b z=>absurd z (noA b),e0.bs,e0.bsz,fun b _ _=>noA b,fun b z=>absurd z (noA b),e0.funs,e0.frf⟩,
   rfl,e0.bare,Un.kept hk,⟨_,x.toInCall.ns,fun i y v h1 h2 h3=>?_⟩,fun y c h=>⟨_,x.cell y c h⟩,e0.hok.fresh (Nat.le_refl _),fun y c h=>?_,fun p hp=>absurd (show p ∈ ([]:List (Addr × Obj)) from hp) (by simp),e0.hok.kept hk,?_⟩
 ·exact name_of_addr x.apart (PySem.mem_of_lookup h1) (PySem.mem_of_lookup h2)
 ·have hy:scope.names.lookup y = some .cell \/ scope.names.lookup y = some .free:=hy
  rcases hy with hy | hy
  ·exact cell_has hy
  ·exact absurd rfl (S.nofree _ (PySem.mem_of_lookup hy))
 ·exact Nat.le_of_lt (x.above y c (PySem.mem_of_lookup h))
 ·have hi:i < vs.length:=by
   unfold start at h2
   by_cases hi:i < vs.length
   ·exact hi
   ·rw [List.getElem?_append_right (by simpa using hi)] at h2
    rw [List.getElem?_replicate] at h2
    split at h2 <;> cases h2
  have ha:vs[i]? = some v:=by
   unfold start at h2
   rw [List.getElem?_append_left (by simpa using hi),List.getElem?_map] at h2
   cases e:vs[i]? with
   | none=>rw [e] at h2; cases h2
   | some a=>rw [e] at h2; cases h2; rfl
  obtain ⟨u,hu,rv⟩:=r.get ha
  have hp:ps[i]? = some y:=by
   rw [<- S.pre,List.getElem?_take_of_lt (by omega)]; exact h1
  have ndP:ps.Nodup:=by rw [<- S.pre]; exact S.nd.sublist (List.take_sublist _ _)
  refine ⟨u,rv,?_⟩
  rcases S.par y (List.mem_of_getElem? hp) with k | k
  ·exact .inl ⟨k,bindL_get ndP hp hu k⟩
  ·obtain ⟨c,e⟩:=cell_has (n:=s.heap.objs.size + 1) k
   refine .inr ⟨.inl k,c,e,?_⟩
   have q:=x.cell y c e
   rw [bindC_get ndP hp hu (by show scope.names.lookup y ≠ _; rw [k]; decide)] at q
   exact q
 ·exact e0.hok.fresh (Nat.le_of_lt (x.above y c (PySem.mem_of_lookup h)))
 ·unfold start
  show _ = N.length
  rw [List.length_append,List.length_map,List.length_replicate]
  omega
theorem fn_of {CX:CXT} {P:Program} {w:World} {K:PySem.W.Frag} {mg:Str -> Option Value} {base:Heap} {k:Nat} {f:Addr} {name qual:Str} {params:Arguments} {body:List Stmt} {scope:Scope} {dV kV doc pm cdv ct oc:Value} {an od:Option Addr}
  {osl:Array (Option Value)} {N ps:List Str} {sp:Sp} (lk:K.lookup f = some ⟨oc,od,.func (PySem.W.fnOf name qual params body scope dV kV doc pm an cdv ct),osl⟩) (hcd:PySem.W.codeIn K cdv qual = true) (S:FnScope N ps scope)
  (len:∀ vs H Q E,sp vs H Q E -> vs.length = ps.length)
  (hbody:∀ (A:Around) (outer:List Env) (s:Shared) (H:Hp) (vs:List V) (Q:VK) (E:XK),Room k (A.deeper (envOfC qual scope s.heap.objs.size f cdv)) -> sp vs H Q E ->
    ∃ t,PSs (cxOf CX P w K mg base N qual scope f cdv A outer s H E) body t /\ t { nx:=fun _ H'=>Q .non H',rt:=Q } (start N vs) H) :
  FnOk P w K mg base CX (k + 1) f (PySem.W.fnOf name qual params body scope dV kV doc pm an cdv ct) ps sp:=by
 refine ⟨len,fun A outer s H args us vs Q E hr e0 hb r hsp=>?_⟩
 have hl:=len _ _ _ _ hsp
 have KX:K.In s.heap:=e0.mod.kin.keeps fun b o e=>(e0.bs b o e).1
 have lim:s.heap.NoLimit:=e0.mod.nolimit.keeps fun b o e=>(e0.bs b o e).1
 have hkind:∀ y ∈ ps.zip us,scope.names.lookup y.1 = some .local \/ (scope.names.lookup y.1 = some .cell /\ ((cellsFrom (s.heap.objs.size + 1) scope.names []).lookup y.1).isSome = true):=fun ⟨n,v⟩ hy=>by
  rcases S.par n (List.of_mem_zip hy).1 with q | q
  ·exact .inl q
  ·exact .inr ⟨q,PySem.W.cellsFrom_some _ _ _ (.inl q)⟩
 refine codeAny_call_function hr.depth (KX _ _ lk) rfl S.co S.gen rfl (PySem.W.codeRec_of KX hcd) (hb _ _ _ _ ?_)
 refine wpAny_newFunctionEnv_cells S.kind hkind fun env he s1 x=>?_
 subst he
 refine ⟨lim.keeps x.toInCall.keep,codeAny_func ?_⟩
 obtain ⟨t,ht,hq⟩:=hbody A outer s H vs Q E (hr.deeper _) hsp
 have I:Inv (cxOf CX P w K mg base N qual scope f cdv A outer s H E) [] (start N vs) H s1:=inv_start S hr.hd e0 hl r x
 refine wpAny_mono (ht [] s1 (start N vs) H _ I hq) (fun fl s' hs=>?_) fun e s' hs=>hs
 have fin:∀ {σ':St} {H':Hp} {v:V} {u:Value},Inv (cxOf CX P w K mg base N qual scope f cdv A outer s H E) [] σ' H' s' -> RelV v u -> Q v H' -> CE outer P w H s Q u s' :=
  fun {σ' H' v u} J rv q=>⟨v,H',J.os,J.bare,J.base,J.hok,rv,q⟩
 cases fl with
 | ret u =>
  obtain ⟨v,σ',H',J,rv,q⟩:=hs
  exact fin J rv q
 | next =>
  obtain ⟨σ',H',J,q⟩:=hs
  exact fin (v:=V.non) (u:=Value.none) J rfl q
 | brk =>
  obtain ⟨_,_,_,q⟩:=hs
  exact False.elim q
 | cont =>
  obtain ⟨_,_,_,q⟩:=hs
  exact False.elim q
end L2
namespace L2
open PySem PySem.Spec PyProof.Rows
section
variable {X:Cx} {x:Str} {p pos:Pos} {e:Expr} {es:List Expr} {t:TA} {id T:String} {r:List V -> Hp -> VK -> Prop}
noncomputable def tCB (r:List V -> Hp -> VK -> Prop) (t:TA):TE:=fun σ H Q=>t σ H fun vs H1=>r vs H1 Q
theorem pe_callB (hc:CallR X (.builtin id) r) (hg:Gl X x) (hm:X.mg x = none) (hv:bootBuiltins x = some (.builtin id)) (ha:PA X (e :: es) t) (hn:x ≠ "__name__":=by decide) (hdb:(x == ("__debug__":Str)) = false:=by decide)
  (he:starEach (e :: es) X.env = (false,eval e X.env) :: starEach es X.env:=by rfl) (hpl:(backTo pos (starEach es X.env)).any (·.1) = false:=by rfl):PE X (.Call (.Name x p) (e :: es) [] pos) (tCB r t):=by
 intro pins s σ H Q I h
 refine wpAny_Call_Name_kw (ld_blt I hg hm hv ?_ hn hdb)
 exact PyProof.Rows.callWith_builtin1 (thn (ha pos pins s σ H _ I h) fun us s1 ⟨vs,H1,I1,r1,q1⟩=>hc pins s1 σ H1 vs us Q I1 r1 q1) he hpl
theorem pe_callTy (hc:CallR X (.type T) r) (hg:Gl X x) (hm:X.mg x = none) (hv:bootBuiltins x = some (.type T)) (ha:PA X (e :: es) t) (hn:x ≠ "__name__":=by decide) (hdb:(x == ("__debug__":Str)) = false:=by decide)
  (he:starEach (e :: es) X.env = (false,eval e X.env) :: starEach es X.env:=by rfl) (hpl:(backTo pos (starEach es X.env)).any (·.1) = false:=by rfl):PE X (.Call (.Name x p) (e :: es) [] pos) (tCB r t):=by
 intro pins s σ H Q I h
 refine wpAny_Call_Name_kw (ld_blt I hg hm hv ?_ hn hdb)
 exact PyProof.Rows.callWith_type1 (thn (ha pos pins s σ H _ I h) fun us s1 ⟨vs,H1,I1,r1,q1⟩=>hc pins s1 σ H1 vs us Q I1 r1 q1) he hpl
end
end L2
namespace HT
open PySem PyProof.Rows
section
open PySem.SeqAt
open PySem.AutoSeq1 (wpAny_loadPart')
open PySem.MeetsSeq PySem.MeetsSeq2 PySem.MeetsSeq3
end
section
variable {prog:Program} {w:World} {A:Around} {E:Value -> Shared -> Prop} {s:Shared}
theorem cat_tup {t b:Addr} {vs ws:List Value} {Q:Value -> Shared -> Prop} (ht:IsTup s.heap t vs.toArray) (hb:IsTup s.heap b ws.toArray) (hv:vs ≠ [])
  (h1:ws = [] -> Q (.ref t) s) (h2:ws ≠ [] -> Q (.ref s.heap.objs.size) { s with heap:=s.heap.push { cls:=.type "tuple",data:=.seq (vs ++ ws).toArray } })
  (hsz:vs.length + ws.length <= sizeLine):wpAny (model prog w) A (binaryOp .Add (.ref t) (.ref b)) Q E s:=by
 obtain ⟨⟨cls,dd,data,sl⟩,ho,hc,n,hd⟩:=id ht
 obtain ⟨⟨cls2,dd2,data2,sl2⟩,ho2,hc2,n2,hd2⟩:=id hb
 simp only at hc hd hc2 hd2
 subst hc hd hc2 hd2
 have e:vs.toArray ++ ws.toArray = (vs ++ ws).toArray:=by simp
 by_cases hw:ws = []
 ·exact concat_meets ⟨_,ho,rfl⟩ ⟨_,ho2,rfl⟩ noFill_tuple_add seq_tuple_add PySem.F.slot_tuple_add PySem.F.entry_tuple_add (PySem.F.args_tuple_add_2 _ _)
   (tuple_addW1 t b vs.toArray ws.toArray n n2 dd dd2 sl sl2 (by simpa using hv) (by simp [hw])) ⟨ho,ho2,h1 hw⟩
 ·refine concat_meets ⟨_,ho,rfl⟩ ⟨_,ho2,rfl⟩ noFill_tuple_add seq_tuple_add PySem.F.slot_tuple_add PySem.F.entry_tuple_add (PySem.F.args_tuple_add_2 _ _)
   (tuple_addW2 t b vs.toArray ws.toArray n n2 dd dd2 sl sl2 (by simpa using hv) (by simpa using hw) (by rw [List.size_toArray,List.size_toArray]; exact hsz)) ⟨ho,ho2,?_⟩
  rw [e]
  exact h2 hw
noncomputable def sIx (n d:Nat):Option Int -> Nat
 | none=>d
 | some v=>if v < 0 then (v + (n:Int)).toNat else min v.toNat n
theorem sIx_le (n d:Nat) (hd:d <= n) (o:Option Int):sIx n d o <= n:=by
 cases o with
 | none=>exact hd
 | some v =>
  show (if v < 0 then (v + (n:Int)).toNat else min v.toNat n) <= n
  by_cases hv:v < 0
  ·rw [if_pos hv]; omega
  ·rw [if_neg hv]; exact Nat.min_le_right _ _
theorem clip_eq (v:Int) (n d:Nat):(if v < 0 then max (v + (n:Int)) 0 else min v (n:Int)) = ((sIx n d (some v):Nat):Int):=by
 show (if v < 0 then max (v + (n:Int)) 0 else min v (n:Int)) = (((if v < 0 then (v + (n:Int)).toNat else min v.toNat n):Nat):Int)
 by_cases hv:v < 0
 ·simp only [if_pos hv]; omega
 ·simp only [if_neg hv]; omega
theorem adjust_gen (lo hi:Option Int) (n:Nat):Builtin.Slice.sliceAdjust lo hi 1 (n:Int) = (((sIx n 0 lo:Nat):Int),((sIx n n hi:Nat):Int)):=by
 have h1:¬ ((1:Int) < 0):=by omega
 unfold Builtin.Slice.sliceAdjust
 simp only [h1,if_false]
 refine Prod.ext ?_ ?_
 ·cases lo with
  | none=>rfl
  | some v=>exact clip_eq v n 0
 ·cases hi with
  | none=>rfl
  | some v=>exact clip_eq v n n
theorem places_gen (i j:Nat):Builtin.Slice.slicePlaces (i:Int) (j:Int) 1 = j - i:=by
 unfold Builtin.Slice.slicePlaces
 have h1:(1:Int) > 0:=by omega
 simp only [h1,if_true,Int.ediv_one]
 split <;> omega
theorem slicePart_ {v:Value} {o:Option Int} {Q:Option Int -> Shared -> Prop} (p:IsPart v o) (h:Q o s):wpAny (model prog w) A (Builtin.Slice.slicePartIndex v) Q E s:=by
 cases p with
 | none=>exact slicePart_none h
 | int i t=>exact slicePart_int h
theorem sliceApplied_gen {sl:Addr} {vl vu:Value} {lo hi:Option Int} {n:Nat} {Q:Int × Int × Nat -> Shared -> Prop} (hs:s.heap.IsSliceOf sl vl vu .none) (pl:IsPart vl lo) (pu:IsPart vu hi)
  (h:Q (((sIx n 0 lo:Nat):Int),1,sIx n n hi - sIx n 0 lo) s):wpAny (model prog w) A (Builtin.Slice.sliceApplied (.ref sl) (pure (n:Int))) Q E s:=by
 obtain ⟨os,hos,hcs,hds⟩:=id hs
 unfold Builtin.Slice.sliceApplied Builtin.Slice.sliceFields
 refine wpAny_bind (wpAny_bind (wpAny_field hos hds (x:=vl) rfl (wpAny_bind (wpAny_field hos hds (x:=vu) rfl (wpAny_bind (wpAny_field hos hds (x:=.none) rfl (wpAny_pure ?_)))))))
 refine wpAny_bind (slicePart_none ?_)
 show wpAny _ _ (if ((1:Int) == 0) = true then _ else _) _ _ s
 rw [if_neg (by decide)]
 refine wpAny_bind (slicePart_ pl (wpAny_bind (slicePart_ pu (wpAny_bind (wpAny_pure ?_)))))
 show wpAny _ _ (match Builtin.Slice.sliceAdjust lo hi 1 (n:Int) with | (lo,hi)=>pure (lo,(1:Int),Builtin.Slice.slicePlaces lo hi 1)) _ _ s
 rw [adjust_gen lo hi n]
 show wpAny _ _ (pure (((sIx n 0 lo:Nat):Int),(1:Int),Builtin.Slice.slicePlaces ((sIx n 0 lo:Nat):Int) ((sIx n n hi:Nat):Int) 1)) _ _ s
 rw [places_gen]
 exact wpAny_pure h
theorem pick_gen (xs:Array Value) (i k:Nat):((List.range k).filterMap fun (m:Nat)=>xs[((i:Int) + (m:Int) * 1).toNat]?).toArray = ((xs.toList.drop i).take k).toArray:=by
 have e:(fun (m:Nat)=>xs[((i:Int) + (m:Int) * 1).toNat]?) = fun m=>xs[i + m]?:=by
  funext m
  have:((i:Int) + (m:Int) * 1).toNat = i + m:=by omega
  rw [this]
 rw [e]
 have:=pick_run xs i k
 rw [List.filterMap_map] at this
 have e2:((fun x=>xs[x]?) ∘ fun x=>i + x) = fun m=>xs[i + m]?:=rfl
 rw [e2] at this
 rw [this]
theorem getItem_tuple_cut {t sl:Addr} {items:Array Value} {vl vu:Value} {lo hi:Option Int} {Q:Value -> Shared -> Prop} (ht:IsTup s.heap t items) (hs:s.heap.IsSliceOf sl vl vu .none) (pl:IsPart vl lo) (pu:IsPart vu hi)
  (hw:¬ (sIx items.size 0 lo = 0 /\ sIx items.size items.size hi = items.size))
  (h:Q (.ref s.heap.objs.size) { s with heap:=s.heap.push { cls:=.type "tuple",data:=.seq ((items.toList.drop (sIx items.size 0 lo)).take (sIx items.size items.size hi - sIx items.size 0 lo)).toArray } })
  (hsz:items.size <= sizeLine):wpAny (model prog w) A (getItem (.ref t) (.ref sl)) Q E s:=by
 have htake:sizeOk (.seq ((items.toList.drop (sIx items.size 0 lo)).take (sIx items.size items.size hi - sIx items.size 0 lo)).toArray):=by
  show ((items.toList.drop (sIx items.size 0 lo)).take (sIx items.size items.size hi - sIx items.size 0 lo)).toArray.size <= sizeLine
  rw [List.size_toArray,List.length_take,List.length_drop,Array.length_toList]
  omega
 have hj:sIx items.size items.size hi <= items.size:=sIx_le _ _ (Nat.le_refl _) hi
 obtain ⟨os,hos,hcs,hds⟩:=id hs
 have hTs:s.TypeIs (.ref sl) "slice":=⟨os,hos,hcs⟩
 unfold getItem
 try with_reducible refine wpAny_holding ?_
 first | refine wpAny_bind (wpAny_pure ?_) | skip
 refine wpAny_bind (wpAny_sequenceKey ht.typeIs (by decide) ?_)
 refine wpAny_bind (wpAny_callSpecial?_slot (name:=Str.ofString "__getitem__") ht.typeIs PyProof.Rows.slot_tuple_getitem
   (wpAny_call_entry PyProof.Rows.slot_tuple_getitem ht.typeIs entry_tuple_getitem ?_ (args_tuple_getitem _ _)))
 show wpAny _ _ (Builtin.Tuple.tupleItemsOf (.ref t) >>= _) _ _ s
 refine wpAny_bind (tupleItemsOf_ ht ?_)
 refine wpAny_bind (wpAny_typeOf hTs ?_)
 rw [if_pos (by decide)]
 refine wpAny_bind (sliceApplied_gen hs pl pu ?_)
 have hno:¬ ((((sIx items.size 0 lo:Nat):Int) == 0 && (1:Int) == 1 && (sIx items.size items.size hi - sIx items.size 0 lo) == items.size) = true):=by
  intro q
  rw [Bool.and_eq_true,Bool.and_eq_true] at q
  have q1:((sIx items.size 0 lo:Nat):Int) = 0:=eq_of_beq q.1.1
  have q2:sIx items.size items.size hi - sIx items.size 0 lo = items.size:=eq_of_beq q.2
  exact hw ⟨by omega,by omega⟩
 show wpAny _ _ (if (((sIx items.size 0 lo:Nat):Int) == 0 && (1:Int) == 1 && (sIx items.size items.size hi - sIx items.size 0 lo) == items.size) = true then _ else _) _ _ s
 rw [if_neg hno,pick_gen]
 first
  | exact wpAny_bind (m:=Builtin.Tuple.tupleExact _) (wpAny_newObj_type (wpAny_pure ⟨_,rfl,wpAny_pure h⟩) htake)
  | exact wpAny_bind (m:=Builtin.Tuple.tupleExact _) (wpAny_newObj_type (wpAny_bind (wpAny_pure (wpAny_pure ⟨_,rfl,wpAny_pure h⟩))) htake)
  | exact wpAny_bind (wpAny_bind (m:=Builtin.Tuple.tupleExact _) (wpAny_newObj_type (wpAny_pure (wpAny_pure ⟨_,rfl,wpAny_pure h⟩)) htake))
  | exact wpAny_bind (wpAny_bind (m:=Builtin.Tuple.tupleExact _) (wpAny_newObj_type (wpAny_pure ⟨_,rfl,wpAny_pure h⟩) htake))
end
end HT
namespace L2
open PySem PySem.Spec PyProof.Rows
noncomputable abbrev TO:=St -> Hp -> (Option Int -> Hp -> Prop) -> Prop
noncomputable def PO (X:Cx) (e:Option Expr) (t:TO):Prop :=
 ∀ (pins:List (Addr × Obj)) (s:Shared) (σ:St) (H:Hp) (Q:Option Int -> Hp -> Prop),Inv X pins σ H s -> t σ H Q ->
  wpAny (model X.prog X.w) X.A (evalPart e X.env) (fun u s'=>∃ o H',Inv X pins σ H' s' /\ IsPart u o /\ Q o H') X.xe s
noncomputable def tNoPart:TO:=fun _ H Q=>Q none H
noncomputable def tPart (t:TE):TO:=fun σ H Q=>t σ H fun x H1=>∃ i,x = .int i /\ Q (some i) H1
section
variable {X:Cx} {e:Expr} {te:TE} {lo hi:Option Expr} {tl th:TO} {pos p2:Pos}
theorem po_none:PO X none tNoPart:=by
 intro pins s σ H Q I h
 rw [evalPart_none]
 exact wpAny_pure ⟨none,H,I,.none,h⟩
theorem po_some (h:PE X e te):PO X (some e) (tPart te):=by
 intro pins s σ H Q I hw
 rw [evalPart_some]
 refine thn (h pins s σ H _ I hw) fun u s1 ⟨x,H1,I1,r1,q1⟩=>?_
 obtain ⟨i,rfl,q⟩:=q1
 obtain ⟨t,rfl⟩:=r1
 exact ⟨some i,H1,I1,.int i t,q⟩
noncomputable def SlR (X:Cx) (r:V -> Option Int -> Option Int -> Hp -> VK -> Prop):Prop :=
 ∀ (pins:List (Addr × Obj)) (s:Shared) (σ:St) (H:Hp) (x:V) (v vl vu:Value) (lo hi:Option Int) (sl:Addr) (Q:VK),Inv X pins σ H s -> RelV x v -> s.heap.IsSliceOf sl vl vu .none -> IsPart vl lo -> IsPart vu hi -> r x lo hi H Q ->
  ∃ T id,typeLookup (.type T) "__getitem__" = pure (some (.builtin id)) /\ s.TypeIs v T /\ wpAny (model X.prog X.w) X.A (getItem v (.ref sl)) (EP X pins σ Q) X.xe s
noncomputable def tSl (r:V -> Option Int -> Option Int -> Hp -> VK -> Prop) (te:TE) (tl th:TO):TE:=fun σ H Q=>te σ H fun x H1=>tl σ H1 fun l H2=>th σ H2 fun u H3=>r x l u H3 Q
theorem pe_slice {r:V -> Option Int -> Option Int -> Hp -> VK -> Prop} (hr:SlR X r) (he:PE X e te) (hl:PO X lo tl) (hu:PO X hi th):PE X (.Subscript e (.Slice lo hi none p2) pos) (tSl r te tl th):=by
 intro pins s σ H Q I h
 refine Subscript_ (thn (he pins s σ H _ I h) fun v s1 ⟨x,H1,I1,r1,q1⟩=>?_)
 refine wpAny_Slice (thn (hl pins s1 σ H1 _ I1 q1) fun vl s2 ⟨l,H2,I2,pl,q2⟩=>thn (hu pins s2 σ H2 _ I2 q2) fun vu s3 ⟨u,H3,I3,pu,q3⟩=>?_)
 rw [evalPart_none]
 refine wpAny_pure ?_
 have I4:Inv X pins σ H3 { s3 with heap:=s3.heap.push { cls:=.type "slice",data:=.fields #[vl,vu,.none] } }:=I3.kept (t':=s3.toks) fun b ob q=>Heap.get?_push_of_some _ q
 obtain ⟨T,id,hT,ht,hg⟩:=hr pins { s3 with heap:=s3.heap.push { cls:=.type "slice",data:=.fields #[vl,vu,.none] } } σ H3 x v vl vu l u s3.heap.objs.size Q I4 r1 (Heap.IsSliceOf.new ..) pl pu q3
 show wpAny (model X.prog X.w) X.A (subscriptTail e (.Slice lo hi none p2) v (.ref s3.heap.objs.size)) (EP X pins σ Q) X.xe { s3 with heap:=s3.heap.push { cls:=.type "slice",data:=.fields #[vl,vu,.none] } }
 exact tail_any (ops:=[.ref s3.heap.objs.size,v]) ht hT hg (by with_unfolding_all rfl)
noncomputable def cutV (xs:List V) (lo hi:Option Int):List V:=(xs.drop (HT.sIx xs.length 0 lo)).take (HT.sIx xs.length xs.length hi - HT.sIx xs.length 0 lo)
theorem cutV_length (xs:List V) (lo hi:Option Int):(cutV xs lo hi).length <= xs.length:=by
 unfold cutV
 rw [List.length_take,List.length_drop]
 omega
noncomputable def rSlT (K:PySem.W.Frag):V -> Option Int -> Option Int -> Hp -> VK -> Prop:=fun x lo hi H Q=>∃ a xs,x = .ref a /\ SqT K H a xs /\
 ¬ (HT.sIx xs.length 0 lo = 0 /\ HT.sIx xs.length xs.length hi = xs.length) /\ ∀ p,H p = none -> Q (.ref p) (upd H p (.tup (cutV xs lo hi)))
theorem sl_tup:SlR X (rSlT X.K):=by
 intro pins s σ H x v vl vu lo hi sl Q I rx hs pl pu h
 obtain ⟨a,xs,rfl,hx,hw,q⟩:=h
 cases rx
 obtain ⟨its,r,ht,hz⟩:=I.tuple hx
 have hlen:its.toArray.size = xs.length:=by rw [List.size_toArray]; exact r.length.symm
 refine ⟨"tuple",_,PyProof.Rows.slot_tuple_getitem.lookup,ht.typeIs,?_⟩
 refine HT.getItem_tuple_cut ht hs pl pu (by rw [hlen]; exact hw) ?_ (by rw [hlen]; exact hz)
 rw [hlen]
 refine ⟨.ref s.heap.objs.size,_,I.laid (t':=s.toks) (o:=.tup (cutV xs lo hi)) (fun b ob q=>Heap.get?_push_of_some _ q) (Nat.le_refl _) ?_,rfl,q _ (I.hok.fresh (Nat.le_refl _))⟩
 exact ⟨Nat.le_trans (cutV_length xs lo hi) hz,_,(r.drop (HT.sIx xs.length 0 lo)).take (HT.sIx xs.length xs.length hi - HT.sIx xs.length 0 lo),IsTupD.new _ _⟩
noncomputable def rCatT (K:PySem.W.Frag):R2:=fun x y H Q=>∃ a b xs ys,x = .ref a /\ y = .ref b /\ SqT K H a xs /\ SqT K H b ys /\ xs ≠ [] /\ xs.length + ys.length <= sizeLine /\
 (ys = [] -> Q (.ref a) H) /\ (ys ≠ [] -> ∀ p,H p = none -> Q (.ref p) (upd H p (.tup (xs ++ ys))))
theorem Vals.nil_iff {xs:List V} {us:List Value} (r:Vals xs us):us = [] ↔ xs = []:=by
 cases r with
 | nil=>simp
 | cons _ _=>simp
theorem op_catT:OpR X (binaryOp .Add) (rCatT X.K):=by
 intro pins s σ H x y v u Q I rx ry h
 obtain ⟨a,b,xs,ys,rfl,rfl,ha,hb,hx,hz,q1,q2⟩:=h
 cases rx
 cases ry
 obtain ⟨its,r1,p1,_⟩:=I.tuple ha
 obtain ⟨its2,r2,p2,_⟩:=I.tuple hb
 refine HT.cat_tup p1 p2 (fun z=>hx (r1.nil_iff.mp z)) (fun z=>⟨.ref a,H,I,rfl,q1 (r2.nil_iff.mp z)⟩) (fun z=>?_) (by rw [<- r1.length,<- r2.length]; exact hz)
 refine ⟨.ref s.heap.objs.size,_,I.laid (t':=s.toks) (o:=.tup (xs ++ ys)) (fun b ob q=>Heap.get?_push_of_some _ q) (Nat.le_refl _) ?_,rfl,q2 (fun w=>z (r2.nil_iff.mpr w)) _ (I.hok.fresh (Nat.le_refl _))⟩
 exact ⟨by rw [List.length_append]; exact hz,_,r1.append r2,IsTupD.new _ _⟩
end
end L2
namespace L2
open PySem PySem.Spec PyProof.Rows
noncomputable def ixN (n:Nat) (i:Int):Option Nat:=if 0 <= i then (if i < n then some i.toNat else none) else if -(n:Int) <= i then some (i + n).toNat else none
noncomputable def atI {α:Type} (xs:List α) (i:Int):Option α:=(ixN xs.length i).bind fun j=>xs[j]?
theorem ixN_seq {n:Nat} {i:Int} {j:Nat} (h:ixN n i = some j):seqIndex? i n = some j /\ j < n /\ -(n:Int) <= i /\ i < n:=by
 unfold ixN at h
 by_cases h0:0 <= i
 ·rw [if_pos h0] at h
  by_cases h1:i < n
  ·rw [if_pos h1] at h
   have e:i.toNat = j:=Option.some.inj h
   exact ⟨by rw [seqIndex_of h0 h1,e],by omega,by omega,h1⟩
  ·rw [if_neg h1] at h; cases h
 ·rw [if_neg h0] at h
  by_cases h1:-(n:Int) <= i
  ·rw [if_pos h1] at h
   have e:(i + n).toNat = j:=Option.some.inj h
   exact ⟨by rw [seqIndex_neg (by omega) h1,e],by omega,h1,by omega⟩
  ·rw [if_neg h1] at h; cases h
theorem atI_get {α:Type} {xs:List α} {i:Int} {v:α} (h:atI xs i = some v):∃ j,seqIndex? i xs.length = some j /\ xs[j]? = some v /\ j < xs.length /\ -(xs.length:Int) <= i /\ i < xs.length:=by
 unfold atI at h
 cases e:ixN xs.length i with
 | none=>rw [e] at h; cases h
 | some j =>
  rw [e] at h
  obtain ⟨h1,h2,h3,h4⟩:=ixN_seq e
  exact ⟨j,h1,h,h2,h3,h4⟩
theorem atI_nat {α:Type} {xs:List α} {j:Nat} {v:α} (h:xs[j]? = some v):atI xs (j:Int) = some v:=by
 have hj:j < xs.length:=(List.getElem?_eq_some_iff.mp h).1
 have e:ixN xs.length (j:Int) = some j:=by
  unfold ixN
  rw [if_pos (by omega),if_pos (by omega)]; simp
 unfold atI; rw [e]; exact h
noncomputable def PlainIx (b:Expr):Prop:=∀ o i,subscripted b false o i = operate [o,i] (getItem o i)
noncomputable def IxR (X:Cx) (r:R2):Prop :=
 ∀ (value slice:Expr) (pins:List (Addr × Obj)) (s:Shared) (σ:St) (H:Hp) (x y:V) (v u:Value) (Q:VK),Inv X pins σ H s -> RelV x v -> RelV y u -> r x y H Q ->
  subscripted slice false v u = operate [v,u] (getItem v u) -> wpAny (model X.prog X.w) X.A (subscriptTail value slice v u) (EP X pins σ Q) X.xe s
noncomputable def MtR (X:Cx) (id:String) (r:V -> List V -> Hp -> VK -> Prop):Prop :=
 ∀ (pins:List (Addr × Obj)) (s:Shared) (σ:St) (H:Hp) (x:V) (xs:List V) (v:Value) (us:List Value) (Q:VK),Inv X pins σ H s -> RelV x v -> Vals xs us -> r x xs H Q ->
  wpAny (model X.prog X.w) X.A (call (.builtin id) (v :: us)) (EP X pins σ Q) X.xe s
section
variable {X:Cx} {a b:Expr} {ta tb:TE} {pos:Pos}
theorem IxR.or {r r':R2} (h:IxR X r) (h':IxR X r'):IxR X (fun x y H Q=>r x y H Q \/ r' x y H Q):=by
 intro value slice pins s σ H x y v u Q I rx ry q hs
 rcases q with q | q
 ·exact h value slice pins s σ H x y v u Q I rx ry q hs
 ·exact h' value slice pins s σ H x y v u Q I rx ry q hs
theorem pe_ix {r:R2} (hr:IxR X r) (ha:PE X a ta) (hb:PE X b tb) (hs:PlainIx b):PE X (.Subscript a b pos) (tOp r ta tb):=by
 intro pins s σ H Q I h
 exact Subscript_ (binT ha hb I h fun v u s2 x y H2 I2 rx ry q=>hr a b pins s2 σ H2 x y v u Q I2 rx ry q (hs _ _))
noncomputable def rIxL (K:PySem.W.Frag):R2:=fun x y H Q=>∃ p xs i v,x = .ref p /\ y = .int i /\ SqL K H p xs /\ atI xs i = some v /\ Q v H
noncomputable def rIxT (K:PySem.W.Frag):R2:=fun x y H Q=>∃ p xs i v,x = .ref p /\ y = .int i /\ SqT K H p xs /\ atI xs i = some v /\ Q v H
noncomputable def rIxS:R2:=fun x y H Q=>∃ z i c,x = .str z /\ y = .int i /\ z.length <= sizeLine /\ atI z.cps.toList i = some c /\ Q (.str ⟨#[c]⟩) H
theorem ix_list:IxR X (rIxL X.K):=by
 intro value slice pins s σ H x y v u Q I rx ry h hs
 obtain ⟨p,xs,i,z,rfl,rfl,hq,he,q⟩:=h
 cases rx
 obtain ⟨t,rfl⟩:=ry
 obtain ⟨its,r,pl,hz⟩:=I.list hq
 obtain ⟨j,h1,h2,h3,h4,h5⟩:=atI_get he
 obtain ⟨w,ew,rw'⟩:=r.get h2
 have hl:=r.length
 have hn:=line63
 have fin:EP X pins σ Q w s:=⟨z,H,I,rw',q⟩
 by_cases h0:0 <= i
 ·have hj:i.toNat = j:=by
   rw [seqIndex_of h0 h5] at h1
   exact Option.some.inj h1
  exact item_listR pl.isList h0 (by omega) (by rw [hj]; simpa using ew) fin hs
 ·have hj:(i + (its.toArray.size:Int)).toNat = j:=by
   rw [seqIndex_neg (by omega) h4] at h1
   rw [List.size_toArray,<- hl]
   exact Option.some.inj h1
  exact subscriptTail_builtinR (x:=w) pl.isList.typeIs slot_list_getitem.lookup
   (wpAny_getItem_list_neg (Q:=fun r s'=>r = w /\ EP X pins σ Q r s') pl.isList (by omega) (by rw [List.size_toArray] <;> omega) (by omega) (by rw [hj]; simpa using ew) ⟨rfl,fin⟩) hs
theorem ix_tup:IxR X (rIxT X.K):=by
 intro value slice pins s σ H x y v u Q I rx ry h hs
 obtain ⟨p,xs,i,z,rfl,rfl,hq,he,q⟩:=h
 cases rx
 obtain ⟨t,rfl⟩:=ry
 obtain ⟨its,r,pl,hz⟩:=I.tuple hq
 obtain ⟨j,h1,h2,h3,h4,h5⟩:=atI_get he
 obtain ⟨w,ew,rw'⟩:=r.get h2
 have hl:=r.length
 have hn:=line63
 have fin:EP X pins σ Q w s:=⟨z,H,I,rw',q⟩
 exact subscriptTail_builtinR (x:=w) pl.typeIs slot_tuple_getitem.lookup
  (getItem_tuple (j:=j) (Q:=fun r s'=>r = w /\ EP X pins σ Q r s') pl (by omega) (by omega) (by rw [List.size_toArray,<- hl]; exact h1) (by simpa using ew) ⟨rfl,fin⟩) hs
theorem ix_str:IxR X rIxS:=by
 intro value slice pins s σ H x y v u Q I rx ry h hs
 obtain ⟨z,i,c,rfl,rfl,hz,he,q⟩:=h
 obtain ⟨t,rfl⟩:=rx
 obtain ⟨t',rfl⟩:=ry
 obtain ⟨j,h1,h2,h3,h4,h5⟩:=atI_get he
 have hl:z.cps.toList.length = z.length:=by simp [Str.length]
 rw [hl] at h1 h4 h5
 have hn:=line63
 exact tail_any (typeIs_str s z t) slot_str_getitem.lookup (getItem_str (c:=c) (by
   have e1:decide (i < -(2 ^ 63:Int)) = false:=decide_eq_false (by omega)
   have e2:decide (i ≥ 2 ^ 63) = false:=decide_eq_false (by omega)
   rw [e1,e2,Bool.or_false]) (by rw [h1]; simpa using h2) ⟨.str ⟨#[c]⟩,H,I.tok _,⟨_,rfl⟩,q⟩) hs
theorem mapSeq_set (its:List Value) (n j:Nat) (u:Value):Obj.mapSeq (·.setIfInBounds j u) { cls:=.type "list",data:=.seq its.toArray n } = { cls:=.type "list",data:=.seq (its.set j u).toArray n }:=by
 simp [Obj.mapSeq]
theorem Inv.lst {pins:List (Addr × Obj)} {σ:St} {H:Hp} {s:Shared} {p:Addr} {xs:List V} (I:Inv X pins σ H s) (h:H p = some (.lst xs)) :
  ∃ (its:List Value) (n:Nat),Vals xs its /\ s.heap.get? p = some { cls:=.type "list",data:=.seq its.toArray n } /\ xs.length <= sizeLine:=by
 obtain ⟨z,its,n,r,e⟩:=I.hok p _ h
 exact ⟨its,n,r,e,z⟩
theorem Inv.lstUpd {pins:List (Addr × Obj)} {σ:St} {H:Hp} {s:Shared} {p:Addr} {xs ys:List V} {its its':List Value} {n n':Nat} {f:Obj -> Obj} (I:Inv X pins σ H s) (h:H p = some (.lst xs))
  (ho:s.heap.get? p = some { cls:=.type "list",data:=.seq its.toArray n }) (hf:f { cls:=.type "list",data:=.seq its.toArray n } = { cls:=.type "list",data:=.seq its'.toArray n' }) (r:Vals ys its') (hz:ys.length <= sizeLine) (t:Nat) :
  Inv X pins σ (upd H p (.lst ys)) { s with heap:=s.heap.update p f,toks:=t }:=by
 have e:(s.heap.update p f).get? p = some { cls:=.type "list",data:=.seq its'.toArray n' }:=by
  rw [Heap.get?_update_self f ho (by rw [hf] <;> rfl),hf]
 refine I.write (x:=p) (e:=p) (by rw [h]; trivial) (.inl rfl) (fun b u hb q=>(Heap.get?_update_other _ _ (Ne.symm hb)).trans q) ⟨_,e⟩ ?_
 exact ⟨hz,its',n',r,e⟩
noncomputable def rSetL:V -> V -> V -> Hp -> (Hp -> Prop) -> Prop:=fun o i v H Q=>∃ p xs k j,o = .ref p /\ i = .int k /\ H p = some (.lst xs) /\ ixN xs.length k = some j /\ Q (upd H p (.lst (xs.set j v)))
theorem set_list:PSet X rSetL:=by
 intro pins s σ H o i v ov iv u Q I ro ri rv h
 obtain ⟨p,xs,k,j,rfl,rfl,hp,hj,q⟩:=h
 cases ro
 obtain ⟨t,rfl⟩:=ri
 obtain ⟨its,n,r,ho,hz⟩:=I.lst hp
 obtain ⟨h1,h2,h3,h4⟩:=ixN_seq hj
 have hl:=r.length
 have hn:=line63
 have I':Inv X pins σ (upd H p (.lst (xs.set j v))) { s with heap:=s.heap.update p (Obj.mapSeq (·.setIfInBounds j u)) } :=
  I.lstUpd hp ho (mapSeq_set its n j u) (r.set rv j) (by rw [List.length_set]; exact hz) s.toks
 by_cases h0:0 <= k
 ·have hk:k.toNat = j:=by
   rw [seqIndex_of h0 h4] at h1
   exact Option.some.inj h1
  exact PySem.W.ki_setAt ho h0 (by omega) (by rw [List.size_toArray,<- hl]; exact h4) (by rw [hk]; exact ⟨_,I',q⟩)
 ·have hk:(k + (its.toArray.size:Int)).toNat = j:=by
   rw [seqIndex_neg (by omega) h3] at h1
   rw [List.size_toArray,<- hl]
   exact Option.some.inj h1
  exact PySem.W.ki_setBack ho (by omega) (by rw [List.size_toArray,<- hl]; exact h3) (by omega) (by rw [hk]; exact ⟨_,I',q⟩)
noncomputable def flatV:V -> Bool
 | .non=>true
 | .bl _=>true
 | .int _=>true
 | .str _=>true
 | _=>false
noncomputable def eqV:V -> V -> Bool
 | .non,.non=>true
 | .bl a,.bl b=>a == b
 | .bl a,.int b=>(if a then 1 else 0) == b
 | .int a,.bl b=>a == (if b then 1 else 0)
 | .int a,.int b=>a == b
 | .str a,.str b=>a == b
 | _,_=>false
theorem eqAt_V {A:Around} {s:Shared} {y x:V} {u v:Value} (ry:RelV y u) (rx:RelV x v) (fy:flatV y = true) (fx:flatV x = true):SeqAt.EqAt A s u v (eqV y x):=by
 cases y with
 | non =>
  cases ry
  cases x with
  | non=>cases rx; exact SeqAt.EqAt.same _
  | bl b=>cases rx; exact SeqAt.EqAt.none_bool b
  | int b=>obtain ⟨t,rfl⟩:=rx; exact SeqAt.EqAt.none_int b t
  | str b=>obtain ⟨t,rfl⟩:=rx; exact SeqAt.EqAt.none_str b t
  | _=>exact absurd (show false = true from fx) Bool.false_ne_true
 | bl a =>
  cases ry
  cases x with
  | non=>cases rx; exact SeqAt.EqAt.bool_none a
  | bl b=>cases rx; exact SeqAt.EqAt.bool_bool a b
  | int b=>obtain ⟨t,rfl⟩:=rx; exact SeqAt.EqAt.bool_int a b t
  | str b=>obtain ⟨t,rfl⟩:=rx; exact SeqAt.EqAt.bool_str a b t
  | _=>exact absurd (show false = true from fx) Bool.false_ne_true
 | int a =>
  obtain ⟨t',rfl⟩:=ry
  cases x with
  | non=>cases rx; exact SeqAt.EqAt.int_none a t'
  | bl b=>cases rx; exact SeqAt.EqAt.int_bool a t' b
  | int b=>obtain ⟨t,rfl⟩:=rx; exact SeqAt.EqAt.int_int a t' b t
  | str b=>obtain ⟨t,rfl⟩:=rx; exact SeqAt.EqAt.int_str a t' b t
  | _=>exact absurd (show false = true from fx) Bool.false_ne_true
 | str a =>
  obtain ⟨t',rfl⟩:=ry
  cases x with
  | non=>cases rx; exact SeqAt.EqAt.str_none a t'
  | bl b=>cases rx; exact SeqAt.EqAt.str_bool a t' b
  | int b=>obtain ⟨t,rfl⟩:=rx; exact SeqAt.EqAt.str_int a t' b t
  | str b=>obtain ⟨t,rfl⟩:=rx; exact SeqAt.EqAt.str_str a t' b t
  | _=>exact absurd (show false = true from fx) Bool.false_ne_true
 | _=>exact absurd (show false = true from fy) Bool.false_ne_true
noncomputable def eqU (x:V) (u:Value):Bool:=match u with
 | .none=>eqV .non x
 | .bool b=>eqV (.bl b) x
 | .int i _=>eqV (.int i) x
 | .str z _=>eqV (.str z) x
 | _=>false
theorem eqU_of {x y:V} {u:Value} (r:RelV y u) (f:flatV y = true):eqU x u = eqV y x:=by
 cases y with
 | non=>cases r; rfl
 | bl b=>cases r; rfl
 | int i=>obtain ⟨t,rfl⟩:=r; rfl
 | str z=>obtain ⟨t,rfl⟩:=r; rfl
 | _=>exact absurd (show false = true from f) Bool.false_ne_true
theorem any_eqU {x:V}:∀ {xs:List V} {us:List Value},Vals xs us -> xs.all flatV = true -> us.any (eqU x) = xs.any fun y=>eqV y x
 | _,_,.nil,_=>rfl
 | y :: xs,u :: us,.cons r t,f=>by
  rw [List.all_cons,Bool.and_eq_true] at f
  rw [List.any_cons,List.any_cons,eqU_of r f.1,any_eqU t f.2]
theorem mem_eqAt {A:Around} {s:Shared} {x:V} {v:Value} (rx:RelV x v) (fx:flatV x = true):∀ {xs:List V} {us:List Value},Vals xs us -> xs.all flatV = true -> ∀ u ∈ us,SeqAt.EqAt A s u v (eqU x u)
 | _,_,.nil,_=>fun u hu=>by cases hu
 | y :: xs,u :: us,.cons r t,f=>fun u' hu=>by
  rw [List.all_cons,Bool.and_eq_true] at f
  rcases List.mem_cons.mp hu with rfl | hu
  ·rw [eqU_of r f.1]; exact eqAt_V r rx f.1 fx
  ·exact mem_eqAt rx fx t f.2 u' hu
noncomputable def inV (x:V) (xs:List V):Bool:=xs.any fun y=>eqV y x
noncomputable def rIn (K:PySem.W.Frag) (neg:Bool):R2:=fun x y H Q=>∃ p xs,y = .ref p /\ (SqL K H p xs \/ SqT K H p xs) /\ flatV x = true /\ xs.all flatV = true /\ Q (.bl (if neg then !inV x xs else inV x xs)) H
theorem op_in_seq:OpR X (compareOp .In) (rIn X.K false):=by
 intro pins s σ H x y v u Q I rx ry h
 obtain ⟨p,xs,rfl,hq,fx,fs,q⟩:=h
 cases ry
 rcases hq with hq | hq
 ·obtain ⟨its,r,pl,hz⟩:=I.list hq
  refine SeqAt.in_listAt (eqU x) pl.isList (fun w hw=>mem_eqAt rx fx r fs w (by simpa using hw)) ⟨.bl _,H,I,rfl,?_⟩
  rw [show its.toArray.any (eqU x) = its.any (eqU x) by simp,any_eqU r fs]
  exact q
 ·obtain ⟨its,r,pl,hz⟩:=I.tuple hq
  refine SeqAt.in_tupleAt (eqU x) pl (fun w hw=>mem_eqAt rx fx r fs w (by simpa using hw)) ⟨.bl _,H,I,rfl,?_⟩
  rw [show its.toArray.any (eqU x) = its.any (eqU x) by simp,any_eqU r fs]
  exact q
theorem call_len_seq:CallR X (.builtin "len") (fun xs H Q=>∃ p ys,xs = [.ref p] /\ (SqL X.K H p ys \/ SqT X.K H p ys) /\ Q (.int ys.length) H):=by
 intro pins s σ H xs us Q I r h
 obtain ⟨p,ys,rfl,hq,q⟩:=h
 obtain ⟨u,rfl,rx⟩:=vals1 r
 cases rx
 have hn:=line63
 rcases hq with hq | hq
 ·obtain ⟨its,r',pl,hz⟩:=I.list hq
  have hlen:=r'.length
  exact Calls.call_len_list pl.isList (by simp only [List.size_toArray] <;> omega) ⟨.int ys.length,H,I.tok _,⟨s.toks + 1,by rw [List.size_toArray,hlen]⟩,q⟩
 ·obtain ⟨its,r',pl,hz⟩:=I.tuple hq
  have hlen:=r'.length
  exact len_tuple pl (by simp only [List.size_toArray] <;> omega) ⟨.int ys.length,H,I.tok _,⟨s.toks + 1,by rw [List.size_toArray,hlen]⟩,q⟩
theorem call_len_str:CallR X (.builtin "len") (fun xs H Q=>∃ z,xs = [.str z] /\ z.length <= sizeLine /\ Q (.int z.length) H):=by
 intro pins s σ H xs us Q I r h
 obtain ⟨z,rfl,hz,q⟩:=h
 obtain ⟨u,rfl,t,rfl⟩:=vals1 r
 have hn:=line63
 exact len_str (by omega) ⟨.int z.length,H,I.tok _,⟨_,rfl⟩,q⟩
theorem call_tuple_of:CallR X (.type "tuple") (fun xs H Q=>∃ p ys,xs = [.ref p] /\ ((SqL X.K H p ys /\ ∀ l,H l = none -> Q (.ref l) (upd H l (.tup ys))) \/ (SqT X.K H p ys /\ Q (.ref p) H))):=by
 intro pins s σ H xs us Q I r h
 obtain ⟨p,ys,rfl,h⟩:=h
 obtain ⟨u,rfl,rx⟩:=vals1 r
 cases rx
 rcases h with ⟨hq,q⟩ | ⟨hq,q⟩
 ·obtain ⟨its,r',pl,hz⟩:=I.list hq
  have hlen:=r'.length
  refine call_tuple_list pl.isList (fun h' kp=>?_) (by simp only [List.size_toArray] <;> omega)
  have I1:Inv X pins σ H { s with heap:=h' }:=I.kept (t':=s.toks) kp
  have I2:Inv X pins σ (upd H h'.objs.size (.tup ys)) { s with heap:=h'.push { cls:=.type "tuple",data:=.seq its.toArray } } :=
   I1.laid (t':=s.toks) (fun b o e=>Heap.get?_push_of_some _ e) (Nat.le_refl _) (show ObjOk X.prog X.w _ _ _ (.tup ys) from ⟨hz,its,r',IsTupD.new _ _⟩)
  exact ⟨.ref h'.objs.size,_,I2,rfl,q _ (I1.hok.fresh (Nat.le_refl _))⟩
 ·obtain ⟨its,r',pl,hz⟩:=I.tuple hq
  exact call_tuple_same pl ⟨.ref p,H,I,rfl,q⟩
noncomputable def tyV (K:PySem.W.Frag) (T:String) (x:V) (H:Hp):Prop:=match x with
 | .str _=>T = "str"
 | .int _=>T = "int"
 | .ref p=>(T = "list" /\ ∃ xs,SqL K H p xs) \/ (T = "tuple" /\ ∃ o,K.lookup p = some o /\ o.cls = .type "tuple" /\ o.dict = none) \/
   (T = "dict" /\ ((∃ kvs,H p = some (.dK kvs)) \/ ∃ kvs,H p = some (.dT kvs))) \/ (T = "set" /\ ∃ S n,H p = some (.set S n))
 | _=>False
theorem tyV_is {pins:List (Addr × Obj)} {σ:St} {H:Hp} {s:Shared} {T:String} {x:V} {v:Value} (I:Inv X pins σ H s) (r:RelV x v) (ty:tyV X.K T x H) :
  s.TypeIs v T /\ ∀ a,v = .ref a -> ∃ ob,s.heap.get? a = some ob /\ ob.dict = none:=by
 cases x with
 | str z =>
  obtain ⟨t,rfl⟩:=r
  cases (show T = "str" from ty)
  exact ⟨typeIs_str s z t,fun _ e=>nomatch e⟩
 | int i =>
  obtain ⟨t,rfl⟩:=r
  cases (show T = "int" from ty)
  exact ⟨typeIs_int s i t,fun _ e=>nomatch e⟩
 | ref p =>
  cases r
  rcases ty with ⟨rfl,xs,hq⟩ | ⟨rfl,o,hk,hc,hd⟩ | ⟨rfl,hk⟩ | ⟨rfl,S,n,hk⟩
  ·obtain ⟨its,_,pl,_⟩:=I.list hq
   refine ⟨pl.isList.typeIs,fun a e=>?_⟩
   cases e
   obtain ⟨o,n,e,c,hd,_⟩:=pl
   exact ⟨o,e,hd⟩
  ·refine ⟨⟨o,I.kIn p o hk,hc⟩,fun a e=>?_⟩
   cases e
   exact ⟨o,I.kIn _ o hk,hd⟩
  ·have z:∃ o,s.heap.get? p = some o /\ o.ExactDict:=by
    rcases hk with ⟨kvs,hk⟩ | ⟨kvs,hk⟩
    ·obtain ⟨_,_,_,_,o,_,_,e,ex,_⟩:=I.hok p _ hk
     exact ⟨o,e,ex⟩
    ·obtain ⟨_,_,_,_,o,_,_,e,ex,_⟩:=I.hok p _ hk
     exact ⟨o,e,ex⟩
   obtain ⟨o,e,ex⟩:=z
   refine ⟨⟨o,e,ex.1⟩,fun a e2=>?_⟩
   cases e2
   exact ⟨o,e,ex.2.1⟩
  ·obtain ⟨o,_,_,_,e,ex,_⟩:=I.hok p _ hk
   refine ⟨⟨o,e,ex.1⟩,fun a e2=>?_⟩
   cases e2
   exact ⟨o,e,ex.2.1⟩
 | _=>exact False.elim ty
noncomputable def tBM (K:PySem.W.Frag) (T:String) (r:V -> List V -> Hp -> VK -> Prop) (to:TE) (t:TA):TE:=fun σ H Q=>to σ H fun x H1=>tyV K T x H1 /\ t σ H1 fun xs H2=>r x xs H2 Q
variable {o e:Expr} {es:List Expr} {to:TE} {t:TA} {name:Str} {apos cpos:Pos} {T id:String} {r:V -> List V -> Hp -> VK -> Prop}
theorem pe_bm (pa:PlainAttrs T) (slot:Slot T name id) (hty:typeOf (.builtin id) = pure (.type "method_descriptor")) (hm:MtR X id r) (ho:PE X o to) (ha:PA X (e :: es) t)
  (hbase:attributeBase o name X.env (eval o X.env) = eval o X.env:=by rfl)
  (hfew:((backTo cpos (starEach (e :: es) X.env)).all (fun x=>!x.1) && (backToKw cpos (keywordEach [] X.env)).all (fun x=>x.1.isSome)
    && decide ((e :: es).length + ([]:List Keyword).length + (if ([]:List Keyword).isEmpty then 0 else 1) < 30)) = true:=by rfl)
  (hline:(apos.endLine == cpos.line) = true:=by rfl) (hs:starEach (e :: es) X.env = (false,eval e X.env) :: starEach es X.env:=by rfl) (hplain:(backTo cpos (starEach es X.env)).any (·.1) = false:=by rfl) :
  PE X (.Call (.Attribute o name apos) (e :: es) [] cpos) (tBM X.K T r to t):=by
 intro pins s σ H Q I h
 refine wpAny_Call_method_late hbase hfew hline rfl (thn (ho pins s σ H _ I h) fun v s1 ⟨x,H1,I1,r1,ty,q1⟩=>?_)
 obtain ⟨h1,h2⟩:=tyV_is I1 r1 ty
 refine ⟨T,id,pa,slot,hty,h1,h2,?_⟩
 have hA:=ha cpos pins s1 σ H1 _ I1 q1
 rw [hs] at hA ⊢
 refine Calls.callWith_builtin (by show (false || (backTo cpos (starEach es X.env)).any (·.1)) = false; rw [hplain] <;> rfl) (Calls.evalArgs_plain ?_)
 exact thn hA fun us s2 ⟨vs,H2,I2,r2,q2⟩=>hm pins s2 σ H2 x vs v us Q I2 r1 r2 q2
end
end L2
namespace L2
open PySem PySem.Spec PyProof.Rows
noncomputable def MtM (X:Cx) (id:String) (r:V -> List V -> Hp -> VK -> Prop):Prop :=
 ∀ (pins:List (Addr × Obj)) (s:Shared) (σ:St) (H:Hp) (x:V) (xs:List V) (v:Value) (us:List Value) (Q:VK),Inv X pins σ H s -> RelV x v -> Vals xs us -> r x xs H Q ->
  wpAny (model X.prog X.w) X.A (call (.builtin id) (v :: us)) (EP X pins σ Q) X.xe s
theorem Vals.one:∀ {x:V} {us:List Value},Vals [x] us -> ∃ u,us = [u] /\ RelV x u
 | _,_,.cons r .nil=>⟨_,rfl,r⟩
theorem Vals.reverse {xs:List V} {us:List Value} (h:Vals xs us):Vals xs.reverse us.reverse:=by
 induction h with
 | nil=>exact .nil
 | cons r t ih=>rw [List.reverse_cons,List.reverse_cons]; exact Vals.append ih (.cons r .nil)
theorem Vals.rep {xs:List V} {us:List Value} (h:Vals xs us):∀ k:Nat,Vals (List.replicate k xs).flatten (List.replicate k us).flatten
 | 0=>.nil
 | k + 1=>by
  rw [List.replicate_succ,List.replicate_succ,List.flatten_cons,List.flatten_cons]
  exact Vals.append h (Vals.rep h k)
theorem foldl_rep (its:List Value):∀ (k:Nat) (acc:List Value),
  List.foldl (fun x1 x2=>x1 ++ x2) acc.toArray (List.replicate k its.toArray) = (acc ++ (List.replicate k its).flatten).toArray
 | 0,acc=>by simp
 | k + 1,acc=>by
  have e:acc.toArray ++ its.toArray = (acc ++ its).toArray:=by simp
  have e2:(acc ++ its) ++ (List.replicate k its).flatten = acc ++ (List.replicate (k + 1) its).flatten:=by
   rw [List.replicate_succ,List.flatten_cons,List.append_assoc]
  rw [<- e2,<- foldl_rep its k (acc ++ its),<- e,List.replicate_succ,List.foldl_cons]
section
variable {X:Cx} {pins:List (Addr × Obj)} {σ:St} {H:Hp} {s:Shared} {l b:Addr} {xs ys zs:List V}
theorem Inv.lset {its its':List Value} {n:Nat} {f:Array Value -> Array Value} {t':Nat} (I:Inv X pins σ H s) (hH:H l = some (.lst xs))
  (e:s.heap.get? l = some { cls:=.type "list",data:=.seq its.toArray n }) (hf:f its.toArray = its'.toArray) (hv:Vals ys its') (hz:ys.length <= sizeLine) :
  Inv X pins σ (upd H l (.lst ys)) { s with heap:=s.heap.update l (Obj.mapSeq f),toks:=t' }:=by
 have q:=PySem.IsL.update e f
 rw [hf] at q
 refine I.write (x:=l) (e:=l) (by rw [hH]; exact trivial) (.inl rfl) (fun b' u hb hu=>(Heap.get?_update_other s.heap (Obj.mapSeq f) (Ne.symm hb)).trans hu) ⟨_,q⟩ ?_
 exact ⟨hz,its',_,hv,q⟩
theorem Inv.lnew {its:List Value} {t':Nat} (I:Inv X pins σ H s) (hv:Vals ys its) (hz:ys.length <= sizeLine) :
  Inv X pins σ (upd H s.heap.objs.size (.lst ys)) { s with heap:=s.heap.push { cls:=.type "list",data:=.seq its.toArray },toks:=t' } :=
 I.laid (fun _ _ q=>Heap.get?_push_of_some _ q) (Nat.le_refl _) ⟨hz,its,0,hv,Heap.get?_push_size _ rfl⟩
theorem Inv.fresh (I:Inv X pins σ H s):H s.heap.objs.size = none:=I.hok.fresh (Nat.le_refl _)
theorem Inv.lstM (I:Inv X pins σ H s) (hH:H l = some (.lst xs)):xs.length <= sizeLine /\ ∃ (its:List Value) (n:Nat),Vals xs its /\ xs.length = its.length /\ s.heap.get? l = some { cls:=.type "list",data:=.seq its.toArray n }:=by
 obtain ⟨z,its,n,r,e⟩:=I.hok l _ hH
 exact ⟨z,its,n,r,r.length,e⟩
theorem notLongL {n:Nat} (h:n <= sizeLine):Builtin.List.listTooLong n = false:=by
 unfold Builtin.List.listTooLong
 exact decide_eq_false (by omega)
end
section
variable {X:Cx}
noncomputable def rAppend:V -> List V -> Hp -> VK -> Prop:=fun x vs H Q=>∃ l xs y,x = .ref l /\ vs = [y] /\ H l = some (.lst xs) /\ xs.length < sizeLine /\ Q .non (upd H l (.lst (xs ++ [y])))
theorem mt_append:MtM X "list.append" rAppend:=by
 intro pins s σ H x vs v us Q I rx rv h
 obtain ⟨l,xs,y,rfl,rfl,hH,hz,q⟩:=h
 cases rx
 obtain ⟨u,rfl,ru⟩:=rv.one
 obtain ⟨z,its,n,r,hl,e⟩:=I.lstM hH
 refine call_meets F.slot_list_append ⟨_,e,rfl⟩ F.entry_list_append (F.args_list_append_2 _ _) (PySem.list_append l its.toArray n u (by rw [List.size_toArray]; omega)) ⟨e,?_⟩
 refine ⟨.non,_,I.lset (its':=its ++ [u]) hH e (by simp) (r.append (.cons ru .nil)) ?_,rfl,q⟩
 rw [List.length_append,List.length_singleton]
 omega
noncomputable def rCat:R2:=fun x y H Q=>∃ l b xs zs,x = .ref l /\ y = .ref b /\ H l = some (.lst xs) /\ H b = some (.lst zs) /\ xs.length + zs.length <= sizeLine /\ ∀ p,H p = none -> Q (.ref p) (upd H p (.lst (xs ++ zs)))
theorem op_cat:OpR X (binaryOp .Add) rCat:=by
 intro pins s σ H x y v u Q I rx ry h
 obtain ⟨l,b,xs,zs,rfl,rfl,hH,hB,hz,q⟩:=h
 cases rx
 cases ry
 obtain ⟨z,its,n,r,hl,e⟩:=I.lstM hH
 obtain ⟨z2,its2,n2,r2,hl2,e2⟩:=I.lstM hB
 refine PySem.P.add_list e e2 ?_ (by rw [List.size_toArray,List.size_toArray]; omega)
 have ea:its.toArray ++ its2.toArray = (its ++ its2).toArray:=by simp
 rw [ea]
 exact ⟨.ref _,_,I.lnew (t':=s.toks) (r.append r2) (by rw [List.length_append]; omega),rfl,q _ I.fresh⟩
noncomputable def rRep:R2:=fun x y H Q=>∃ l k xs,x = .ref l /\ y = .int k /\ H l = some (.lst xs) /\ -(2 ^ 63) <= k /\ k < 2 ^ 63 /\ xs.length * k.toNat <= sizeLine /\
 ∀ p,H p = none -> Q (.ref p) (upd H p (.lst (List.replicate k.toNat xs).flatten))
theorem len_rep {α:Type} (xs:List α) (k:Nat):(List.replicate k xs).flatten.length = k * xs.length:=by
 induction k with
 | zero=>simp
 | succ k ih=>rw [List.replicate_succ,List.flatten_cons,List.length_append,ih,Nat.succ_mul,Nat.add_comm]
theorem op_rep:OpR X (binaryOp .Mult) rRep:=by
 intro pins s σ H x y v u Q I rx ry h
 obtain ⟨l,k,xs,rfl,rfl,hH,h1,h2,hz,q⟩:=h
 cases rx
 obtain ⟨t,rfl⟩:=ry
 obtain ⟨z,its,n,r,hl,e⟩:=I.lstM hH
 have hlen:its.toArray.size * k.toNat <= sizeLine:=by rw [List.size_toArray,<- hl]; exact hz
 have hcap:¬ its.toArray.size * k.toNat > (2 ^ 63 - 1) / 8:=by
  have:(sizeLine:Nat) <= (2 ^ 63 - 1) / 8:=by decide
  omega
 have hfit:¬ (!Builtin.List.listFitsIndex k) = true:=by
  rw [fitsIndex_both h1 h2]
  exact Bool.false_ne_true
 have hlong:¬ Builtin.List.listTooLong (its.toArray.size * k.toNat) = true:=by
  rw [notLongL hlen]
  exact Bool.false_ne_true
 have hnew:List.foldl (fun x1 x2=>x1 ++ x2) #[] (List.replicate (if its.toArray.isEmpty = true then 0 else k.toNat) its.toArray) = (List.replicate k.toNat its).flatten.toArray:=by
  have f0:∀ m:Nat,List.foldl (fun x1 x2=>x1 ++ x2) #[] (List.replicate m its.toArray) = (List.replicate m its).flatten.toArray:=fun m=>by
   have:=foldl_rep its m []
   rw [List.nil_append] at this
   exact this
  rw [f0]
  cases its with
  | nil=>simp
  | cons a r'=>rw [if_neg (by simp)]
 refine wpAny_binaryOp_repeat_ref (T:="list") (U:="int") (by decide) ⟨_,e,rfl⟩ (fun s'=>typeIs_int s' k t) noFill_list_mul F.fills_int_mul F.slot_int_rmul repeat_list F.slot_int_index.lookup
  (call_meets F.slot_int_rmul (typeIs_int s k t) F.entry_int_rmul (F.args_int_rmul_2 _ _) (int___rmul___int_list k t l its.toArray n)
    ⟨e,rfl,⟨_,e,rfl⟩,call_meets F.slot_list_mul ⟨_,e,rfl⟩ F.entry_list_mul (F.args_list_mul_2 _ _) (AutoListH.list___mul___list_int_3 l its.toArray n k t hfit hcap hlong) ⟨e,?_⟩⟩)
 rw [hnew]
 exact ⟨.ref _,_,I.lnew (t':=s.toks) (r.rep k.toNat) (by rw [len_rep,Nat.mul_comm]; exact hz),rfl,q _ I.fresh⟩
end
section
variable {prog:Program} {w:World} {A:Around} {E:Value -> Shared -> Prop} {s:Shared}
set_option maxRecDepth 100000 in
end
section
variable {X:Cx}
end
end L2
namespace L2
open PySem PySem.Spec PyProof.Rows
section
variable {κ:Type} [DecidableEq κ]
end
theorem kV_is {P:Program} {w:World} {k:Key} {u:Value} (r:RelV (kV k) u):(mixKind P w).is k u = true:=by
 cases k with
 | inl i=>obtain ⟨t,e⟩:=(show ∃ t,u = Value.int i t from r); subst e; exact mixKind_int P w i t
 | inr x=>obtain ⟨t,e⟩:=(show ∃ t,u = Value.str x t from r); subst e; exact mixKind_str P w x t
theorem items_are {P:Program} {w:World}:∀ {ks:List Key} {us:List Value},Vals (ks.map kV) us -> ItemsAre (mixKind P w) ks us
 | [],_,r=>by rw [List.map_nil] at r; cases r; exact .nil
 | k :: ks,_,r=>by
  rw [List.map_cons] at r
  cases r with
  | cons h t=>exact .cons (kV_is h) (items_are t)
noncomputable abbrev KT (H:Hp):List (List Key × V) -> List (List Key × Addr × Value) -> Prop:=Paired fun p q=>p.1 = q.1 /\ H q.2.1 = some (.tup (p.1.map kV)) /\ RelV p.2 q.2.2
section
variable {P:Program} {w:World} {H:Hp} {h:Heap} {a:Addr}
theorem rd_of {u:HO} (ok:HOk P w H h) (e:Rd H a u):ObjOk P w H h a u:=e.ok ok
theorem dk_rd {kvs:List (Key × V)} (ok:HOk P w H h) (e:Rd H a (.dK kvs)):kvs.length <= sizeLine /\ (a == sysModules) = false /\ ∃ vs,KV kvs vs /\ h.DictOf (mixKind P w) a vs :=
 show ObjOk P w H h a (.dK kvs) from rd_of ok e
theorem key_of {ks:List Key} (ok:HOk P w H h) (e:H a = some (.tup (ks.map kV))):(tupleKind (mixKind P w)).is h ks a:=by
 obtain ⟨_,its,r,o,h1,h2,n,h3,_⟩:=(show ObjOk P w H h a (.tup (ks.map kV)) from ok a _ e)
 exact ⟨o,its.toArray,n,h1,h2,h3,by simpa using items_are r⟩
theorem dt_rd {kvs:List (List Key × V)} (ok:HOk P w H h) (e:Rd H a (.dT kvs)):kvs.length <= sizeLine /\ (a == sysModules) = false /\
  ∃ xs,KT H kvs xs /\ h.DictOfH (tupleKind (mixKind P w)) a xs:=by
 obtain ⟨z,y,xs,r,o,es,ep,h1,h2,h3,h4,h5⟩:=(show ObjOk P w H h a (.dT kvs) from rd_of ok e)
 refine ⟨z,y,xs,r,o,es,ep,h1,h2,h3,h4,fun x hx=>?_,h5⟩
 have all:∀ {l:List (List Key × V)} {m:List (List Key × Addr × Value)},KT H l m -> ∀ x ∈ m,(tupleKind (mixKind P w)).is h x.1 x.2.1:=by
  intro l m q
  induction q with
  | nil=>intro x hx; exact nomatch hx
  | @cons p q ps qs hq t ih =>
   intro x hx
   rcases List.mem_cons.mp hx with e | hx
   ·subst e
    exact key_of ok (by rw [<- hq.1]; exact hq.2.1)
   ·exact ih x hx
 exact all r x hx
end
section
variable {X:Cx} {pins:List (Addr × Obj)} {σ:St} {H:Hp} {s:Shared} {a:Addr} {y v:V} {u r:Value} {o:Option V} {A:Around} {E:Value -> Shared -> Prop}
theorem Inv.big (I:Inv X pins σ H s):sysModules < s.heap.objs.size:=by
 have h:mainGlobals < s.heap.objs.size:=(I.mod.glob.keeps I.bk).lt
 exact Nat.lt_trans (by decide) h
end
section
variable {X:Cx} {pins:List (Addr × Obj)} {σ:St} {H:Hp} {s:Shared} {a:Addr} {kvs:List (Key × V)} {k:Key} {u:Value} {A:Around} {E:Value -> Shared -> Prop}
end
section
variable {X:Cx} {o i e value:Expr} {pos pos' tpos:Pos} {td ty tv:TE}
end
theorem dt_empty {P:Program} {w:World} {H:Hp} (h:Heap) (hb:sysModules < h.objs.size):ObjOk P w H (h.push { cls:=.type "dict",data:=.dict #[] }) h.objs.size (.dT []) :=
 ⟨Nat.zero_le _,beq_eq_false_iff_ne.mpr (Ne.symm (Nat.ne_of_lt hb)),[],.nil,_,#[],0,Heap.get?_push_size _ rfl,⟨rfl,rfl,rfl⟩,rfl,rfl,List.nodup_nil⟩
noncomputable def tDNewT:TE:=fun _ H Q=>∀ p,H p = none -> Q (.ref p) (upd H p (.dT []))
section
variable {X:Cx} {pos:Pos}
theorem pe_dnewT:PE X (.Dict [] [] pos) tDNewT:=fun pins s σ H Q I h =>
 wpAny_Dict_empty ⟨.ref s.heap.objs.size,_,I.laid (a:=s.heap.objs.size) (o:=.dT []) (t':=s.toks) (fun _ _ q=>Heap.get?_push_of_some _ q) (Nat.le_refl _) (dt_empty s.heap I.big),rfl,h _ (I.hok.fresh (Nat.le_refl _))⟩
end
structure M1 (X:Cx) (o:Expr) (m:Str) (apos:Pos) (e:Expr) (cpos:Pos):Prop where
 base:attributeBase o m X.env (eval o X.env) = eval o X.env
 few:((backTo cpos (starEach [e] X.env)).all (fun x=>!x.1) && (backToKw cpos (keywordEach [] X.env)).all (fun x=>x.1.isSome)
   && decide (([e]:List Expr).length + ([]:List Keyword).length + (if ([]:List Keyword).isEmpty then 0 else 1) < 30)) = true
 line:(apos.endLine == cpos.line) = true
 trees:backTo cpos (starEach [e] X.env) = [(false,eval e X.env)]
structure M2 (X:Cx) (o:Expr) (m:Str) (apos:Pos) (e f:Expr) (cpos:Pos):Prop where
 base:attributeBase o m X.env (eval o X.env) = eval o X.env
 few:((backTo cpos (starEach [e,f] X.env)).all (fun x=>!x.1) && (backToKw cpos (keywordEach [] X.env)).all (fun x=>x.1.isSome)
   && decide (([e,f]:List Expr).length + ([]:List Keyword).length + (if ([]:List Keyword).isEmpty then 0 else 1) < 30)) = true
 line:(apos.endLine == cpos.line) = true
 trees:backTo cpos (starEach [e,f] X.env) = [(false,eval e X.env),(false,eval f X.env)]
noncomputable def IsD (H:Hp) (a:Addr):Prop:=(∃ kvs,Rd H a (.dK kvs)) \/ ∃ kvs,Rd H a (.dT kvs)
theorem isD_at {X:Cx} {pins:List (Addr × Obj)} {σ:St} {H:Hp} {s:Shared} {a:Addr} (I:Inv X pins σ H s) (d:IsD H a) :
  s.TypeIs (.ref a) "dict" /\ (∀ b,Value.ref a = .ref b -> ∃ ob,s.heap.get? b = some ob /\ ob.dict = none) /\ (a == sysModules) = false:=by
 rcases d with ⟨kvs,e⟩ | ⟨kvs,e⟩
 ·obtain ⟨_,hd,vs,_,dd⟩:=dk_rd I.hok e
  refine ⟨dd.typeIs,fun b q=>?_,hd⟩
  cases q
  obtain ⟨ob,_,_,h1,h2,_⟩:=dd
  exact ⟨ob,h1,h2.2.1⟩
 ·obtain ⟨_,hd,xs,_,dd⟩:=dt_rd I.hok e
  refine ⟨dd.typeIs,fun b q=>?_,hd⟩
  cases q
  obtain ⟨ob,_,_,h1,h2,_⟩:=dd
  exact ⟨ob,h1,h2.2.1⟩
section
variable {X:Cx} {pins:List (Addr × Obj)} {σ:St} {H:Hp} {s:Shared} {a:Addr} {y d:V} {u r:Value} {o:Option V} {A:Around} {E:Value -> Shared -> Prop}
end
section
variable {X:Cx} {o e f:Expr} {apos cpos:Pos} {td ty tx:TE}
end
section
variable {X:Cx} {pins:List (Addr × Obj)} {σ:St} {H:Hp} {s:Shared} {a:Addr} {kvs:List (Key × V)} {A:Around} {E:Value -> Shared -> Prop}
end
section
variable {X:Cx} {pins:List (Addr × Obj)} {σ:St} {H:Hp} {s:Shared} {a:Addr} {y:V} {u:Value} {A:Around} {E:Value -> Shared -> Prop}
end
end L2
namespace Att
open PySem PySem.W PySem.Calls PyProof.Rows
theorem ints_of_wellAll {P:Params} {h:Heap}:∀ (ns:List Int) (vs:List Value),WellAll P h vs (ns.map WData.int) -> IntsAre vs ns:=by
 intro ns
 induction ns with
 | nil =>
  intro vs w
  rw [List.map_nil] at w
  cases w
  exact .nil
 | cons n ns ih =>
  intro vs w
  rw [List.map_cons] at w
  cases w with
  | cons a b =>
   cases a
   exact .cons _ _ (ih _ b)
theorem script_of {l:OpenLaw} {n:Nat} (hn:l.most = some n) {P:Params} {h:Heap} {args:List WData} {vals:List Value}
  (hpre:l.row.toRowW.claim.pre args = true) (hwl:WellAll P h vals args) :
  ∃ a vs ns,vals = [Value.ref a] /\ args = [WData.list (ns.map WData.int)] /\ h.get? a = some { cls:=.type "list",data:=.seq vs.toArray } /\ IntsAre vs ns /\ ns.length <= n:=by
 have hsh:WShape.hasAll [] args [.list .int] = true:=(pre_splitW hpre).1
 have hc:l.pre.holds [] { args:=args } = true:=(pre_splitW hpre).2
 obtain ⟨d,r,rfl,h1,h2⟩:=hasAllW_cons hsh
 obtain rfl:=hasAllW_nil h2
 obtain ⟨xs,rfl,h3⟩:=hasW_list h1
 obtain ⟨ns,rfl⟩:=items_int h3
 have hlen:ns.length <= n:=by
  unfold OpenLaw.pre at hc
  have h4:(WTm.not (.lt (.lit (.int (n:Int))) (.len (.arg 0)))).holds [] { args:=[.list (ns.map .int)] } = true:=by
   have h4:=(holds_andW hc).1
   rw [hn] at h4
   exact h4
  have h5:=condW_of h4 (w_not (w_lt w_lit (w_len_list (w_arg rfl))))
  rw [List.length_map] at h5
  refine Nat.le_of_not_lt fun q=>?_
  have q':(n:Int) < ((ns.length:Nat):Int):=by omega
  first
   | (rw [decide_eq_true q'] at h5; exact absurd h5 (by decide))
   | (simp at h5; omega)
 cases hwl with
 | cons w1 w2 =>
  cases w2
  cases w1 with
  | list ho hall=>exact ⟨_,_,ns,rfl,rfl,ho,ints_of_wellAll ns _ hall,hlen⟩
theorem post_true (l:OpenLaw) (args:List WData):l.row.toRowW.claim.post args (.bool true) args = true :=
 postW_of (r:=l.row.toRowW) (X:=(true == true))
  (show WShape.has [] (.bool true) .bool = true by first | rfl | decide | simp [WShape.has,WShape.arms,WShape.armsAll])
  (show (WTm.eq .res (.lit (.bool true))).value [] { args:=args,res:=some (.bool true),after:=args } = some (.bool (true == true)) from w_eq_bool (w_res rfl) w_lit) rfl
theorem attach_call {l:OpenLaw} {n:Nat} {q:Program} {loose:List Str} {XP:(Str -> Option Value) -> Heap -> Prop} {YP:World -> Heap -> Prop} {d:DefRec}
  (hn:l.most = some n) (hdf:d.params.defaults = [])
  (call:∀ (w:World) (s₀ s₁:Shared) (mg mb:Str -> Option Value) (fa:Addr) (o:Obj) (pm cd doc:Value) (a:Addr) (vs:List Value) (ns:List Int),
    Ground q loose [] XP w s₀ mg mb s₁.heap -> YP w s₁.heap ->
    s₁.heap.get? fa = some o -> o.data = .func (docDef d.name d.params d.body d.scope pm cd doc) -> s₁.heap.CodeRec cd d.name -> mg d.name = some (.ref fa) ->
    s₁.heap.get? a = some { cls:=.type "list",data:=.seq vs.toArray } -> IntsAre vs ns -> ns.length <= n -> s₁.gens = #[] ->
    codeAny (model l.prog w) callerA (.call (.ref fa) ⟨[.ref a],[]⟩) (fun r s'=>r = .ok (.ret (.bool true)) /\ OldK s₁.heap s'.heap /\ s'.os = s₁.os /\ AllBare s'.gens) s₁) :
  WalkO q loose XP YP l.row.toRowW d [] (fun f vs=>PySem.call f vs):=by
 intro w s₀ s₁ mg mb G Y fa o pm cd doc dV kV ho hd hcd hD hmg hg args vals as hpre hlay hrd hwl hlo
 obtain rfl:dV = .none:=Dflts.none hD hdf
 obtain rfl:kV = .none:=Dflts.noKw hD
 obtain ⟨a,vs,ns,rfl,rfl,hobj,hints,hlen⟩:=script_of hn hpre hwl
 refine enter_call (codeAny_mono (call w s₀ s₁ mg mb fa o pm cd doc a vs ns G Y ho (fd_plain hd) hcd hmg hobj hints hlen hg) fun r s' hq=>?_)
 obtain ⟨rfl,h2,h3,h4⟩:=hq
 exact ⟨.inl ⟨.bool true,.bool true,[],rfl,fun _=>rfl,.bool true,post_true l _,fun _=>⟨List.Pairwise.nil,fun _ hm=>(nomatch hm)⟩⟩,h2,h3,h4⟩
section
variable {prog:Program} {w:World} {A:Around} {E:Value -> Shared -> Prop} {s:Shared} {K:Frag}
end
end Att
namespace L2
open PySem PySem.Spec PyProof.Rows
theorem vals_ints:∀ {vs:List Value} {ns:List Int},IntsAre vs ns -> Vals (ns.map V.int) vs
 | _,_,.nil=>.nil
 | _,_,.cons n t h=>.cons ⟨t,rfl⟩ (vals_ints h)
noncomputable def Only (H:Hp):Prop:=∀ b,H b = none \/ ∃ o xs,H b = some (.frz o (.lst xs))
theorem law_call {P:Program} {w:World} {K:PySem.W.Frag} {mg mb:Str -> Option Value} {CX:CXT} {k:Nat} {fa a:Addr} {fd:FuncData} {x:Str} {sp:Sp} {s₁:Shared} {vs:List Value} {ns:List Int}
  (KX:K.In s₁.heap) (hns:s₁.heap.Ns mainGlobals mg) (hb:s₁.heap.Ns builtinsNs mb) (hbb:∀ x:Str,x ≠ "__name__" -> mb x = bootBuiltins x) (hlim:s₁.heap.NoLimit) (hg:s₁.gens = #[])
  (ha:s₁.heap.get? a = some { cls:=.type "list",data:=.seq vs.toArray }) (hi:IntsAre vs ns) (hl:ns.length <= sizeLine) (hr:Room k callerA)
  (F:∀ base:Heap,K.In base -> base.Ns mainGlobals mg -> FnOk P w K mg base CX k fa fd [x] sp) (hbind:∀ (s:Shared) (u:Value),BindsTo s fd ⟨[u],[]⟩ [(x,u)])
  (hsp:∀ H:Hp,Only H -> SqL K H a (ns.map V.int) -> sp [.ref a] H (fun v _=>v = .bl true) fun _ _ _=>False)
  (hCX:∀ H e s',CX [] H s₁ (fun _ _ _=>False) e s' -> False) :
  codeAny (model P w) callerA (.call (.ref fa) ⟨[.ref a],[]⟩) (fun r s'=>r = .ok (.ret (.bool true)) /\ OldK s₁.heap s'.heap /\ s'.os = s₁.os /\ AllBare s'.gens) s₁:=by
 have rv:=vals_ints hi
 have lenV:=hi.length
 have core:∀ H:Hp,Only H -> SqL K H a (ns.map V.int) -> HOk P w H s₁.heap -> (∀ b,H b ≠ none -> b = a) -> (H a ≠ none -> K.lookup a = none) ->
   codeAny (model P w) callerA (.call (.ref fa) ⟨[.ref a],[]⟩) (fun r s'=>r = .ok (.ret (.bool true)) /\ OldK s₁.heap s'.heap /\ s'.os = s₁.os /\ AllBare s'.gens) s₁:=by
  intro H hO hS hok hA hK
  have base_of:∀ {b:Addr} {o:Obj},s₁.heap.get? b = some o -> H b = none -> (hidT s₁.heap H).get? b = some o:=fun e n=>hidT_get e n
  have noA:∀ {b:Addr} {o:Obj} {es:Array DictEntry} {ep:Nat},s₁.heap.get? b = some o -> o.data = .dict es ep -> H b = none:=fun {b o es ep} e d=>by
   cases q:H b with
   | none=>rfl
   | some u =>
    have e':b = a:=hA b (by rw [q]; simp)
    subst e'
    rw [ha] at e; cases e
    have d':Data.seq vs.toArray _ = Data.dict es ep:=d
    cases d'
  have nsK:∀ {b:Addr} {m:Str -> Option Value},s₁.heap.Ns b m -> (hidT s₁.heap H).Ns b m:=fun {b m} ⟨o,es,ep,e,d,r⟩=>⟨o,es,ep,base_of e (noA e d),d,r⟩
  have hKb:K.In (hidT s₁.heap H):=fun b o e=>base_of (KX b o e) (by
    cases q:H b with
    | none=>rfl
    | some u =>
      have e':b = a:=hA b (by rw [q]; simp)
      subst e'
      rw [hK (by rw [q]; simp)] at e; cases e)
  have hM:Mod K mg (hidT s₁.heap H):=⟨hKb,nsK hns,⟨mb,nsK hb,hbb⟩,let ⟨mc,h1,h2⟩:=hlim; ⟨mc,nsK h1,h2⟩⟩
  have e0:Env0 P w K mg (hidT s₁.heap H) callerA [] s₁ H:=⟨rfl,hM,fun b o e=>of_hidT e,Nat.le_of_eq (hidT_size _ _),trivial,fun b hb=>absurd (show b ∈ ([]:List Addr) from hb) (by simp),hok,.of_eq hg⟩
  refine codeAny_mono ((F _ hKb (nsK hns)).run callerA [] s₁ H ⟨[.ref a],[]⟩ [.ref a] [.ref a] _ _ hr e0 (hbind s₁ (.ref a)) (.cons rfl .nil) (hsp H hO hS)) fun r s' h=>?_
  cases r with
  | error e=>exact (hCX H e s' h).elim
  | ok fl =>
   cases fl with
   | next=>exact False.elim h
   | brk=>exact False.elim h
   | cont=>exact False.elim h
   | ret u =>
    obtain ⟨v,H',os,bare,un,hok',r',q⟩:=h
    have q':v = .bl true:=q
    subst q'
    obtain rfl:u = Value.bool true:=r'
    refine ⟨rfl,OldK.of_keep fun b o e=>?_,os,bare⟩
    cases q:H b with
    | none=>exact un.keep b o e q (by intro z; exact absurd (show b ∈ ([]:List Addr) from z) (by simp)) (by simp)
    | some u =>
     rcases hO b with z | ⟨ob,xs,z⟩
     ·rw [q] at z; cases z
     ·have z2:=un.frzs b ob _ z
      obtain ⟨e1,_⟩:=hok b _ z
      obtain ⟨e2,_⟩:=hok' b _ z2
      rw [e] at e1; cases e1
      exact e2
 cases hk:K.lookup a with
 | some o =>
  have e:=KX a o hk
  rw [ha] at e
  cases e
  refine core (fun _=>none) (fun _=>.inl rfl) (.inr ⟨_,vs.toArray,_,hk,rfl,rfl,rfl,by rw [List.size_toArray,lenV]; exact hl,by simpa using rv⟩) (fun b u z=>by have z':(none:Option HO) = some u:=z; cases z') (fun b z=>absurd rfl z) fun z=>absurd rfl z
 | none =>
  refine core (fun b=>if b = a then some (.frz { cls:=.type "list",data:=.seq vs.toArray } (.lst (ns.map V.int))) else none) (fun b=>?_) (.inl (.inr ⟨{ cls:=.type "list",data:=.seq vs.toArray },if_pos rfl⟩)) (fun b u z=>?_) (fun b z=>?_) fun _=>hk
  ·by_cases hb:b = a
   ·exact .inr ⟨_,_,if_pos hb⟩
   ·exact .inl (if_neg hb)
  ·by_cases hb:b = a
   ·have z':=(if_pos hb).symm.trans z
    cases z'
    subst hb
    exact ⟨ha,by rw [List.length_map]; exact hl,vs,_,rv,ha⟩
   ·have z':=(if_neg hb).symm.trans z
    cases z'
  ·by_cases hb:b = a
   ·exact hb
   ·exact absurd (if_neg hb) z
end L2
namespace L2
open PySem PySem.Spec PyProof.Rows
theorem walk_of {l:PySem.W.OpenLaw} {n k:Nat} {q:Program} {loose:List Str} {XP:(Str -> Option Value) -> Heap -> Prop} {YP:World -> Heap -> Prop} {d:DefRec} {K:Params -> PySem.W.Frag} {CX:World -> CXT} {sp:World -> Sp} {x:Str}
  (hn:l.most = some n) (hn2:n <= sizeLine) (hdf:d.params.defaults = []) (hr:Room k callerA)
  (hY:∀ (w:World) (h:Heap),YP w h -> (K w.params).In h)
  (F:∀ (w:World) (mg:Str -> Option Value) (fa:Addr) (h:Heap),(K w.params).In h -> h.Ns mainGlobals mg -> mg d.name = some (.ref fa) ->
    ∃ fd:FuncData,(∀ (s:Shared) (u:Value),BindsTo s fd ⟨[u],[]⟩ [(x,u)]) /\
      ∀ base:Heap,(K w.params).In base -> base.Ns mainGlobals mg -> FnOk l.prog w (K w.params) mg base (CX w) k fa fd [x] (sp w))
  (hsp:∀ (w:World) (H:Hp) (a:Addr) (ns:List Int),ns.length <= n -> Only H -> SqL (K w.params) H a (ns.map V.int) -> sp w [.ref a] H (fun v _=>v = .bl true) fun _ _ _=>False)
  (hCX:∀ (w:World) (H:Hp) (s:Shared) (e:Value) (s':Shared),CX w [] H s (fun _ _ _=>False) e s' -> False) :
  PySem.W.WalkO q loose XP YP l.row.toRowW d [] (fun f vs=>PySem.call f vs):=by
 refine Att.attach_call hn hdf fun w s₀ s₁ mg mb fa o pm cd doc a vs ns G Y ho hd hcd hmg hobj hints hlen hg=>?_
 have KX:=hY w _ Y
 obtain ⟨fd,hb,hF⟩:=F w mg fa _ KX G.T.g hmg
 exact law_call KX G.T.g G.T.b G.T.builtins G.T.nolimit hg hobj hints (Nat.le_trans hlen hn2) hr hF hb (fun H hO hS=>hsp w H a ns hlen hO hS) fun H e s'=>hCX w H s₁ e s'
end L2
namespace L2
open PySem PySem.Spec PyProof.Rows
noncomputable def defArgs (s:Stmt):Arguments:=match s with
 | .FunctionDef _ a _ _ _ _ _ _ _ _=>a
 | _=>{ posonlyargs:=[],args:=[],vararg:=none,kwonlyargs:=[],kw_defaults:=[],kwarg:=none,defaults:=[] }
noncomputable def defBody (s:Stmt):List Stmt:=match s with
 | .FunctionDef _ _ b _ _ _ _ _ _ _=>b
 | _=>[]
noncomputable def defScope (s:Stmt):Scope:=match s with
 | .FunctionDef _ _ _ _ _ _ sc _ _ _=>sc
 | _=>{ kind:=.function,names:=[],isGenerator:=false,isCoroutine:=false }
noncomputable abbrev CX0:CXT:=fun _ _ _ _ _ _=>False
noncomputable abbrev E0:XK:=fun _ _ _=>False
theorem pass0 {X:Cx}:Passes CX0 X E0:=fun _ _ _ _ _ _ _ h=>h.elim
structure Fun (K:PySem.W.Frag) (x qual:Str) (st:Stmt) (f:Addr) (fd:FuncData):Prop where
 ex:∃ (oc:Value) (od:Option Addr) (kV doc pm:Value) (an:Option Addr) (cdv ct:Value) (osl:Array (Option Value)),
  fd = PySem.W.fnOf x qual (defArgs st) (defBody st) (defScope st) .none kV doc pm an cdv ct /\ K.lookup f = some ⟨oc,od,.func fd,osl⟩ /\ PySem.W.codeIn K cdv qual = true
 kp:PySem.W.keepIn K (.ref f) = true
section
variable {P:Program} {w:World} {K:PySem.W.Frag} {mg:Str -> Option Value} {base:Heap}
theorem Fun.ok {x qual:Str} {st:Stmt} {f:Addr} {fd:FuncData} {N ps:List Str} {k:Nat} {sp:Sp} (F:Fun K x qual st f fd) (S:FnScope N ps (defScope st)) (len:∀ vs H Q E,sp vs H Q E -> vs.length = ps.length)
  (hbody:∀ (cdv:Value) (A:Around) (outer:List Env) (s:Shared) (H:Hp) (vs:List V) (Q:VK) (E:XK),Room k (A.deeper (envOfC qual (defScope st) s.heap.objs.size f cdv)) -> sp vs H Q E ->
    ∃ t,PSs (cxOf CX0 P w K mg base N qual (defScope st) f cdv A outer s H E).nox (defBody st) t /\ t { nx:=fun _ H'=>Q .non H',rt:=Q } (start N vs) H):FnOk P w K mg base CX0 (k + 1) f fd ps sp:=by
 obtain ⟨oc,od,kV,doc,pm,an,cdv,ct,osl,rfl,lk,hcd⟩:=F.ex
 refine fn_of lk hcd S len fun A outer s H vs Q E hr hsp=>?_
 obtain ⟨t,h,q⟩:=hbody cdv A outer s H vs Q E hr hsp
 exact ⟨t,h.nox,q⟩
theorem Fun.binds {x qual:Str} {st:Stmt} {f:Addr} {fd:FuncData} {ps:List Str} (F:Fun K x qual st f fd)
  (h:∀ (kV doc pm:Value) (an:Option Addr) (cdv ct:Value) (us:List Value),us.length = ps.length -> bindArgs (PySem.W.fnOf x qual (defArgs st) (defBody st) (defScope st) .none kV doc pm an cdv ct) ⟨us,[]⟩ = pure (ps.zip us)):Binds K fd ps []:=by
 obtain ⟨oc,od,kV,doc,pm,an,cdv,ct,osl,rfl,lk,hcd⟩:=F.ex
 exact .all (h kV doc pm an cdv ct)
theorem fun_mk {x qual:Str} {st:Stmt} {f:Addr} {oc:Value} {od an:Option Addr} {osl:Array (Option Value)} {kV doc pm cdv ct:Value} (l:K.lookup f = some ⟨oc,od,.func (PySem.W.fnOf x qual (defArgs st) (defBody st) (defScope st) .none kV doc pm an cdv ct),osl⟩)
  (c:PySem.W.codeIn K cdv qual = true) (k:PySem.W.keepIn K (.ref f) = true):Fun K x qual st f (PySem.W.fnOf x qual (defArgs st) (defBody st) (defScope st) .none kV doc pm an cdv ct):=⟨⟨oc,od,kV,doc,pm,an,cdv,ct,osl,rfl,l,c⟩,k⟩
end
section
variable {X:Cx}
theorem pv (i:Nat) {x:Str} {pos:Pos} (hN:X.N[i]? = some x:=by rfl) (hv:Vis X.env.scope x:=by first | exact Or.inl rfl | exact Or.inr (Or.inl rfl) | exact Or.inr (Or.inr rfl)) (hd:(x == ("__debug__":Str)) = false:=by decide)
  (hcd:(x == ("__classdict__":Str)) = false:=by decide):PE X (.Name x pos) (tVar i):=pe_var hN hv hd hcd
end
theorem ite2 {c A B:Prop} [Decidable c] (h1:c -> A) (h2:¬ c -> B):if c then A else B:=by
 by_cases h:c
 ·rw [if_pos h]
  exact h1 h
 ·rw [if_neg h]
  exact h2 h
section
variable {κ:Type} [DecidableEq κ]
end
end L2
namespace L2
open PySem PySem.Spec PyProof.Rows
noncomputable def clOf (cells:List (Str × Addr)):List (Str × NameKind) -> List (Str × Addr) -> List (Str × Addr)
 | [],acc=>acc
 | (n,k) :: r,acc=>clOf cells r (if k == .free then (n,(cells.lookup n).getD 0) :: acc else acc)
theorem closure_of {env:Env} {sc:Scope} (h:∀ y ∈ sc.names,y.2 = .free -> ∃ c,env.cells.lookup y.1 = some c):closureFor sc env = pure (clOf env.cells sc.names []):=by
 have go:∀ (l:List (Str × NameKind)) (acc:List (Str × Addr)),(∀ y ∈ l,y.2 = .free -> ∃ c,env.cells.lookup y.1 = some c) ->
   (forIn l acc fun (x:Str × NameKind) r=>(if (x.2 == NameKind.free) = true then (do let a <- cellOf env x.1; pure (ForInStep.yield ((x.1,a) :: r))) else pure (ForInStep.yield r):Sem (ForInStep (List (Str × Addr))))) = pure (clOf env.cells l acc):=by
  intro l
  induction l with
  | nil=>intro acc _; rfl
  | cons y r ih =>
   intro acc hl
   obtain ⟨n,k⟩:=y
   rw [List.forIn_cons]
   by_cases hk:(k == NameKind.free) = true
   ·obtain ⟨c,hc⟩:=hl (n,k) List.mem_cons_self (by simpa using hk)
    have hc:env.cells.lookup n = some c:=hc
    simp only [hk,if_true,cellOf,hc,pure_bind,clOf,Option.getD_some]
    exact ih _ fun y hy=>hl y (List.mem_cons_of_mem _ hy)
   ·simp only [hk,if_false,pure_bind,clOf]
    exact ih _ fun y hy=>hl y (List.mem_cons_of_mem _ hy)
 have e:=go sc.names [] h
 unfold closureFor
 show (forIn sc.names [] _ >>= fun cs=>pure cs) = _
 rw [show (forIn sc.names ([]:List (Str × Addr)) fun (x:Str × NameKind) r=>(match x with | (name,kind)=>if (kind == NameKind.free) = true then (do let a <- cellOf env name; pure (ForInStep.yield ((name,a) :: r))) else pure (ForInStep.yield r):Sem (ForInStep (List (Str × Addr))))) = pure (clOf env.cells sc.names []) from e]
 rfl
theorem clOf_lookup {cells:List (Str × Addr)} {x:Str} {c:Addr}:∀ {l:List (Str × NameKind)} {acc:List (Str × Addr)},(∀ y ∈ l,y.2 = .free -> ∃ c,cells.lookup y.1 = some c) -> (clOf cells l acc).lookup x = some c ->
  acc.lookup x = some c \/ cells.lookup x = some c
 | [],acc,_,h=>.inl h
 | (n,k) :: r,acc,hl,h=>by
  have ih:=clOf_lookup (l:=r) (fun y hy=>hl y (List.mem_cons_of_mem _ hy)) h
  rcases ih with ih | ih
  ·by_cases hk:(k == NameKind.free) = true
   ·rw [if_pos hk,List.lookup_cons] at ih
    obtain ⟨c',hc⟩:=hl (n,k) List.mem_cons_self (by simpa using hk)
    have hc:cells.lookup n = some c':=hc
    cases e:x == n with
    | true =>
     rw [e] at ih
     have:x = n:=by simpa using e
     subst this
     simp only [hc,Option.getD_some,Option.some.injEq] at ih
     subst ih
     exact .inr hc
    | false=>rw [e] at ih; exact .inl ih
   ·rw [if_neg hk] at ih; exact .inl ih
  ·exact .inr ih
theorem clOf_has {cells:List (Str × Addr)} {x:Str}:∀ {l:List (Str × NameKind)} {acc:List (Str × Addr)},((∃ c,acc.lookup x = some c) \/ l.lookup x = some .free) -> ∃ c,(clOf cells l acc).lookup x = some c
 | [],acc,h=>by
  rcases h with h | h
  ·exact h
  ·simp at h
 | (n,k) :: r,acc,h=>by
  refine clOf_has (l:=r) ?_
  rcases h with ⟨c,h⟩ | h
  ·left
   by_cases hk:(k == NameKind.free) = true
   ·rw [if_pos hk,List.lookup_cons]
    cases x == n with
    | true=>exact ⟨_,rfl⟩
    | false=>exact ⟨c,h⟩
   ·rw [if_neg hk]; exact ⟨c,h⟩
  ·rw [List.lookup_cons] at h
   cases e:x == n with
   | true =>
    rw [e] at h
    have hk:k = .free:=Option.some.inj h
    left
    subst hk
    rw [if_pos (by decide),List.lookup_cons,e]
    exact ⟨_,rfl⟩
   | false=>rw [e] at h; exact .inr h
theorem lookup_relabel {env:Env} {x:Str}:∀ {names:List (Str × NameKind)},
  (names.map fun (n,k)=>if (k == NameKind.free && env.scope.kind == .function && env.kindOf n == some .cell) then (n,NameKind.cell) else (n,k)).lookup x =
   (names.lookup x).map fun k=>if (k == NameKind.free && env.scope.kind == .function && env.kindOf x == some .cell) then .cell else k
 | []=>rfl
 | (n,k) :: r=>by
  have ih:=@lookup_relabel env x r
  rw [List.map_cons]
  show List.lookup x ((if (k == NameKind.free && env.scope.kind == .function && env.kindOf n == some .cell) = true then (n,NameKind.cell) else (n,k)) :: _) = _
  cases hx:x == n with
  | true =>
   have e:x = n:=by simpa using hx
   subst e
   by_cases hc:(k == NameKind.free && env.scope.kind == .function && env.kindOf x == some .cell) = true
   ·rw [if_pos hc]; simp only [List.lookup_cons,hx,Option.map_some]; rw [if_pos hc]
   ·rw [if_neg hc]; simp only [List.lookup_cons,hx,Option.map_some]; rw [if_neg hc]
  | false =>
   by_cases hc:(k == NameKind.free && env.scope.kind == .function && env.kindOf n == some .cell) = true
   ·rw [if_pos hc]; simp only [List.lookup_cons,hx]; exact ih
   ·rw [if_neg hc]; simp only [List.lookup_cons,hx]; exact ih
theorem relabel_lookup (sc:Scope) (env:Env) (x:Str):(relabel sc env).names.lookup x = (sc.names.lookup x).map fun k=>if (k == NameKind.free && env.scope.kind == .function && env.kindOf x == some .cell) then .cell else k:=lookup_relabel
theorem cf_app:∀ (names:List (Str × NameKind)) (n:Nat) (acc:List (Str × Addr)),cellsFrom n names acc = cellsFrom n names [] ++ acc
 | [],_,_=>rfl
 | (x,k) :: r,n,acc=>by
  unfold cellsFrom
  split
  ·rw [cf_app r (n + 1) ((x,n) :: acc),cf_app r (n + 1) [(x,n)],List.append_assoc]; rfl
  ·exact cf_app r n acc
theorem cf_mem {x:Str} {c:Addr}:∀ (names:List (Str × NameKind)) (n:Nat),(x,c) ∈ cellsFrom n names [] -> (x,NameKind.cell) ∈ names /\ n <= c
 | [],_,h=>by cases h
 | (y,k) :: r,n,h=>by
  unfold cellsFrom at h
  split at h
  ·rename_i hk
   have hk:k = .cell:=by simpa using hk
   rw [cf_app,List.mem_append] at h
   rcases h with h | h
   ·have:=cf_mem r (n + 1) h
    exact ⟨List.mem_cons_of_mem _ this.1,by omega⟩
   ·have h:(x,c) = (y,n):=by simpa using h
    cases h
    subst hk
    exact ⟨List.mem_cons_self,Nat.le_refl _⟩
  ·have:=cf_mem r n h
   exact ⟨List.mem_cons_of_mem _ this.1,this.2⟩
theorem lookup_app {α:Type} {x:Str}:∀ {l m:List (Str × α)},(l ++ m).lookup x = (l.lookup x).or (m.lookup x)
 | [],_=>rfl
 | (y,v) :: l,m=>by
  rw [List.cons_append,List.lookup_cons,List.lookup_cons]
  cases x == y with
  | true=>rfl
  | false=>exact lookup_app
theorem wpAny_newEnvComp {M:Model} {A:Around} {E:Value -> Shared -> Prop} {s:Shared} {scope:Scope} {globals:Addr} {closure:List (Str × Addr)} {qual:Str} {env:Env} {Q:Env -> Shared -> Prop}
  (hQ:Q (newEnv scope s.heap.objs.size globals (cellsFrom (s.heap.objs.size + 1) scope.names closure) qual none .none (some env) builtinsNs) { s with heap:=pushCells (s.heap.push { cls:=.type "dict",data:=.dict #[] }) scope.names }) :
  wpAny M A (newFunctionEnv scope globals closure [] qual none .none (some env)) Q E s:=by
 simp only [newFunctionEnv,Option.isSome_some,if_true]
 refine wpAny_bind (wpAny_alloc ?_)
 refine wpAny_bind (wpAny_layCells _ (fun name kind cells=>by cases hkc:kind == NameKind.cell <;> simp [hkc]) _ _ _ _ ?_)
 rw [show ({ s with heap:=s.heap.push { cls:=.type "dict",data:=.dict #[] } }:Shared).heap.objs.size = s.heap.objs.size + 1 from Heap.size_push ..]
 refine wpAny_bind ?_
 rw [List.forIn_nil]
 exact wpAny_pure (wpAny_pure hQ)
noncomputable def frN (N:List Str) (fr:List Nat):List Str:=fr.map fun i=>N.getD i Str.empty
noncomputable def frS (σ:St) (fr:List Nat):St:=fr.map fun i=>(σ[i]?).getD none
noncomputable def cxComp (X:Cx) (own:List Str) (fr:List Nat) (sc:Scope) (C:Addr) (s:Shared) (H:Hp) (ex:List Addr):Cx where
 prog:=X.prog
 w:=X.w
 K:=X.K
 mg:=X.mg
 base:=X.base
 A:=X.A
 N:=own ++ frN X.N fr
 s₀:=s
 H₀:=H
 env:=compEnvC sc (cellsFrom (C + 1) sc.names (clOf X.env.cells sc.names [])) C X.env
 outer:=X.stack
 stack:=X.stack
 ex:=ex
 fn:=fun x=>sc.names.lookup x == some .cell
 calm:=X.calm
 pn:=[]
 xe:=fun _ _=>False
noncomputable def st0 (own:List Str) (σ:St) (fr:List Nat):St:=own.map (fun _=>none) ++ frS σ fr
structure CompSc (X:Cx) (own:List Str) (fr:List Nat) (sc:Scope):Prop where
 kind:sc.kind = .function
 cells:∀ y ∈ sc.names,y.2 = .cell -> sc.names.lookup y.1 = some .cell
 loc:∀ y ∈ sc.names,y.2 = .local -> sc.names.lookup y.1 = some .local
 free:∀ y ∈ sc.names,y.2 = .free -> X.env.kindOf y.1 = some .cell \/ X.env.kindOf y.1 = some .free
 fr:∀ i ∈ fr,∃ x,X.N[i]? = some x /\ sc.names.lookup x = some .free
theorem comp_start {X:Cx} {own:List Str} {fr:List Nat} {sc:Scope} {pins:List (Addr × Obj)} {σ:St} {H:Hp} {s:Shared} {fp:List Addr} {C D:Addr} {h1:Heap} {tk:Nat} {oD:Obj}
  (S:CompSc X own fr sc) (I:Inv X pins σ H s) (hf:∀ b ∈ fp,FpOk X pins H b) (hfo:∀ b ∈ fp,∃ o,s.heap.get? b = some o) (hC:s.heap.objs.size <= C) (hD:s.heap.objs.size <= D) (hDC:D ≠ C) (hn:h1.Ns C fun x=>([]:List (Str × Value)).reverse.lookup x)
  (hk:∀ b o,s.heap.get? b = some o -> h1.get? b = some o) (hcl:∀ x c,(x,c) ∈ cellsFrom (C + 1) sc.names [] -> h1.IsCell c none) (hap:(cellsFrom (C + 1) sc.names []).Pairwise fun x y=>x.2 ≠ y.2) (hoD:h1.get? D = some oD) (hdD:∀ v,oD.data ≠ .cell v) :
  Inv (cxComp X own fr sc C s H fp) [(D,oD)] (st0 own σ fr) H { s with heap:=h1,toks:=tk }:=by
 have hfree:∀ y ∈ sc.names,y.2 = .free -> ∃ c,X.env.cells.lookup y.1 = some c:=fun y hy e=>I.ok.has y.1 (S.free y hy e)
 have cl1:∀ x c,(clOf X.env.cells sc.names []).lookup x = some c -> X.env.cells.lookup x = some c:=fun x c e=>by
  rcases clOf_lookup hfree e with z | z
  ·simp at z
  ·exact z
 have cl2:∀ x c,(cellsFrom (C + 1) sc.names (clOf X.env.cells sc.names [])).lookup x = some c -> (x,c) ∈ cellsFrom (C + 1) sc.names [] \/ X.env.cells.lookup x = some c:=fun x c e=>by
  rw [cf_app,lookup_app] at e
  cases q:(cellsFrom (C + 1) sc.names []).lookup x with
  | none=>rw [q] at e; exact .inr (cl1 x c e)
  | some c'=>rw [q] at e; cases e; exact .inl (PySem.mem_of_lookup q)
 have new:∀ x c,(x,c) ∈ cellsFrom (C + 1) sc.names [] -> C + 1 <= c:=fun x c h=>(cf_mem _ _ h).2
 have oldc:∀ x c,X.env.cells.lookup x = some c -> c < s.heap.objs.size:=fun x c e=>by
  obtain ⟨v,q⟩:=I.cell x c e
  exact q.lt
 have kin:∀ x k,(relabel sc X.env).names.lookup x = some k -> k = .cell \/ k = .free -> sc.names.lookup x = some .free \/ sc.names.lookup x = some .cell:=fun x k e hk=>by
  rw [relabel_lookup] at e
  cases q:sc.names.lookup x with
  | none=>rw [q] at e; cases e
  | some j =>
   rw [q,Option.map_some,Option.some.injEq] at e
   by_cases hj:j = .free
   ·rw [hj]; exact .inl rfl
   ·have hne:(j == NameKind.free) = false:=by simpa using hj
    rw [hne,Bool.false_and,Bool.false_and,if_neg (by simp)] at e
    subst e
    rcases hk with z | z
    ·rw [z]; exact .inr rfl
    ·exact absurd z hj
 have kout:∀ x,sc.names.lookup x = some .free -> ((relabel sc X.env).names.lookup x = some .cell \/ (relabel sc X.env).names.lookup x = some .free):=fun x e=>by
  rw [relabel_lookup,e,Option.map_some]
  by_cases h:(NameKind.free == NameKind.free && X.env.scope.kind == .function && X.env.kindOf x == some .cell) = true
  ·rw [if_pos h]; exact .inl rfl
  ·rw [if_neg h]; exact .inr rfl
 have okc:∀ b ∈ fp,b < s.heap.objs.size:=fun b hb=>by obtain ⟨o,e⟩:=hfo b hb; exact Heap.lt_size e
 have fresh:∀ {a:Addr},s.heap.objs.size <= a -> H a = none:=fun h=>I.hok.fresh h
 have ok:(cxComp X own fr sc C s H fp).Ok:={
   mod:=I.ok.mod
   kind:=S.kind
   glob:=I.ok.glob
   blt:=I.ok.blt
   above:=hC
   inj:=fun x y c h1 h2=>by
     have hC:s.heap.objs.size <= C:=hC
     rcases cl2 x c h1 with a | a <;> rcases cl2 y c h2 with b | b
     · exact name_of_addr hap a b
     · have:=new x c a; have:=oldc y c b; exact absurd (Nat.lt_of_lt_of_le (oldc y c b) (Nat.le_trans hC (Nat.le_of_succ_le (new x c a)))) (Nat.lt_irrefl _)
     · exact absurd (Nat.lt_of_lt_of_le (oldc x c a) (Nat.le_trans hC (Nat.le_of_succ_le (new y c b)))) (Nat.lt_irrefl _)
     · exact I.ok.inj x y c a b
   has:=fun x hx=>by
     have hx:sc.names.lookup x = some .free \/ sc.names.lookup x = some .cell:=by
       rcases hx with hx | hx
       · exact kin x _ hx (.inl rfl)
       · exact kin x _ hx (.inr rfl)
     show ∃ c,(cellsFrom (C + 1) sc.names (clOf X.env.cells sc.names [])).lookup x = some c
     rw [cf_app,lookup_app]
     rcases hx with hx | hx
     · obtain ⟨c,e⟩:=clOf_has (cells:=X.env.cells) (x:=x) (l:=sc.names) (acc:=[]) (.inr hx)
       rw [e]
       cases (cellsFrom (C + 1) sc.names []).lookup x with
       | none=>exact ⟨c,rfl⟩
       | some c'=>exact ⟨c',rfl⟩
     · obtain ⟨c,e⟩:=cell_has (n:=C + 1) hx
       rw [e]
       exact ⟨c,rfl⟩
   cab:=fun x c h e=>by
     have h:sc.names.lookup x = some .cell:=by simpa [cxComp] using h
     have e:(cellsFrom (C + 1) sc.names (clOf X.env.cells sc.names [])).lookup x = some c:=e
     obtain ⟨c',q⟩:=cell_has (n:=C + 1) h
     rw [cf_app,lookup_app,q] at e
     cases e
     exact Nat.le_trans hC (Nat.le_of_succ_le (new x _ (PySem.mem_of_lookup q)))
   hd:=I.ok.hd
   frames:=I.ok.frames
   stk:=.inl rfl
   exf:=fun b hb=>⟨Nat.ne_of_lt (Nat.lt_of_lt_of_le (okc b hb) hC),fun x c e=>by
     rcases cl2 x c e with z | z
     · exact Nat.ne_of_gt (Nat.lt_of_lt_of_le (okc b hb) (Nat.le_trans hC (Nat.le_of_succ_le (new x c z))))
     · exact (hf b hb).2.2.2.2.1 x c z⟩
   bs:=I.bs
   bsz:=Nat.le_trans I.ok.bsz I.sz
   noex:=fun b o e hb=>by
     rcases (hf b hb).2.2.2.1 with z | z
     · exact I.ok.noex b o e z
     · exact absurd (Nat.lt_of_lt_of_le (Heap.lt_size e) (Nat.le_trans I.ok.bsz z)) (Nat.lt_irrefl _)
   exfs:=fun b hb hm=>by
     rcases List.mem_cons.mp (I.stkSub b hm) with z | z
     · exact (hf b hb).2.1 z
     · exact (hf b hb).2.2.1 z
   funs:=I.stack
   frf:=I.stkFree }
 refine ⟨ok,rfl,I.bare,Un.kept hk,⟨_,hn,fun i x v e1 e2 e3=>?_⟩,fun x c e=>?_,fresh hC,fun x c e=>?_,fun p hp=>?_,I.hok.kept hk,?_⟩
 ·have e1:(own ++ frN X.N fr)[i]? = some x:=e1
  have e2:(own.map (fun _=>(none:Option V)) ++ frS σ fr)[i]? = some (some v):=e2
  by_cases hi:i < own.length
  ·rw [List.getElem?_append_left (by simpa using hi),List.getElem?_map] at e2
   cases q:own[i]? with
   | none=>rw [q] at e2; cases e2
   | some z=>rw [q] at e2; cases e2
  ·rw [List.getElem?_append_right (by omega)] at e1
   rw [List.getElem?_append_right (by simpa using hi),List.length_map] at e2
   unfold frN at e1
   unfold frS at e2
   rw [List.getElem?_map] at e1 e2
   cases q:fr[i - own.length]? with
   | none=>rw [q] at e1; cases e1
   | some j =>
    rw [q,Option.map_some,Option.some.injEq] at e1 e2
    obtain ⟨y,hy,hyf⟩:=S.fr j (List.mem_of_getElem? q)
    rw [List.getD_eq_getElem?_getD,hy,Option.getD_some] at e1
    subst e1
    have e2':σ[j]? = some (some v):=by
     cases r:σ[j]? with
     | none=>rw [r] at e2; cases e2
     | some z=>rw [r,Option.getD_some] at e2; rw [e2]
    have hkf:X.env.kindOf y = some .cell \/ X.env.kindOf y = some .free:=S.free (y,.free) (PySem.mem_of_lookup hyf) rfl
    obtain ⟨m,hm,hl⟩:=I.loc
    have vis:Vis X.env.scope y:=by
     rcases hkf with z | z
     ·exact .inr (.inl z)
     ·exact .inr (.inr z)
    obtain ⟨u,r,l⟩:=hl j y v hy e2' vis
    refine ⟨u,r,?_⟩
    rcases l with ⟨k,_⟩ | ⟨k,c,hc,z⟩
    ·rcases hkf with k' | k' <;> rw [k] at k' <;> cases k'
    ·refine .inr ⟨kout y hyf,?_⟩
     obtain ⟨c',hc'⟩:∃ c',(clOf X.env.cells sc.names []).lookup y = some c':=clOf_has (.inr hyf)
     have:c' = c:=Option.some.inj ((cl1 y c' hc').symm.trans hc)
     subst this
     obtain ⟨o,ho,hd⟩:=z
     refine ⟨c',?_,o,hk _ _ ho,hd⟩
     show (cellsFrom (C + 1) sc.names (clOf X.env.cells sc.names [])).lookup y = some c'
     rw [cf_app,lookup_app,hc']
     cases q:(cellsFrom (C + 1) sc.names []).lookup y with
     | none=>rfl
     | some c2 =>
      have:=S.cells _ (cf_mem _ _ (PySem.mem_of_lookup q)).1 rfl
      rw [hyf] at this
      cases this
 ·rcases cl2 x c e with z | z
  ·exact ⟨_,hcl x c z⟩
  ·obtain ⟨v,o,ho,hd⟩:=I.cell x c z
   exact ⟨v,o,hk _ _ ho,hd⟩
 ·rcases cl2 x c e with z | z
  ·exact fresh (Nat.le_trans hC (Nat.le_of_succ_le (new x c z)))
  ·exact I.freeC x c z
 ·have e:p = (D,oD):=by
   have:p ∈ ([]:List (Addr × Obj)) ++ [(D,oD)]:=hp
   simpa using this
  subst e
  refine ⟨hoD,fresh hD,hDC,fun hm=>?_,hdD⟩
  have hm:D ∈ frs X.stack:=hm
  obtain ⟨_,o,ho,_⟩:=I.stack.mem hm
  exact absurd (Nat.lt_of_lt_of_le (Heap.lt_size ho) hD) (Nat.lt_irrefl _)
 ·show (own.map (fun _=>(none:Option V)) ++ frS σ fr).length = (own ++ frN X.N fr).length
  simp [frS,frN]
theorem comp_end {X:Cx} {own:List Str} {fr:List Nat} {sc:Scope} {pins:List (Addr × Obj)} {σ σ':St} {H H':Hp} {s s':Shared} {fp:List Addr} {C D:Addr} {oD:Obj} {ys:List V} {us:List Value} {n:Nat}
  (I:Inv X pins σ H s) (hf:∀ b ∈ fp,FpOk X pins H b) (hC:s.heap.objs.size <= C) (hD:s.heap.objs.size <= D) (hDC:D ≠ C)
  (J:Inv (cxComp X own fr sc C s H fp) [(D,oD)] σ' H' s') (ho:oD = { cls:=.type "list",data:=.seq us.toArray n }) (r:Vals ys us) (hz:ys.length <= sizeLine) :
  Inv X pins σ (upd H' D (.lst ys)) s' /\ (∃ m,s'.heap.Ns C m) /\ FpOk X pins (upd H' D (.lst ys)) C:=by
 have pD:=J.pin (D,oD) (by simp [cxComp])
 have hHD:H' D = none:=pD.2.1
 have u:Un (frs X.stack) fp H H' s.heap s'.heap:=J.base
 have lt:∀ b o,s.heap.get? b = some o -> b ≠ D:=fun b o e=>Nat.ne_of_lt (Nat.lt_of_lt_of_le (Heap.lt_size e) hD)
 have u2:Un (frs X.stack) fp H (upd H' D (.lst ys)) s.heap s'.heap :=
  ⟨u.keep,u.slot,fun b o e n hx=>by rw [upd_ne (lt b o e)]; exact u.free b o e n hx,u.there,fun b xs e=>by rw [upd_ne (ne_of_none (u.tups b xs e) hHD)]; exact u.tups b xs e,
    fun b o x e=>by rw [upd_ne (ne_of_none (u.frzs b o x e) hHD)]; exact u.frzs b o x e,fun b ps e=>by
      obtain ⟨more,q⟩:=u.tbls b ps e
      exact ⟨more,by rw [upd_ne (ne_of_none q hHD)]; exact q⟩⟩
 have hok:HOk X.prog X.w (upd H' D (.lst ys)) s'.heap:=fun b o e=>by
  by_cases hb:b = D
  ·subst hb
   rw [upd_same] at e
   cases e
   exact ⟨hz,us,n,r,by rw [<- ho]; exact pD.1⟩
  ·rw [upd_ne hb] at e
   exact (J.hok b o e).stay (fun _ _ _ q=>q) (fun c q=>by rw [upd_ne (ne_of_none q hHD)]; exact q) fun c xs q=>by rw [upd_ne (ne_of_none q hHD)]; exact q
 refine ⟨I.call' (ch:=fp) J.os u2 hok J.bare fun b hb=>?_,?_,?_⟩
 ·obtain ⟨f0,f1,f2,f3,f4,f5⟩:=hf b hb
  exact ⟨f3,f1,f4,f5⟩
 ·obtain ⟨m,hm,_⟩:=J.loc
  exact ⟨m,hm⟩
 ·have hfree:H' C = none:=J.free
  refine ⟨by rw [upd_ne (Ne.symm hDC)]; exact hfree,?_⟩
  exact (I.fpOk hC (I.hok.fresh hC)).2
theorem codeAny_compLoop_any {prog:Program} {w:World} {A:Around} {R:Result -> Shared -> Prop} {s:Shared} {elt target iter:Expr} {ifs:List Expr} {scope:Scope} {pos:Pos} {it acc:Value} {env:Env} (I:Nat -> Shared -> Prop)
  (turn:∀ n s,I n s -> wpAny (model prog w) A (pyNext it) (fun r s₁=>match r with
    | none=>R (.ok .next) s₁
    | some v=>wpAny (model prog w) A (letOwnedTupleGo target it v) (fun _ s₁'=>wpAny (model prog w) A (assign target env v) (fun _ s₂ =>
        wpAny (model prog w) A (forIn ifs true fun c r=>if r = true then do let ok <- isTrue c env (eval c env); pure (ForInStep.yield ok) else pure (ForInStep.yield r)) (fun ok s₃ =>
          if ok = true then wpAny (model prog w) A (eval elt env) (fun x s₄ =>
            wpAny (model prog w) A (call (.builtin "list.append") [acc,x]) (fun _ s₅=>∃ m,m < n /\ I m s₅) (fun _ _=>False) s₄) (fun _ _=>False) s₃
          else ∃ m,m < n /\ I m s₃) (fun _ _=>False) s₂) (fun _ _=>False) s₁') (fun _ _=>False) s₁) (fun _ _=>False) s)
  (n:Nat) (h:I n s) :
  codeAny (model prog w) A (.compLoop (.ListComp elt [⟨target,iter,ifs,0⟩] scope pos) 0 it acc env) R s:=by
 refine codeAny_loop rfl I (fun n s hI=>?_) n h
 show wpAny _ A ((compTurn (.ListComp elt [⟨target,iter,ifs,0⟩] scope pos) 0 it acc env).onRaise (fun x=>do noteFrame x env; theTreesLotGoes x)) _ _ s
 refine wpAny_noted ?_
 rw [compTurn_list]
 refine wpAny_bind (wpAny_standAt (wpAny_bind (wpAny_mono (turn n s hI) (fun r s₁ h₁=>?_) fun _ _ h'=>h'.elim)))
 cases r with
 | none=>exact wpAny_pure h₁
 | some v =>
  refine wpAny_bind (wpAny_mono h₁ (fun _ s₁' h₁'=>?_) fun _ _ h'=>h'.elim)
  refine wpAny_bind (wpAny_mono h₁' (fun _ s₂ h₂=>wpAny_bind (wpAny_mono h₂ (fun ok s₃ h₃=>?_) fun _ _ h'=>h'.elim)) fun _ _ h'=>h'.elim)
  cases ok with
  | false=>exact wpAny_pure ⟨rfl,h₃⟩
  | true =>
   exact wpAny_bind (wpAny_bind (wpAny_mono h₃ (fun x s₄ h₄=>wpAny_bind (wpAny_mono h₄ (fun _ s₅ h₅=>wpAny_pure (wpAny_pure ⟨rfl,h₅⟩)) fun _ _ h'=>h'.elim)) fun _ _ h'=>h'.elim))
noncomputable def PIf (X:Cx) (ifs:List Expr) (t:TT):Prop :=
 ∀ (pins:List (Addr × Obj)) (s:Shared) (σ:St) (H:Hp) (Q:Bool -> Hp -> Prop),Inv X pins σ H s -> t σ H Q ->
  wpAny (model X.prog X.w) X.A (forIn ifs true fun c r=>if r = true then do let ok <- isTrue c X.env (eval c X.env); pure (ForInStep.yield ok) else pure (ForInStep.yield r)) (TP X pins σ Q) X.xe s
noncomputable def tYes:TT:=fun _ H Q=>Q true H
theorem if_nil {X:Cx}:PIf X [] tYes:=fun _ _ _ H _ I h=>wpAny_tests_nil ⟨H,I,h⟩
theorem if_one {X:Cx} {c:Expr} {t:TT} (h:PT X c t):PIf X [c] t:=fun pins s σ H Q I hw=>wpAny_tests_one (h pins s σ H Q I hw)
noncomputable def tComp (wi:TI) (own:List Str) (fr:List Nat) (g:TG) (tc:TT) (te:TE):TE:=fun σ H Q=>wi σ H fun J H1=>∃ W:Nat -> Nat -> List V -> St -> Hp -> Prop,(∃ m,W 0 m [] (st0 own σ fr) H1) /\ ∀ i m ys τ H,W i m ys τ H ->
 (J.stop i H /\ ∀ D,H D = none -> Q (.ref D) (upd H D (.lst ys))) \/
 (J.go i H /\ ys.length < sizeLine /\ ∃ N:List V -> St -> Hp -> Prop,(∀ ys' τ' H',N ys' τ' H' -> ∃ m',m' < m /\ W (i + 1) m' ys' τ' H') /\ ∀ x H',J.yld i H x H' -> g x τ H' fun τ2 H2 =>
   tc τ2 H2 fun b H3=>if b = true then te τ2 H3 fun y H4=>N (ys ++ [y]) τ2 H4 else N ys τ2 H3)
theorem comp_grow {X:Cx} {D:Addr} {us:List Value} {k:Nat} {pl:List (Addr × Obj)} {σ:St} {H:Hp} {s:Shared} {u:Value} {Q:Value -> Shared -> Prop} {E:Value -> Shared -> Prop}
  (I:Inv X ([(D,{ cls:=.type "list",data:=.seq us.toArray k })] ++ pl) σ H s) (h1:X.s₀.heap.objs.size <= D) (h2:∀ x c,X.env.cells.lookup x = some c -> c ≠ D) (h3:∀ p ∈ X.pn ++ pl,p.1 ≠ D) (hz:us.length < sizeLine)
  (h:∀ k' s',Inv X ([(D,{ cls:=.type "list",data:=.seq (us ++ [u]).toArray k' })] ++ pl) σ H s' -> Q .none s'):wpAny (model X.prog X.w) X.A (call (.builtin "list.append") [.ref D,u]) Q E s:=by
 obtain ⟨e,hn,hL,hF,_⟩:=I.pin (D,{ cls:=.type "list",data:=.seq us.toArray k }) (List.mem_append_right _ (List.mem_append_left _ (List.mem_singleton.mpr rfl)))
 dsimp only at e hn hL hF
 have I0:Inv X pl σ H s:=I.pins_of fun p hp=>I.pin p (List.mem_append_right _ (List.mem_append_right _ hp))
 refine call_meets F.slot_list_append ⟨_,e,rfl⟩ F.entry_list_append (F.args_list_append_2 _ _) (PySem.list_append D us.toArray k u (by rw [List.size_toArray]; omega)) ⟨e,?_⟩
 have q:=PySem.IsL.update e fun xs=>xs.push u
 rw [show us.toArray.push u = (us ++ [u]).toArray by simp] at q
 have I1:Inv X pl σ H { s with heap:=s.heap.update D (Obj.mapSeq fun xs=>xs.push u),toks:=s.toks } :=
  I0.turned (it:=D) (fun b o hb ho=>(Heap.get?_update_other s.heap (Obj.mapSeq fun xs=>xs.push u) (Ne.symm hb)).trans ho) hn hL (.inr h1) h2 h3
 obtain ⟨k',q⟩:∃ k',(s.heap.update D (Obj.mapSeq fun xs=>xs.push u)).get? D = some { cls:=.type "list",data:=.seq (us ++ [u]).toArray k' }:=⟨_,q⟩
 refine h k' _ (I1.pins_of (pins':=[(D,{ cls:=.type "list",data:=.seq (us ++ [u]).toArray k' })] ++ pl) fun p hp=>?_)
 rcases List.mem_append.mp hp with z | z
 ·have z:p = _:=List.mem_singleton.mp z
  subst z
  exact ⟨q,hn,hL,hF,fun v z=>by cases z⟩
 ·exact I1.pin p (List.mem_append_right _ z)
theorem comp_block {X:Cx} {tg iter elt:Expr} {ifs:List Expr} {sc:Scope} {pos:Pos} {own:List Str} {fr:List Nat} {g:TG} {tc:TT} {te:TE} {pins:List (Addr × Obj)} {σ:St} {H2:Hp} {s2:Shared} {it:Addr} {fp:List Addr} {tn:Nat -> Heap -> Prop} {J:It} {Q:VK} {E:Value -> Shared -> Prop}
  {RR:Value -> Addr -> Result -> Shared -> Prop}
  (hc:X.calm = true) (S:CompSc X own fr sc) (I2:Inv X pins σ H2 s2) (T:Turn X.prog X.w X.K tg J fp it tn) (st2:tn 0 s2.heap) (f2:∀ b ∈ fp,FpOk X pins H2 b)
  (hg:∀ C ex,PG (cxComp X own fr sc C s2 H2 ex) tg g) (hif:∀ C ex,PIf (cxComp X own fr sc C s2 H2 ex) ifs tc) (he:∀ C ex,PE (cxComp X own fr sc C s2 H2 ex) elt te)
  (W:Nat -> Nat -> List V -> St -> Hp -> Prop) (m0:Nat) (w0:W 0 m0 [] (st0 own σ fr) H2)
  (turn:∀ i m ys τ H,W i m ys τ H -> (J.stop i H /\ ∀ D,H D = none -> Q (.ref D) (upd H D (.lst ys))) \/
    (J.go i H /\ ys.length < sizeLine /\ ∃ N:List V -> St -> Hp -> Prop,(∀ ys' τ' H',N ys' τ' H' -> ∃ m',m' < m /\ W (i + 1) m' ys' τ' H') /\ ∀ x H',J.yld i H x H' -> g x τ H' fun τ2 H2 =>
      tc τ2 H2 fun b H3=>if b = true then te τ2 H3 fun y H4=>N (ys ++ [y]) τ2 H4 else N ys τ2 H3))
  (hRR:∀ D C H s',Inv X pins σ H s' -> Q (.ref D) H -> (∃ m,s'.heap.Ns C m) -> FpOk X pins H C -> RR (.ref D) C (.ok .next) s') :
  wpAny (model X.prog X.w) X.A (newList []) (fun acc s₃=>wpAny (model X.prog X.w) X.A (newFunctionEnv sc X.env.globals (clOf X.env.cells sc.names []) [] X.env.qual none .none (some X.env)) (fun cenv s₄ =>
    codeAny (model X.prog X.w) X.A (.compStart (.ListComp elt [⟨tg,iter,ifs,0⟩] sc pos) 0 (.ref it) acc { cenv with scope:=relabel sc X.env }) (RR acc cenv.locals) s₄) E s₃) E s2:=by
 refine wpAny_newObj_type (wpAny_newEnvComp ?_)
 dsimp only
 generalize hH2:s2.heap.push { cls:=.type "list",dict:=none,data:=.seq ([]:List Value).toArray } = G
 generalize hh1:pushCells (G.push { cls:=.type "dict",data:=.dict #[] }) sc.names = h₁
 have kp:∀ b o,(G.push { cls:=.type "dict",data:=.dict #[] }).get? b = some o -> h₁.get? b = some o:=fun b o e=>hh1 ▸ pushCells_keeps _ _ b o e
 have hns₁:h₁.Ns G.objs.size fun x=>([]:List (Str × Value)).reverse.lookup x:=(Heap.Ns.new G (.type "dict")).keeps kp
 have cok:CellsOk h₁ (G.objs.size + 1) (cellsFrom (G.objs.size + 1) sc.names []):=by
  have:=cellsFrom_ok sc.names (G.push { cls:=.type "dict",data:=.dict #[] }) (G.objs.size + 1) [] ⟨fun _ _ hm=>(nomatch hm),List.Pairwise.nil⟩ (by rw [Heap.size_push]; exact Nat.le_refl _)
  rw [Heap.size_push,hh1] at this
  exact this
 have hC:G.objs.size = s2.heap.objs.size + 1:=by rw [<- hH2,Heap.size_push]
 have hCle:s2.heap.objs.size <= G.objs.size:=by rw [hC]; exact Nat.le_succ _
 have hDC:s2.heap.objs.size ≠ G.objs.size:=by rw [hC]; exact Nat.ne_of_lt (Nat.lt_succ_self _)
 have old:∀ b o,s2.heap.get? b = some o -> h₁.get? b = some o:=fun b o e=>kp b o (Heap.get?_push_of_some _ (hH2 ▸ Heap.get?_push_of_some _ e))
 have hacc:h₁.get? s2.heap.objs.size = some { cls:=.type "list",data:=.seq ([]:List Value).toArray }:=kp _ _ (Heap.get?_push_of_some _ (hH2 ▸ Heap.get?_push_size _ rfl))
 have st0':tn 0 h₁:=T.keep _ _ _ st2 fun b hb o e=>old b o e
 have fo:∀ b ∈ fp,∃ o,s2.heap.get? b = some o:=fun b hb=>let ⟨o,e,_⟩:=T.obj _ _ st2 b hb; ⟨o,e⟩
 have flt:∀ b ∈ fp,b < s2.heap.objs.size:=fun b hb=>by obtain ⟨o,e⟩:=fo b hb; exact Heap.lt_size e
 have clb:∀ x c,(clOf X.env.cells sc.names []).lookup x = some c -> X.env.cells.lookup x = some c:=fun x c e=>by
  rcases clOf_lookup (fun y hy e=>I2.ok.has y.1 (S.free y hy e)) e with z | z
  ·simp at z
  ·exact z
 have clb2:∀ (C':Addr) x c,(cellsFrom (C' + 1) sc.names (clOf X.env.cells sc.names [])).lookup x = some c -> C' + 1 <= c \/ X.env.cells.lookup x = some c:=fun C' x c e=>by
  rw [cf_app,lookup_app] at e
  cases q:(cellsFrom (C' + 1) sc.names []).lookup x with
  | none=>rw [q] at e; exact .inr (clb x c e)
  | some c'=>rw [q] at e; cases e; exact .inl (cf_mem _ _ (PySem.mem_of_lookup q)).2
 have stt:∀ C':Addr,s2.heap.objs.size <= C' -> ∀ {H':Hp} {pl:List (Addr × Obj)},(∀ b ∈ fp,H' b = none) -> (∀ p ∈ pl,s2.heap.objs.size <= p.1) -> ∀ b ∈ fp,FpOk (cxComp X own fr sc C' s2 H2 fp) pl H' b:=fun C' hC' H' pl hn hp b hb=>by
  have I0:=f2 b hb
  refine ⟨hn b hb,Nat.ne_of_lt (Nat.lt_of_lt_of_le (flt b hb) hC'),fun hm=>?_,.inl hb,fun x c e=>by
      rcases clb2 C' x c e with z | z
      · exact Nat.ne_of_gt (Nat.lt_of_lt_of_le (flt b hb) (Nat.le_trans hC' (Nat.le_of_succ_le z)))
      · exact I0.2.2.2.2.1 x c z,fun p hp'=>?_⟩
  ·rcases List.mem_cons.mp (I2.stkSub b hm) with z | z
   ·exact I0.2.1 z
   ·exact I0.2.2.1 z
  ·have hp':p ∈ pl:=by
    have:p ∈ ([]:List (Addr × Obj)) ++ pl:=hp'
    simpa using this
   exact Nat.ne_of_gt (Nat.lt_of_lt_of_le (flt b hb) (hp p hp'))
 have loop:∀ s₃:Shared,s₃ = { s2 with heap:=h₁,toks:=s2.toks } ->
   codeAny (model X.prog X.w) X.A (.compLoop (.ListComp elt [⟨tg,iter,ifs,0⟩] sc pos) 0 (.ref it) (.ref s2.heap.objs.size) (compEnvC sc (cellsFrom (G.objs.size + 1) sc.names (clOf X.env.cells sc.names [])) G.objs.size X.env))
    (RR (.ref s2.heap.objs.size) G.objs.size) s₃:=by
  rintro s₃ rfl
  have I3:=comp_start (own:=own) (fr:=fr) (tk:=s2.toks) S I2 f2 fo hCle (Nat.le_refl _) hDC hns₁ old (fun x c h=>(cok.empty x c h).1) cok.apart hacc (fun v z=>by cases z)
  refine codeAny_compLoop_any (fun n s'=>∃ i H' ys us k τ,Inv (cxComp X own fr sc G.objs.size s2 H2 fp) [(s2.heap.objs.size,{ cls:=.type "list",data:=.seq us.toArray k })] τ H' s' /\ tn i s'.heap /\ (∀ b ∈ fp,H' b = none) /\ Vals ys us /\ ys.length <= sizeLine /\ W i n ys τ H') ?_ m0
   ⟨0,H2,[],[],0,_,I3,st0',fun b hb=>(f2 b hb).1,.nil,Nat.zero_le _,w0⟩
  rintro n s4 ⟨i,H4,ys,us,k,τ,I4,st4,fr4,rv4,hz4,w4⟩
  have hp4:∀ p ∈ [(s2.heap.objs.size,({ cls:=.type "list",data:=.seq us.toArray k }:Obj))],s2.heap.objs.size <= p.1:=fun p hp=>by
   rw [List.mem_singleton.mp hp]
   exact Nat.le_refl _
  rcases turn i n ys τ H4 w4 with ⟨stop,qn⟩ | ⟨go,hlt,N,hN,step⟩
  ·refine thn (T.done (cxComp X own fr sc G.objs.size s2 H2 fp) rfl rfl rfl hc i _ s4 _ H4 (fun _ _=>False) I4 (stt _ hCle fr4 hp4) st4 stop) fun r s5 ⟨hr,I5⟩=>?_
   subst hr
   obtain ⟨a1,a2,a3⟩:=comp_end I2 f2 hCle (Nat.le_refl _) hDC I5 rfl rv4 hz4
   exact hRR _ _ _ s5 a1 (qn _ (I5.pin _ (List.mem_append_right _ (List.mem_singleton.mpr rfl))).2.1) a2 a3
  ·refine thn (T.item (cxComp X own fr sc G.objs.size s2 H2 fp) rfl rfl rfl hc i _ s4 _ H4 (fun _ _=>False) I4 (stt _ hCle fr4 hp4) st4 go) fun r s5 ⟨u,hr,h5⟩=>?_
   subst hr
   refine thn h5 fun _ s6 ⟨x,H6,I6,r6,y6,st6,fr6⟩=>?_
   have I6':=I6.pinned (stt _ hCle fr6 hp4) (T.obj _ _ st6)
   refine thn (hg G.objs.size fp _ s6 _ H6 x u _ I6' r6 (step x H6 y6)) fun _ s7 ⟨σ7,H7,I7,q7⟩=>?_
   refine thn (hif G.objs.size fp _ s7 σ7 H7 _ I7 q7) fun b s8 ⟨H8,I8,q8⟩=>?_
   have again:∀ {s9:Shared} {H9:Hp} {ys':List V} {us':List Value} {k':Nat},Inv (cxComp X own fr sc G.objs.size s2 H2 fp) ([(s2.heap.objs.size,{ cls:=.type "list",data:=.seq us'.toArray k' })] ++ pinsAt fp s6.heap) σ7 H9 s9 -> Vals ys' us' -> ys'.length <= sizeLine -> N ys' σ7 H9 ->
     ∃ m,m < n /\ ∃ i H' ys us k τ,Inv (cxComp X own fr sc G.objs.size s2 H2 fp) [(s2.heap.objs.size,{ cls:=.type "list",data:=.seq us.toArray k })] τ H' s9 /\ tn i s9.heap /\ (∀ b ∈ fp,H' b = none) /\ Vals ys us /\ ys.length <= sizeLine /\ W i m ys τ H':=fun {s9 H9 ys' us' k'} I9 rv9 hz9 n9=>by
    obtain ⟨m',hm,w9⟩:=hN ys' σ7 H9 n9
    refine ⟨m',hm,i + 1,H9,ys',us',k',σ7,I9.unpinned,T.keep _ _ _ st6 fun b hb o e=>(I9.pin (b,o) (List.mem_append_right _ (List.mem_append_right _ (mem_pinsAt hb e)))).1,fun b hb=>?_,rv9,hz9,w9⟩
    obtain ⟨o,e,d⟩:=T.obj _ _ st6 b hb
    exact (I9.pin (b,o) (List.mem_append_right _ (List.mem_append_right _ (mem_pinsAt hb e)))).2.1
   cases b with
   | false =>
    rw [if_neg Bool.false_ne_true] at q8 ⊢
    exact again I8 rv4 hz4 q8
   | true =>
    rw [if_pos rfl] at q8 ⊢
    refine thn (he G.objs.size fp _ s8 σ7 H8 _ I8 q8) fun y s9 ⟨yv,H9,I9,r9,n9⟩=>?_
    refine comp_grow (X:=cxComp X own fr sc G.objs.size s2 H2 fp) I9 (Nat.le_refl _) (fun x c e z=>?_) (fun p hp z=>?_) (by rw [<- rv4.length]; exact hlt) fun k' s10 I10=>?_
    ·rcases clb2 _ x c e with y | y
     ·rw [z] at y
      exact absurd (Nat.lt_of_lt_of_le (Nat.lt_succ_of_le hCle) y) (Nat.lt_irrefl _)
     ·obtain ⟨v,q⟩:=I2.cell x c y
      exact absurd (Nat.lt_of_lt_of_le q.lt (by rw [z]; exact Nat.le_refl _)) (Nat.lt_irrefl _)
    ·have hp:p ∈ ([]:List (Addr × Obj)) ++ pinsAt fp s6.heap:=hp
     rw [List.nil_append] at hp
     have:=flt _ (of_pinsAt hp).1
     rw [z] at this
     exact absurd this (Nat.lt_irrefl _)
    ·exact again I10 (rv4.append (.cons r9 .nil)) (by rw [List.length_append,List.length_singleton]; omega) n9
 exact codeAny_compStart_list (loop _ rfl) (T.self _ 0 _ _ _ st0' (loop _ rfl))
theorem pe_comp {X:Cx} {tg iter elt:Expr} {ifs:List Expr} {sc:Scope} {pos:Pos} {own:List Str} {fr:List Nat} {wi:TI} {g:TG} {tc:TT} {te:TE} (hc:X.calm = true) (S:CompSc X own fr sc) (hi:PI X tg iter wi)
  (hg:∀ C s H ex,PG (cxComp X own fr sc C s H ex) tg g) (hif:∀ C s H ex,PIf (cxComp X own fr sc C s H ex) ifs tc) (he:∀ C s H ex,PE (cxComp X own fr sc C s H ex) elt te)
  (hs:∀ x,foldedSetIterable iter X.env x = pure x:=by intro _; rfl):PE X (.ListComp elt [⟨tg,iter,ifs,0⟩] sc pos) (tComp wi own fr g tc te):=by
 intro pins s σ H Q I h
 rw [eval_ListComp]
 refine wpAny_comprehension_free (use:=none) rfl hs (closure_of fun y hy e=>I.ok.has y.1 (S.free y hy e)) S.kind S.loc (thn (hi pins s σ H _ I h) fun v s1 h1=>thn h1 fun itv s2 h2=>?_)
 obtain ⟨it,fp,tn,J,H2,e,I2,T,st2,f2,W,⟨m0,w0⟩,turn⟩:=h2
 subst e
 refine comp_block (Q:=Q) (RR:=fun acc C=>compPost (model X.prog X.w) X.A X.xe none (EP X pins σ Q) acc C) hc S I2 T st2 f2 (fun C ex=>hg C s2 H2 ex) (fun C ex=>hif C s2 H2 ex) (fun C ex=>he C s2 H2 ex) W m0 w0 turn ?_
 intro D C H' s' I' q ⟨m,hm⟩ fC
 refine ⟨m,hm,fun h' sb=>⟨.ref D,H',?_,rfl,q⟩⟩
 obtain ⟨f0,f1,f2,f3,f4,f5⟩:=fC
 exact I'.turned (t':=s'.toks) (fun b o hb e=>(sb.2 b hb).trans e) f0 f1 f3 f4 f5
theorem ps_setComp {X:Cx} {tg iter elt:Expr} {ifs:List Expr} {sc:Scope} {pos spos py:Pos} {i:Nat} {y:Str} {own:List Str} {fr:List Nat} {wi:TI} {g:TG} {tc:TT} {te:TE} (hN:X.N.Nodup) (hy:X.N[i]? = some y) (hl:X.env.scope.names.lookup y = some .local) (hc:X.calm = true) (S:CompSc X own fr sc) (hi:PI X tg iter wi)
  (hg:∀ C s H ex,PG (cxComp X own fr sc C s H ex) tg g) (hif:∀ C s H ex,PIf (cxComp X own fr sc C s H ex) ifs tc) (he:∀ C s H ex,PE (cxComp X own fr sc C s H ex) elt te)
  (hsw:swapsWith (.ListComp elt [⟨tg,iter,ifs,0⟩] sc pos) (some (.Name y py)) spos.line X.env = pure true:=by rfl)
  (hs:∀ x,foldedSetIterable iter X.env x = pure x:=by intro _; rfl):PS X (.Assign [.Name y py] (.ListComp elt [⟨tg,iter,ifs,0⟩] sc pos) spos) (tAsg (tComp wi own fr g tc te) (gName i)):=by
 intro pins s σ H D I h
 rw [exec_Assign_Name_used _ _ _ _ hsw]
 refine wpAny_bind (wpAny_standAt ?_)
 show wpAny _ _ (evalThenUse (.ListComp elt [⟨tg,iter,ifs,0⟩] sc pos) X.env _ >>= _) _ _ s
 refine wpAny_bind ?_
 unfold evalThenUse
 refine wpAny_bind ?_
 refine wpAny_comprehension_free rfl hs (closure_of fun y hy e=>I.ok.has y.1 (S.free y hy e)) S.kind S.loc (thn (hi pins s σ H _ I h) fun v s1 h1=>thn h1 fun itv s2 h2=>?_)
 obtain ⟨it,fp,tn,J,H2,e,I2,T,st2,f2,W,⟨m0,w0⟩,turn⟩:=h2
 subst e
 refine comp_block (Q:=fun v H1=>D.nx (σ.set i (some v)) H1) hc S I2 T st2 f2 (fun C ex=>hg C s2 H2 ex) (fun C ex=>hif C s2 H2 ex) (fun C ex=>he C s2 H2 ex) W m0 w0 turn ?_
 intro D' C H' s' I' q ⟨m,hm⟩ fC
 obtain ⟨f0,f1,f2,f3,f4,f5⟩:=fC
 show wpAny (model X.prog X.w) X.A (assign (.Name y py) X.env (.ref D')) (fun _ s''=>∃ m,s''.heap.Ns C m /\ ∀ h',Heap.SameBut C s''.heap h' -> _) X.xe s'
 refine wpAny_assign_Name (store_ok2 I' hN hy (.inl hl) (v:=.ref D') rfl (fun s'' I'' hsb=>?_) (.inr hl))
 obtain ⟨a,hsb,ha⟩:=hsb
 have hCa:C ≠ a:=by
  rcases ha with z | z
  ·rw [z]; exact f1
  ·exact fun e=>f4 y a z e.symm
 obtain ⟨m',hm'⟩:∃ m',s''.heap.Ns C m':=⟨m,hm.sameBut hsb hCa⟩
 refine ⟨m',hm',fun h' sb=>wpAny_pure (wpAny_pure ⟨_,H',?_,q⟩)⟩
 exact I''.turned (t':=s''.toks) (fun b o hb e=>(sb.2 b hb).trans e) f0 f1 f3 f4 f5
end L2
namespace L2
open PySem PySem.Spec PyProof.Rows
inductive Kd where | l | t
noncomputable def ItAt (k:Kd) (h:Heap) (it a:Addr) (i:Nat):Prop:=match k with | .l=>h.IsListIter it a i | .t=>h.IsTupleIter it a i
noncomputable def SqAt (k:Kd) (h:Heap) (a:Addr) (xs:Array Value):Prop:=match k with | .l=>h.IsList a xs | .t=>h.IsTuple a xs
noncomputable def itObj (k:Kd) (a:Addr):Obj:=match k with | .l=>{ cls:=.type "list_iterator",data:=.fields #[.ref a,.int 0 0] } | .t=>{ cls:=.type "tuple_iterator",data:=.fields #[.ref a,.int 0 0] }
theorem ItAt.at {k:Kd} {h h':Heap} {it a:Addr} {i:Nat} (x:ItAt k h it a i) (f:∀ o,h.get? it = some o -> h'.get? it = some o):ItAt k h' it a i:=by
 cases k with
 | l=>exact Heap.IsListIter.at x f
 | t=>exact Heap.IsTupleIter.at x f
theorem SqAt.at {k:Kd} {h h':Heap} {a:Addr} {xs:Array Value} (x:SqAt k h a xs) (f:∀ o,h.get? a = some o -> h'.get? a = some o):SqAt k h' a xs:=by
 cases k with
 | l=>exact Heap.IsList.at x f
 | t=>obtain ⟨o,e,r⟩:=x; exact ⟨o,f o e,r⟩
theorem ItAt.obj {k:Kd} {h:Heap} {it a:Addr} {i:Nat} (x:ItAt k h it a i):∃ o,h.get? it = some o /\ ∀ v,o.data ≠ .cell v:=by
 cases k with
 | l=>obtain ⟨o,e,c,d⟩:=x; exact ⟨o,e,fun v z=>by rw [d] at z; cases z⟩
 | t=>obtain ⟨o,e,c,d⟩:=x; exact ⟨o,e,fun v z=>by rw [d] at z; cases z⟩
theorem ItAt.new (k:Kd) {h:Heap} {it a:Addr} (e:h.get? it = some (itObj k a)):ItAt k h it a 0:=by
 cases k with
 | l=>exact ⟨_,e,rfl,rfl⟩
 | t=>exact ⟨_,e,rfl,rfl⟩
section
variable {prog:Program} {w:World} {A:Around} {E:Value -> Shared -> Prop} {s:Shared}
theorem iter_at {k:Kd} {a:Addr} {xs:Array Value} {Q:Value -> Shared -> Prop} (hl:SqAt k s.heap a xs) (h:Q (.ref s.heap.objs.size) { s with heap:=s.heap.push (itObj k a) }):wpAny (model prog w) A (pyIter (.ref a)) Q E s:=by
 cases k with
 | l=>exact wpAny_pyIter_list hl h
 | t=>exact wpAny_pyIter_tuple hl h
theorem nextOf_tuple_item {it t:Addr} {i:Nat} {items} {x:Value} {Q:Value -> Shared -> Prop} (hit:s.heap.IsTupleIter it t i) (ht:s.heap.IsTuple t items) (hx:items[i]? = some x)
  (hQ:∀ h',h'.IsTupleIter it t (i + 1) -> Heap.SameBut it s.heap h' -> Q x { s with heap:=h' }):wpAny (model prog w) A (Builtin.SmallTypes.nextOf (.ref it)) Q E s:=by
 obtain ⟨o,ho,hc,hd⟩:=id hit
 obtain ⟨ol,hol,_,nl,hdl⟩:=ht
 unfold Builtin.SmallTypes.nextOf
 refine wpAny_bind (wpAny_callSpecial?_slot (name:=Str.ofString "__next__") hit.typeIs F.slot_tuple_iterator_next
   (wpAny_call_entry F.slot_tuple_iterator_next hit.typeIs F.entry_tuple_iterator_next ?_ (F.args_tuple_iterator_next_1 _)))
 show wpAny _ _ (field (.ref it) 0 >>= _) _ _ s
 refine wpAny_bind (wpAny_field ho hd (x:=.ref t) rfl ?_)
 show wpAny _ _ (if (Value.ref t == Value.none) = true then _ else _) _ _ s
 rw [if_neg (show ¬ ((Value.ref t == Value.none) = true) from Bool.false_ne_true)]
 show wpAny _ _ (field (.ref it) 1 >>= _) _ _ s
 refine wpAny_bind (wpAny_field ho hd (x:=.int i 0) rfl ?_)
 show wpAny _ _ (seqItems? (.ref t) >>= _) _ _ s
 refine wpAny_bind (wpAny_seqItems hol hdl ?_)
 simp only [Int.toNat_natCast,hx]
 refine wpAny_bind (wpAny_setField ho hd (by simp) (wpAny_pure ⟨x,rfl,wpAny_pure (hQ _ ?_ (Heap.SameBut.update ..))⟩))
 exact ⟨_,Heap.get?_update_self _ ho (Obj.isFreed_of_fields (Obj.data_mapFields hd _)),(Obj.cls_mapFields ..).trans hc,by
   rw [Obj.data_mapFields hd]; simp [rawInt]⟩
theorem nextOf_tuple_end {it l:Addr} {i:Nat} {items} {Q:Value -> Shared -> Prop} (hh:A.handled = none)
  (hit:s.heap.IsTupleIter it l i) (hl:s.heap.IsTuple l items) (hx:items[i]? = none)
  (hE:∀ h' e,Heap.ExtBut it s.heap h' -> (∃ o,h'.get? e = some o /\ o.cls = .type "StopIteration") -> E (.ref e) { s with heap:=h' }) :
  wpAny (model prog w) A (Builtin.SmallTypes.nextOf (.ref it)) Q E s:=by
 obtain ⟨o,ho,hc,hd⟩:=id hit
 obtain ⟨ol,hol,_,nl,hdl⟩:=hl
 unfold Builtin.SmallTypes.nextOf
 refine wpAny_bind (wpAny_callSpecial?_slot (name:=Str.ofString "__next__") hit.typeIs F.slot_tuple_iterator_next
   (wpAny_call_entry F.slot_tuple_iterator_next hit.typeIs F.entry_tuple_iterator_next ?_ (F.args_tuple_iterator_next_1 _)))
 show wpAny _ _ (field (.ref it) 0 >>= _) _ _ s
 refine wpAny_bind (wpAny_field ho hd (x:=.ref l) rfl ?_)
 show wpAny _ _ (if (Value.ref l == Value.none) = true then _ else _) _ _ s
 rw [if_neg (show ¬ ((Value.ref l == Value.none) = true) from Bool.false_ne_true)]
 show wpAny _ _ (field (.ref it) 1 >>= _) _ _ s
 refine wpAny_bind (wpAny_field ho hd (x:=.int i 0) rfl ?_)
 show wpAny _ _ (seqItems? (.ref l) >>= _) _ _ s
 refine wpAny_bind (wpAny_seqItems hol hdl ?_)
 simp only [Int.toNat_natCast,hx]
 refine wpAny_bind (wpAny_rule (wpAny_bind (wpAny_setField ho hd (by simp) ?_)))
 show wpAny _ _ (newExc (.type "StopIteration") [] >>= _) _ _ _
 refine wpAny_bind ?_
 simp only [newExc,newTuple]
 refine wpAny_bind (wpAny_newObj_type ?_ (by size_fits))
 refine wpAny_bind (m:=firstArgMember _ _) (wpAny_of_eq (a:=Value.none) (by first | rfl | (simp only [firstArgMember]; rfl)) ?_)
 refine wpAny_newObj_type ?_ (by size_fits)
 simp only [raiseNew]
 refine wpAny_bind (wpAny_handled ?_)
 first | rw [show A.in1.handled = none from hh] | rw [hh]
 refine wpAny_bind (wpAny_pure (wpAny_throw ?_))
 exact hE _ _ (((Heap.SameBut.update ..).extBut.push _).push _) ⟨_,Heap.get?_push_size _ rfl,rfl⟩
theorem nextOf_item {k:Kd} {it a:Addr} {i:Nat} {xs:Array Value} {x:Value} {Q:Value -> Shared -> Prop} (hit:ItAt k s.heap it a i) (hl:SqAt k s.heap a xs) (hx:xs[i]? = some x)
  (hQ:∀ h',ItAt k h' it a (i + 1) -> Heap.SameBut it s.heap h' -> Q x { s with heap:=h' }):wpAny (model prog w) A (Builtin.SmallTypes.nextOf (.ref it)) Q E s:=by
 cases k with
 | l=>exact wpAny_nextOf_list_item hit hl hx hQ
 | t=>exact nextOf_tuple_item hit hl hx hQ
theorem nextOf_end {k:Kd} {it a:Addr} {i:Nat} {xs:Array Value} {Q:Value -> Shared -> Prop} (hh:A.handled = none) (hit:ItAt k s.heap it a i) (hl:SqAt k s.heap a xs) (hx:xs[i]? = none)
  (hE:∀ h' e,Heap.ExtBut it s.heap h' -> (∃ o,h'.get? e = some o /\ o.cls = .type "StopIteration") -> E (.ref e) { s with heap:=h' }):wpAny (model prog w) A (Builtin.SmallTypes.nextOf (.ref it)) Q E s:=by
 cases k with
 | l=>exact wpAny_nextOf_list_end hh hit hl hx hE
 | t=>exact nextOf_tuple_end hh hit hl hx hE
end
noncomputable abbrev IsTup2 (h:Heap) (T:Addr) (a1 a2:Value):Prop:=h.get? T = some { cls:=.type "tuple",data:=.seq #[a1,a2] }
structure ZAp2 (z TI TO i1 i2 l1 l2:Addr):Prop where
 TIz:TI ≠ z
 TOz:TO ≠ z
 i1z:i1 ≠ z
 i2z:i2 ≠ z
 TOTI:TO ≠ TI
 i1TI:i1 ≠ TI
 i2TI:i2 ≠ TI
 i1TO:i1 ≠ TO
 i2TO:i2 ≠ TO
 i2i1:i2 ≠ i1
 l1z:l1 ≠ z
 l1TO:l1 ≠ TO
 l1i1:l1 ≠ i1
 l1i2:l1 ≠ i2
 l2z:l2 ≠ z
 l2TO:l2 ≠ TO
 l2i1:l2 ≠ i1
 l2i2:l2 ≠ i2
theorem zap2 (n l1 l2:Nat) (h1:l1 < n) (h2:l2 < n):ZAp2 (n + 4) (n + 2) (n + 3) n (n + 1) l1 l2:=by constructor <;> (show ¬ (@Eq Nat _ _)) <;> omega
section
variable {prog:Program} {w:World} {A:Around} {E:Value -> Shared -> Prop} {s:Shared}
theorem upSeq2 {T:Addr} {a1 a2 x:Value} {k:Nat} {Q:Unit -> Shared -> Prop} (hT:IsTup2 s.heap T a1 a2)
  (h:∀ h',h'.get? T = some { cls:=.type "tuple",data:=.seq ((#[a1,a2]:Array Value).setIfInBounds k x) } -> Heap.SameBut T s.heap h' -> Q () { s with heap:=h' }) :
  wpAny (model prog w) A (updateSeq T (·.setIfInBounds k x)) Q E s:=by
 refine wpAny_updateSeq hT rfl (h _ ?_ (Heap.SameBut.update ..))
 rw [Heap.get?_update_self _ hT rfl]
 simp [Obj.mapSeq]
theorem zipn_item2 {z TI TO i1 i2 l1 l2:Addr} {k:Nat} {k1:Kd} {k2:Kd} {xs1 xs2:Array Value} {a1 a2:Value} {x1 x2:Value} {Q:Value -> Shared -> Prop} (D:ZAp2 z TI TO i1 i2 l1 l2)
  (hz:IsZip s.heap z TI TO .none) (hTI:IsTup2 s.heap TI (.ref i1) (.ref i2)) (hTO:IsTup2 s.heap TO a1 a2)
  (h1:ItAt k1 s.heap i1 l1 k) (h2:ItAt k2 s.heap i2 l2 k) (hl1:SqAt k1 s.heap l1 xs1) (hl2:SqAt k2 s.heap l2 xs2) (hx1:xs1[k]? = some x1) (hx2:xs2[k]? = some x2)
  (hQ:∀ h',IsZip h' z TI TO (rawInt s.heap.objs.size) -> IsTup2 h' TO x1 x2 -> ItAt k1 h' i1 l1 (k + 1) -> ItAt k2 h' i2 l2 (k + 1) -> IsTup2 h' s.heap.objs.size x1 x2 -> h'.objs.size = s.heap.objs.size + 1 ->
    (∀ c o,c ≠ z -> c ≠ TO -> c ≠ i1 -> c ≠ i2 -> s.heap.get? c = some o -> h'.get? c = some o) -> Q (.ref s.heap.objs.size) { s with heap:=h' }) :
  wpAny (model prog w) A (Builtin.«zip.__next__» ⟨[.ref z],[]⟩) (fun fin s'=>∃ v,fin = .done (.ret v) /\ Q v s') E s:=by
 show wpAny _ _ (field (.ref z) 2 >>= _) _ _ _
 refine wpAny_bind (wpAny_field hz rfl (x:=.bool false) rfl ?_)
 show wpAny _ _ (field (.ref z) 3 >>= _) _ _ _
 refine wpAny_bind (wpAny_field hz rfl (x:=.ref TI) rfl ?_)
 refine wpAny_bind (wpAny_seqItems hTI rfl ?_)
 show wpAny _ _ (Builtin.SmallTypes.ownedTupleIsFree (.ref z) >>= _) _ _ _
 refine wpAny_bind ?_
 unfold Builtin.SmallTypes.ownedTupleIsFree
 refine wpAny_bind (wpAny_field hz rfl (x:=.none) rfl (wpAny_pure ?_))
 simp only [if_true]
 refine wpAny_bind (wpAny_rule ?_)
 refine wpAny_bind (wpAny_field hz rfl (x:=.ref TO) rfl ?_)
 refine wpAny_bind (wpAny_setField_rec hz (by simp) fun h₁ hz₁ hs₁=>?_)
 replace hz₁:IsZip h₁ z TI TO .ellipsis:=hz₁
 refine wpAny_bind ?_
 simp only [List.zipIdx_cons,List.zipIdx_nil,List.forIn_cons,List.forIn_nil]
 have up₁:∀ c o,c ≠ z -> s.heap.get? c = some o -> h₁.get? c = some o:=fun c o c1 e=>hs₁.extBut _ _ c1 e
 refine wpAny_bind (wpAny_bind (wpAny_onRaise ?_))
 show wpAny _ _ (Builtin.SmallTypes.nextOf (.ref i1) >>= _) _ _ _
 refine wpAny_bind (nextOf_item (h1.at fun o e=>hs₁.extBut _ o D.i1z e) (hl1.at fun o e=>hs₁.extBut _ o D.l1z e) hx1 fun ha1 hi1 hsa1=>wpAny_pure ?_)
 have hTOa1:IsTup2 ha1 TO a1 a2:=hsa1.extBut _ _ D.i1TO.symm (hs₁.extBut _ _ D.TOz hTO)
 refine wpAny_bind (wpAny_seqItems hTOa1 rfl ?_)
 refine wpAny_bind (upSeq2 hTOa1 fun hb1 hTOb1 hsb1=>?_)
 replace hTOb1:IsTup2 hb1 TO x1 a2:=hTOb1
 refine wpAny_bind (wpAny_letGo (wpAny_pure ?_))
 refine wpAny_bind (wpAny_bind (wpAny_onRaise ?_))
 show wpAny _ _ (Builtin.SmallTypes.nextOf (.ref i2) >>= _) _ _ _
 refine wpAny_bind (nextOf_item (((h2.at fun o e=>hs₁.extBut _ o D.i2z e).at fun o e=>hsa1.extBut _ o D.i2i1 e).at fun o e=>hsb1.extBut _ o D.i2TO e) (((hl2.at fun o e=>hs₁.extBut _ o D.l2z e).at fun o e=>hsa1.extBut _ o D.l2i1 e).at fun o e=>hsb1.extBut _ o D.l2TO e) hx2 fun ha2 hi2 hsa2=>wpAny_pure ?_)
 have hTOa2:IsTup2 ha2 TO x1 a2:=hsa2.extBut _ _ D.i2TO.symm hTOb1
 refine wpAny_bind (wpAny_seqItems hTOa2 rfl ?_)
 refine wpAny_bind (upSeq2 hTOa2 fun hb2 hTOb2 hsb2=>?_)
 replace hTOb2:IsTup2 hb2 TO x1 x2:=hTOb2
 refine wpAny_bind (wpAny_letGo (wpAny_pure (wpAny_pure ?_)))
 refine wpAny_bind (wpAny_seqItems hTOb2 rfl ?_)
 refine wpAny_bind (wpAny_newTuple ?_)
 have hsz:hb2.objs.size = s.heap.objs.size:=by rw [hsb2.1,hsa2.1,hsb1.1,hsa1.1,hs₁.1]
 have hzG:IsZip hb2 z TI TO .ellipsis:=(hsb2.extBut _ _ D.TOz.symm (hsa2.extBut _ _ D.i2z.symm (hsb1.extBut _ _ D.TOz.symm (hsa1.extBut _ _ D.i1z.symm hz₁))))
 have hkG:∀ c o,c ≠ z -> c ≠ TO -> c ≠ i1 -> c ≠ i2 -> s.heap.get? c = some o -> hb2.get? c = some o:=fun c o c1 c2 d1 d2 e=>(hsb2.extBut _ _ c2 (hsa2.extBut _ _ d2 (hsb1.extBut _ _ c2 (hsa1.extBut _ _ d1 (hs₁.extBut _ _ c1 e)))))
 have hiG1:ItAt k1 hb2 i1 l1 (k + 1):=(((hi1.at fun o e=>hsb1.extBut _ o D.i1TO e).at fun o e=>hsa2.extBut _ o D.i2i1.symm e).at fun o e=>hsb2.extBut _ o D.i1TO e)
 have hiG2:ItAt k2 hb2 i2 l2 (k + 1):=(hi2.at fun o e=>hsb2.extBut _ o D.i2TO e)
 have hzlt:z < hb2.objs.size:=Heap.lt_size hzG
 show wpAny _ _ (Builtin.SmallTypes.ownedTupleHandOut (.ref z) (.ref hb2.objs.size) >>= _) _ _ _
 refine wpAny_bind ?_
 unfold Builtin.SmallTypes.ownedTupleHandOut
 have hz₆:IsZip (hb2.push { cls:=.type "tuple",data:=.seq #[x1,x2] }) z TI TO .ellipsis:=Heap.get?_push_of_some _ hzG
 refine wpAny_bind (wpAny_setField_rec hz₆ (by simp) fun h₇ hz₇ hs₇=>?_)
 replace hz₇:IsZip h₇ z TI TO (rawInt hb2.objs.size):=hz₇
 refine wpAny_setField_rec hz₇ (by simp) fun h₈ hz₈ hs₈=>?_
 replace hz₈:IsZip h₈ z TI TO (rawInt hb2.objs.size):=hz₈
 have up:∀ c o,c ≠ z -> hb2.get? c = some o -> h₈.get? c = some o:=fun c o c1 e=>hs₈.extBut _ _ c1 (hs₇.extBut _ _ c1 (Heap.get?_push_of_some _ e))
 have hT₈:IsTup2 h₈ hb2.objs.size x1 x2:=hs₈.extBut _ _ (Nat.ne_of_gt hzlt) (hs₇.extBut _ _ (Nat.ne_of_gt hzlt) (Heap.get?_push_size _ rfl))
 have hz8:h₈.objs.size = hb2.objs.size + 1:=by rw [hs₈.1,hs₇.1,Heap.size_push]
 rw [hsz] at hz₈ hT₈ hz8
 refine wpAny_pure ⟨_,rfl,?_⟩
 show Q (.ref hb2.objs.size) _
 rw [hsz]
 exact hQ h₈ hz₈ (up _ _ D.TOz hTOb2) (hiG1.at fun o e=>up _ o D.i1z e) (hiG2.at fun o e=>up _ o D.i2z e) hT₈ hz8 fun c o c1 c2 d1 d2 e=>up c o c1 (hkG c o c1 c2 d1 d2 e)
theorem zipn_end2 {z TI TO i1 i2 l1 l2:Addr} {k:Nat} {k1:Kd} {k2:Kd} {xs1 xs2:Array Value} {a1 a2:Value} {Q:Fin -> Shared -> Prop} (hh:A.handled = none) (D:ZAp2 z TI TO i1 i2 l1 l2)
  (hz:IsZip s.heap z TI TO .none) (hTI:IsTup2 s.heap TI (.ref i1) (.ref i2)) (hTO:IsTup2 s.heap TO a1 a2)
  (h1:ItAt k1 s.heap i1 l1 k) (h2:ItAt k2 s.heap i2 l2 k) (hl1:SqAt k1 s.heap l1 xs1) (hl2:SqAt k2 s.heap l2 xs2) (hend:xs1[k]? = none \/ xs2[k]? = none)
  (hE:∀ h' e,(∀ c o,c ≠ z -> c ≠ TO -> c ≠ i1 -> c ≠ i2 -> s.heap.get? c = some o -> h'.get? c = some o) -> (∃ o,h'.get? e = some o /\ o.cls = .type "StopIteration") -> E (.ref e) { s with heap:=h' }) :
  wpAny (model prog w) A (Builtin.«zip.__next__» ⟨[.ref z],[]⟩) Q E s:=by
 show wpAny _ _ (field (.ref z) 2 >>= _) _ _ _
 refine wpAny_bind (wpAny_field hz rfl (x:=.bool false) rfl ?_)
 show wpAny _ _ (field (.ref z) 3 >>= _) _ _ _
 refine wpAny_bind (wpAny_field hz rfl (x:=.ref TI) rfl ?_)
 refine wpAny_bind (wpAny_seqItems hTI rfl ?_)
 show wpAny _ _ (Builtin.SmallTypes.ownedTupleIsFree (.ref z) >>= _) _ _ _
 refine wpAny_bind ?_
 unfold Builtin.SmallTypes.ownedTupleIsFree
 refine wpAny_bind (wpAny_field hz rfl (x:=.none) rfl (wpAny_pure ?_))
 simp only [if_true]
 refine wpAny_bind (wpAny_rule ?_)
 refine wpAny_bind (wpAny_field hz rfl (x:=.ref TO) rfl ?_)
 refine wpAny_bind (wpAny_setField_rec hz (by simp) fun h₁ hz₁ hs₁=>?_)
 replace hz₁:IsZip h₁ z TI TO .ellipsis:=hz₁
 refine wpAny_bind ?_
 simp only [List.zipIdx_cons,List.zipIdx_nil,List.forIn_cons,List.forIn_nil]
 refine wpAny_bind (wpAny_bind (wpAny_onRaise ?_))
 show wpAny _ _ (Builtin.SmallTypes.nextOf (.ref i1) >>= _) _ _ _
 cases hx1:xs1[k]? with
 | none =>
  refine wpAny_bind (nextOf_end hh (h1.at fun o e=>hs₁.extBut _ o D.i1z e) (hl1.at fun o e=>hs₁.extBut _ o D.l1z e) hx1 fun hq e hsq he=>?_)
  obtain ⟨oe,hoe,hce⟩:=he
  have hzq:IsZip hq z TI TO .ellipsis:=hsq _ _ D.i1z.symm hz₁
  have hez:e ≠ z:=fun x=>by subst x; rw [hzq] at hoe; cases hoe; simp at hce
  refine wpAny_setField_rec hzq (by simp) fun h₉ _ hs₉=>hE h₉ e (fun c o c1 c2 d1 d2 x=>hs₉.extBut _ _ c1 (hsq _ _ d1 (hs₁.extBut _ _ c1 x))) ⟨oe,hs₉.extBut _ _ hez hoe,hce⟩
 | some x1 =>
  refine wpAny_bind (nextOf_item (h1.at fun o e=>hs₁.extBut _ o D.i1z e) (hl1.at fun o e=>hs₁.extBut _ o D.l1z e) hx1 fun ha1 hi1 hsa1=>wpAny_pure ?_)
  have hTOa1:IsTup2 ha1 TO a1 a2:=hsa1.extBut _ _ D.i1TO.symm (hs₁.extBut _ _ D.TOz hTO)
  refine wpAny_bind (wpAny_seqItems hTOa1 rfl ?_)
  refine wpAny_bind (upSeq2 hTOa1 fun hb1 hTOb1 hsb1=>?_)
  replace hTOb1:IsTup2 hb1 TO x1 a2:=hTOb1
  refine wpAny_bind (wpAny_letGo (wpAny_pure ?_))
  refine wpAny_bind (wpAny_bind (wpAny_onRaise ?_))
  show wpAny _ _ (Builtin.SmallTypes.nextOf (.ref i2) >>= _) _ _ _
  have hx2:xs2[k]? = none:=by
   rcases hend with h | h
   ·rw [hx1] at h; cases h
   ·exact h
  refine wpAny_bind (nextOf_end hh (((h2.at fun o e=>hs₁.extBut _ o D.i2z e).at fun o e=>hsa1.extBut _ o D.i2i1 e).at fun o e=>hsb1.extBut _ o D.i2TO e) (((hl2.at fun o e=>hs₁.extBut _ o D.l2z e).at fun o e=>hsa1.extBut _ o D.l2i1 e).at fun o e=>hsb1.extBut _ o D.l2TO e) hx2 fun hq e hsq he=>?_)
  obtain ⟨oe,hoe,hce⟩:=he
  have hzq:IsZip hq z TI TO .ellipsis:=hsq _ _ D.i2z.symm (hsb1.extBut _ _ D.TOz.symm (hsa1.extBut _ _ D.i1z.symm hz₁))
  have hez:e ≠ z:=fun x=>by subst x; rw [hzq] at hoe; cases hoe; simp at hce
  refine wpAny_setField_rec hzq (by simp) fun h₉ _ hs₉=>hE h₉ e (fun c o c1 c2 d1 d2 x=>hs₉.extBut _ _ c1 (hsq _ _ d2 (hsb1.extBut _ _ c2 (hsa1.extBut _ _ d1 (hs₁.extBut _ _ c1 x))))) ⟨oe,hs₉.extBut _ _ hez hoe,hce⟩
theorem next_zip_item2 {z TI TO i1 i2 l1 l2:Addr} {k:Nat} {k1:Kd} {k2:Kd} {xs1 xs2:Array Value} {a1 a2:Value} {x1 x2:Value} {Q:Option Value -> Shared -> Prop} (D:ZAp2 z TI TO i1 i2 l1 l2)
  (hz:IsZip s.heap z TI TO .none) (hTI:IsTup2 s.heap TI (.ref i1) (.ref i2)) (hTO:IsTup2 s.heap TO a1 a2)
  (h1:ItAt k1 s.heap i1 l1 k) (h2:ItAt k2 s.heap i2 l2 k) (hl1:SqAt k1 s.heap l1 xs1) (hl2:SqAt k2 s.heap l2 xs2) (hx1:xs1[k]? = some x1) (hx2:xs2[k]? = some x2)
  (hQ:∀ h',IsZip h' z TI TO (rawInt s.heap.objs.size) -> IsTup2 h' TO x1 x2 -> ItAt k1 h' i1 l1 (k + 1) -> ItAt k2 h' i2 l2 (k + 1) -> IsTup2 h' s.heap.objs.size x1 x2 -> h'.objs.size = s.heap.objs.size + 1 ->
    (∀ c o,c ≠ z -> c ≠ TO -> c ≠ i1 -> c ≠ i2 -> s.heap.get? c = some o -> h'.get? c = some o) -> Q (some (.ref s.heap.objs.size)) { s with heap:=h' }) :
  wpAny (model prog w) A (pyNext (.ref z)) Q E s:=by
 have hT:s.TypeIs (.ref z) "zip":=⟨_,hz,rfl⟩
 unfold pyNext
 exact wpAny_bind (wpAny_attempt (wpAny_callSpecial?_slot (name:=Str.ofString "__next__") hT F.slot_zip_next
   (wpAny_call_entry F.slot_zip_next hT F.entry_zip_next
     (zipn_item2 D hz hTI hTO h1 h2 hl1 hl2 hx1 hx2 fun h' a1 a2 b1 b2 a5 a6 a7=>wpAny_pure (hQ h' a1 a2 b1 b2 a5 a6 a7)) (F.args_zip_next_1 _))))
theorem next_zip_end2 {z TI TO i1 i2 l1 l2:Addr} {k:Nat} {k1:Kd} {k2:Kd} {xs1 xs2:Array Value} {a1 a2:Value} {Q:Option Value -> Shared -> Prop} (hh:A.handled = none) (D:ZAp2 z TI TO i1 i2 l1 l2)
  (hz:IsZip s.heap z TI TO .none) (hTI:IsTup2 s.heap TI (.ref i1) (.ref i2)) (hTO:IsTup2 s.heap TO a1 a2)
  (h1:ItAt k1 s.heap i1 l1 k) (h2:ItAt k2 s.heap i2 l2 k) (hl1:SqAt k1 s.heap l1 xs1) (hl2:SqAt k2 s.heap l2 xs2) (hend:xs1[k]? = none \/ xs2[k]? = none)
  (hQ:∀ h',(∀ c o,c ≠ z -> c ≠ TO -> c ≠ i1 -> c ≠ i2 -> s.heap.get? c = some o -> h'.get? c = some o) -> Q none { s with heap:=h' }):wpAny (model prog w) A (pyNext (.ref z)) Q E s:=by
 have hT:s.TypeIs (.ref z) "zip":=⟨_,hz,rfl⟩
 unfold pyNext
 refine wpAny_bind (wpAny_attempt (wpAny_callSpecial?_slot (name:=Str.ofString "__next__") hT F.slot_zip_next
   (wpAny_call_entry F.slot_zip_next hT F.entry_zip_next (zipn_end2 hh D hz hTI hTO h1 h2 hl1 hl2 hend fun h' e hk he=>?_) (F.args_zip_next_1 _))))
 obtain ⟨o,ho,hc⟩:=he
 refine wpAny_bind (wpAny_isInstance (T:="StopIteration") (b:=true) ⟨o,ho,hc⟩ isSubtype_stop ?_)
 exact wpAny_pure (hQ _ hk)
end
noncomputable abbrev zh2I (h:Heap) (k1:Kd) (k2:Kd) (l1 l2:Addr):Heap:=((h.push (itObj k1 l1)).push (itObj k2 l2))
noncomputable abbrev zh2T (h:Heap) (k1:Kd) (k2:Kd) (l1 l2:Addr):Heap:=(zh2I h k1 k2 l1 l2).push { cls:=.type "tuple",data:=.seq #[.ref h.objs.size,.ref (h.push (itObj k1 l1)).objs.size] }
noncomputable abbrev zh2O (h:Heap) (k1:Kd) (k2:Kd) (l1 l2:Addr):Heap:=(zh2T h k1 k2 l1 l2).push { cls:=.type "tuple",data:=.seq #[.none,.none] }
noncomputable abbrev zh2Z (h:Heap) (k1:Kd) (k2:Kd) (l1 l2:Addr):Heap:=(zh2O h k1 k2 l1 l2).push { cls:=.type "zip",data:=.fields #[.none,.bool false,.bool false,.ref (zh2I h k1 k2 l1 l2).objs.size,.ref (zh2T h k1 k2 l1 l2).objs.size] }
theorem zip_new2 (k1:Kd) (k2:Kd) (l1 l2:Addr) (xs1 xs2:Array Value) :
  Meets (Builtin.«zip.__new__» ⟨[.type "zip",.ref l1,.ref l2],[]⟩) (fun _ R s=>SqAt k1 s.heap l1 xs1 /\ SqAt k2 s.heap l2 xs2 /\
    R (.ok (.ret (.ref (zh2O s.heap k1 k2 l1 l2).objs.size))) { s with heap:=zh2Z s.heap k1 k2 l1 l2 }) :=
 .of_wp fun prog w A R s h=>by
  obtain ⟨hp,g,d,tk,os⟩:=s; obtain ⟨hl1,hl2,h⟩:=h
  have hsub:=sub_zip
  have hL1:SqAt k1 (Shared.heap ⟨hp,g,d,tk,os⟩) l1 xs1:=hl1
  have hL2:SqAt k2 (Shared.heap ⟨(hp.push (itObj k1 l1)),g,d,tk,os⟩) l2 xs2:=(SqAt.at hl2 fun o e=>Heap.get?_push_of_some _ e)
  wp_walk using iter_at hL1,iter_at hL2
  exact ⟨_,rfl,h⟩
structure ZAp3 (z TI TO i1 i2 i3 l1 l2 l3:Addr):Prop where
 TIz:TI ≠ z
 TOz:TO ≠ z
 i1z:i1 ≠ z
 i2z:i2 ≠ z
 i3z:i3 ≠ z
 TOTI:TO ≠ TI
 i1TI:i1 ≠ TI
 i2TI:i2 ≠ TI
 i3TI:i3 ≠ TI
 i1TO:i1 ≠ TO
 i2TO:i2 ≠ TO
 i3TO:i3 ≠ TO
 i2i1:i2 ≠ i1
 i3i1:i3 ≠ i1
 i3i2:i3 ≠ i2
 l1z:l1 ≠ z
 l1TO:l1 ≠ TO
 l1i1:l1 ≠ i1
 l1i2:l1 ≠ i2
 l1i3:l1 ≠ i3
 l2z:l2 ≠ z
 l2TO:l2 ≠ TO
 l2i1:l2 ≠ i1
 l2i2:l2 ≠ i2
 l2i3:l2 ≠ i3
 l3z:l3 ≠ z
 l3TO:l3 ≠ TO
 l3i1:l3 ≠ i1
 l3i2:l3 ≠ i2
 l3i3:l3 ≠ i3
section
variable {prog:Program} {w:World} {A:Around} {E:Value -> Shared -> Prop} {s:Shared}
end
end L2
namespace L2
open PySem PySem.Spec PyProof.Rows
inductive Ki where | non | bl | int | str | lst | tup | dct
 deriving DecidableEq
noncomputable def Ki.nm:Ki -> String
 | .non=>"NoneType" | .bl=>"bool" | .int=>"int" | .str=>"str" | .lst=>"list" | .tup=>"tuple" | .dct=>"dict"
noncomputable def KiOf (K:PySem.W.Frag) (H:Hp):V -> Ki -> Prop
 | .non,k=>k = .non
 | .bl _,k=>k = .bl
 | .int _,k=>k = .int
 | .str _,k=>k = .str
 | .ref a,k=>(k = .lst /\ ∃ xs,SqL K H a xs) \/ (k = .tup /\ ∃ xs,SqT K H a xs) \/ (k = .dct /\ ((∃ kvs,H a = some (.dK kvs)) \/ ∃ kvs,H a = some (.dT kvs)))
 | _,_=>False
noncomputable def Ki.sub:Ki -> Ki -> Bool
 | .bl,.int=>true
 | a,b=>decide (a = b)
theorem KiOf.typeIs {X:Cx} {pins:List (Addr × Obj)} {σ:St} {H:Hp} {s:Shared} {x:V} {u:Value} {k:Ki} (I:Inv X pins σ H s) (h:KiOf X.K H x k) (r:RelV x u):s.TypeIs u k.nm:=by
 cases x with
 | non=>cases h; cases r; rfl
 | bl b=>cases h; cases r; rfl
 | int i=>cases h; obtain ⟨t,rfl⟩:=r; rfl
 | str i=>cases h; obtain ⟨t,rfl⟩:=r; rfl
 | ref a =>
  cases r
  rcases h with ⟨rfl,xs,hq⟩ | ⟨rfl,xs,hq⟩ | ⟨rfl,⟨kvs,hq⟩ | ⟨kvs,hq⟩⟩
  ·obtain ⟨its,_,⟨o,n,e,c,_⟩,_⟩:=I.list hq
   exact ⟨o,e,c⟩
  ·obtain ⟨its,_,⟨o,e,c,_⟩,_⟩:=I.tuple hq
   exact ⟨o,e,c⟩
  ·obtain ⟨_,_,_,_,o,es,ep,e,c,_⟩:=I.hok a _ hq
   exact ⟨o,e,c.1⟩
  ·obtain ⟨_,_,_,_,o,es,ep,e,c,_⟩:=I.hok a _ hq
   exact ⟨o,e,c.1⟩
 | byt _=>cases h
 | flt _=>cases h
 | ty _=>cases h
theorem ki_meta (T:Ki):typeOf (.type T.nm) = pure (.type "type"):=by
 cases T
 ·exact F.isi_meta_NoneType
 ·exact F.isi_meta_bool
 ·exact F.isi_meta_int
 ·exact F.isi_meta_str
 ·exact F.isi_meta_list
 ·exact F.isi_meta_tuple
 ·exact F.isi_meta_dict
theorem ki_sub (k T:Ki):isSubtype (.type k.nm) (.type T.nm) = pure (k.sub T):=by
 cases k <;> cases T <;> (show isSubtype (.type _) (.type _) = pure _; rw [isSubtype_type]; kernel_rfl)
theorem ki_ne (k T:Ki) (h:k.sub T = false):(Value.type k.nm == Value.type T.nm) = false:=by
 cases k <;> cases T <;> first | (exfalso; revert h; decide) | decide +kernel
noncomputable def rIsi (K:PySem.W.Frag):List V -> Hp -> VK -> Prop:=fun xs H Q=>∃ (x:V) (k:Ki) (T:Ki),xs = [x,.ty T.nm] /\ KiOf K H x k /\ Q (.bl (k.sub T)) H
theorem call_isi {X:Cx}:CallR X (.builtin "isinstance") (rIsi X.K):=by
 intro pins s σ H xs us Q I r h
 obtain ⟨x,k,T,rfl,hk,q⟩:=h
 obtain ⟨u,w',rfl,ru,rw'⟩:=vals2 r
 obtain rfl:w' = .type T.nm:=rw'
 have ht:=hk.typeIs I ru
 cases hs:k.sub T with
 | true =>
  rw [hs] at q
  exact call_isinstance (isinstance_true (Tx:=k.nm) (ki_meta T) (by rw [ki_sub,hs])) ⟨ht,.bl true,H,I,rfl,q⟩
 | false =>
  rw [hs] at q
  have hsub:isSubtype (.type k.nm) (.type T.nm) = pure false:=by rw [ki_sub,hs]
  have hne:=ki_ne k T hs
  have fin:EP X pins σ Q (.bool false) { s with toks:=s.toks + 1 }:=⟨.bl false,H,I.tok _,rfl,q⟩
  cases x with
  | non=>cases hk; cases ru; exact call_isinstance (isinstance_false_none hne (ki_meta T) hsub) fin
  | bl b=>cases hk; cases ru; exact call_isinstance (isinstance_false_bool hne (ki_meta T) hsub) fin
  | int i=>cases hk; obtain ⟨t,rfl⟩:=ru; exact call_isinstance (isinstance_false_int hne (ki_meta T) hsub) fin
  | str i=>cases hk; obtain ⟨t,rfl⟩:=ru; exact call_isinstance (isinstance_false_str hne (ki_meta T) hsub) fin
  | ref a =>
   cases ru
   rcases hk with ⟨rfl,_⟩ | ⟨rfl,_⟩ | ⟨rfl,_⟩
   ·exact call_isinstance (isinstance_false_list hne (ki_meta T) hsub) ⟨ht,fin⟩
   ·exact call_isinstance (isinstance_false_tuple hne (ki_meta T) hsub) ⟨ht,fin⟩
   ·exact call_isinstance (isinstance_false_dict hne (ki_meta T) hsub) ⟨ht,fin⟩
  | byt _=>cases hk
  | flt _=>cases hk
  | ty _=>cases hk
noncomputable def rAll (K:PySem.W.Frag):List V -> Hp -> VK -> Prop:=fun xs H Q=>∃ (a:Addr) (bs:List Bool),xs = [.ref a] /\ SqL K H a (bs.map V.bl) /\ Q (.bl (bs.all id)) H
theorem vals_boolAt {bs:List Bool} {us:List Value} (r:Vals (bs.map V.bl) us) (i:Nat) (v:Value) (h:us[i]? = some v):∃ b,bs[i]? = some b /\ v = .bool b:=by
 cases e:bs[i]? with
 | none =>
  have h1:(bs.map V.bl)[i]? = none:=by rw [List.getElem?_map,e]; rfl
  rw [r.none_of h1] at h
  cases h
 | some b =>
  obtain ⟨u,hu,ru⟩:=r.get (i:=i) (x:=.bl b) (by rw [List.getElem?_map,e]; rfl)
  rw [hu] at h
  cases h
  exact ⟨b,rfl,ru⟩
theorem all_range_bs (bs:List Bool):((List.range bs.length).all fun i=>(bs[i]?).getD true) = bs.all id:=by
 rw [Bool.eq_iff_iff,List.all_eq_true,List.all_eq_true]
 constructor
 ·intro h b hb
  obtain ⟨i,hi,e⟩:=List.mem_iff_getElem.mp hb
  have:=h i (List.mem_range.mpr hi)
  rw [List.getElem?_eq_getElem hi,Option.getD_some,e] at this
  exact this
 ·intro h i hi
  have hi:=List.mem_range.mp hi
  rw [List.getElem?_eq_getElem hi,Option.getD_some]
  exact h _ (List.getElem_mem hi)
theorem call_all {X:Cx} (hc:X.calm = true):CallR X (.builtin "all") (rAll X.K):=by
 intro pins s σ H xs us Q I r h
 obtain ⟨a,bs,rfl,hq,q⟩:=h
 obtain ⟨u,rfl,ru⟩:=vals1 r
 cases ru
 obtain ⟨its,rv,p,hz⟩:=I.list hq
 have hl:=p.isList
 have hlt:a < s.heap.objs.size:=by obtain ⟨_,e,_⟩:=hl; exact Heap.lt_size e
 refine call_all_walk (wpAny_pyIter_list hl ?_)
 refine ⟨s.heap.objs.size,[s.heap.objs.size,a],[s.heap.objs.size],its.toArray.size,_,_,fun i=>(bs[i]?).getD true,rfl,Walks.list (A:=X.A.in1) (I.ok.hd hc) _ a (Nat.ne_of_lt hlt) its.toArray,
   ⟨⟨_,Heap.get?_push_size _ rfl,rfl,rfl⟩,hl.push _⟩,fun i v s' Q' E' hP hQ=>?_,fun h' tk hk=>?_⟩
 ·obtain ⟨b,e,rfl⟩:=vals_boolAt rv i v (by simpa using hP)
  simp only [e,Option.getD_some] at hQ
  exact wpAny_truthy_bool hQ
 ·have e:((List.range its.toArray.size).all fun i=>(bs[i]?).getD true) = bs.all id:=by
   have hl2:=rv.length
   rw [List.length_map] at hl2
   rw [List.size_toArray,<- hl2]; exact all_range_bs bs
  rw [e]
  refine ⟨.bl (bs.all id),H,I.kept (h':=h') (t':=tk) fun b o eo=>hk b o (fun hm=>?_) (Heap.get?_push_of_some _ eo),rfl,q⟩
  rw [List.mem_singleton.mp hm] at eo
  exact Nat.lt_irrefl _ (Heap.lt_size eo)
noncomputable def Sq (k:Kd) (K:PySem.W.Frag) (H:Hp) (a:Addr) (xs:List V):Prop:=match k with | .l=>SqL K H a xs | .t=>SqT K H a xs
theorem Inv.sq {X:Cx} {pins:List (Addr × Obj)} {σ:St} {H:Hp} {s:Shared} {k:Kd} {a:Addr} {xs:List V} (I:Inv X pins σ H s) (h:Sq k X.K H a xs):∃ its:List Value,Vals xs its /\ SqAt k s.heap a its.toArray /\ xs.length <= sizeLine:=by
 cases k with
 | l=>obtain ⟨its,r,p,z⟩:=I.list h; exact ⟨its,r,p.isList,z⟩
 | t=>obtain ⟨its,r,p,z⟩:=I.tuple h; exact ⟨its,r,p,z⟩
theorem Inv.sq_inj {X:Cx} {pins:List (Addr × Obj)} {σ:St} {H:Hp} {s:Shared} {k:Kd} {a:Addr} {xs ys:List V} (I:Inv X pins σ H s) (h:Sq k X.K H a xs) (h':Sq k X.K H a ys):xs = ys:=by
 cases k with
 | l=>exact I.list_inj h h'
 | t=>exact I.tuple_inj h h'
noncomputable def Itz2 (K:PySem.W.Frag) (k1:Kd) (k2:Kd) (l1 l2:Addr):It :=
 ⟨fun i H=>∃ ys1 x1 ys2 x2,Sq k1 K H l1 ys1 /\ Sq k2 K H l2 ys2 /\ ys1[i]? = some x1 /\ ys2[i]? = some x2,
  fun i H x H'=>∃ T x1 x2,H T = none /\ x = .ref T /\ H' = upd H T (.tup [x1,x2]) /\ (∀ ys,Sq k1 K H l1 ys -> ys[i]? = some x1) /\ (∀ ys,Sq k2 K H l2 ys -> ys[i]? = some x2),
  fun i H=>∃ ys1 ys2,Sq k1 K H l1 ys1 /\ Sq k2 K H l2 ys2 /\ (ys1.length <= i \/ ys2.length <= i)⟩
theorem turn_zip2 {P:Program} {w:World} {K:PySem.W.Frag} {es:List Expr} {kk:Nat} {pos:Pos} (k1:Kd) (k2:Kd) (z TI TO i1 i2 l1 l2:Addr) (D:ZAp2 z TI TO i1 i2 l1 l2):Turn P w K (.Tuple es kk pos) (Itz2 K k1 k2 l1 l2) [z,TI,TO,i1,i2] z
  (fun i h=>IsZip h z TI TO .none /\ IsTup2 h TI (.ref i1) (.ref i2) /\ (∃ a1 a2,IsTup2 h TO a1 a2) /\ ItAt k1 h i1 l1 i /\ ItAt k2 h i2 l2 i) where
 mem:=by simp
 obj:=fun i h st b hb=>by
  obtain ⟨hz,hTI,⟨a1,a2,hTO⟩,t1,t2⟩:=st
  have hb:b = z \/ b = TI \/ b = TO \/ b = i1 \/ b = i2:=by simpa using hb
  rcases hb with rfl | rfl | rfl | rfl | rfl
  ·exact ⟨_,hz,fun v e=>by cases e⟩
  ·exact ⟨_,hTI,fun v e=>by cases e⟩
  ·exact ⟨_,hTO,fun v e=>by cases e⟩
  ·exact t1.obj
  ·exact t2.obj
 keep:=fun i h h' st k=>by
  obtain ⟨hz,hTI,⟨a1,a2,hTO⟩,t1,t2⟩:=st
  exact ⟨k _ (by simp) _ hz,k _ (by simp) _ hTI,⟨a1,a2,k _ (by simp) _ hTO⟩,t1.at fun o e=>k _ (by simp) _ e,t2.at fun o e=>k _ (by simp) _ e⟩
 item:=by
  intro X hP hw hK hc i pins s σ H E I hf st hg
  subst hP hw hK
  obtain ⟨hz,hTI,⟨a1,a2,hTO⟩,t1,t2⟩:=st
  obtain ⟨ys1,x1,ys2,x2,q1,q2,e1,e2⟩:=hg
  obtain ⟨its1,rv1,p1,z1⟩:=I.sq q1
  obtain ⟨u1,hu1,ru1⟩:=rv1.get e1
  obtain ⟨its2,rv2,p2,z2⟩:=I.sq q2
  obtain ⟨u2,hu2,ru2⟩:=rv2.get e2
  refine next_zip_item2 D hz hTI hTO t1 t2 p1 p2 (show its1.toArray[i]? = some u1 by simpa using hu1) (show its2.toArray[i]? = some u2 by simpa using hu2) fun h' b1 b2 c1 c2 b5 b6 b7=>?_
  have hTn:s.heap.objs.size ≠ z:=Nat.ne_of_gt (Heap.lt_size hz)
  refine ⟨_,rfl,wpAny_letOwnedTupleGo_zip (s:={ s with heap:=h' }) b1 fun h2 hz2 hs2=>?_⟩
  have kp:∀ b o,b ∉ [z,TI,TO,i1,i2] -> s.heap.get? b = some o -> h2.get? b = some o:=fun b o hb e=>by
   have hb:b ≠ z /\ b ≠ TI /\ b ≠ TO /\ b ≠ i1 /\ b ≠ i2:=by simpa using hb
   obtain ⟨g1,g2,g3,f1,f2⟩:=hb
   exact hs2.extBut _ _ g1 (b7 b o g1 g3 f1 f2 e)
  have hTI2:IsTup2 h2 TI (.ref i1) (.ref i2):=hs2.extBut _ _ D.TIz (b7 TI _ D.TIz (Ne.symm D.TOTI) (Ne.symm D.i1TI) (Ne.symm D.i2TI) hTI)
  have hT2:IsTup2 h2 s.heap.objs.size u1 u2:=hs2.extBut _ _ hTn b5
  have hfr:H s.heap.objs.size = none:=I.hok.fresh (Nat.le_refl _)
  have I2:Inv X pins σ (upd H s.heap.objs.size (.tup [x1,x2])) { s with heap:=h2 }:=by
   have nfp:∀ b u,H b = some u -> b ∉ [z,TI,TO,i1,i2]:=fun b u e hb=>by have:=(hf b hb).1; rw [e] at this; cases this
   refine I.step (g':=s.gens) (d':=s.drawn) (ch:=[z,TI,TO,i1,i2]) (fun b hb=>?_) (fun b o _ _ hc' e _=>kp b o hc' e) (fun b o _ _ hc' e _=>⟨o.slots,kp b o hc' e⟩) (fun b o _ e n=>?_)
    (fun b o hc' e=>⟨o,kp b o hc' e⟩) (fun b xs e=>?_) (fun b o xs e=>?_) (fun b ps e=>⟨#[],?_⟩) (fun m hm=>?_) (fun b o e=>?_) I.bare
   ·obtain ⟨f0,f1,f2,f3,f4,f5⟩:=hf b hb
    exact ⟨f3,f1,f4,f5⟩
   ·rw [upd_ne (Nat.ne_of_lt (Heap.lt_size e))]; exact n
   ·rw [upd_ne (ne_of_none e hfr)]; exact e
   ·rw [upd_ne (ne_of_none e hfr)]; exact e
   ·rw [upd_ne (ne_of_none e hfr),e]; simp
   ·obtain ⟨o,es',ep,ho,r⟩:=hm
    exact ⟨o,es',ep,kp _ o (fun hb=>(hf _ hb).2.1 rfl) ho,r⟩
   ·by_cases hb:b = s.heap.objs.size
    ·subst hb
     rw [upd_same] at e
     cases e
     exact ⟨by show 2 <= sizeLine; decide,[u1,u2],.cons ru1 (.cons ru2 .nil),_,hT2,rfl,_,rfl,rfl⟩
    ·rw [upd_ne hb] at e
     refine (I.hok b o e).stay (fun c v hc' q=>kp c v ?_ q) (fun c q=>by rw [upd_ne (ne_of_none q hfr)]; exact q) fun c xs q=>by rw [upd_ne (ne_of_none q hfr)]; exact q
     rcases hc' with rfl | hc'
     ·exact nfp _ _ e
     ·exact nfp _ _ hc'
  refine ⟨.ref s.heap.objs.size,_,I2,rfl,⟨_,x1,x2,hfr,rfl,rfl,(fun ys hy=>by rw [I.sq_inj hy q1]; exact e1),(fun ys hy=>by rw [I.sq_inj hy q2]; exact e2)⟩,⟨hz2,hTI2,⟨u1,u2,hs2.extBut _ _ D.TOz b2⟩,c1.at fun o e=>hs2.extBut _ _ D.i1z e,c2.at fun o e=>hs2.extBut _ _ D.i2z e⟩,fun b hb=>?_⟩
  rw [upd_ne ?_]
  ·exact (hf b hb).1
  ·intro e
   subst e
   have hb:s.heap.objs.size = z \/ s.heap.objs.size = TI \/ s.heap.objs.size = TO \/ s.heap.objs.size = i1 \/ s.heap.objs.size = i2:=by simpa using hb
   rcases hb with e | e | e | e | e
   ·exact hTn e
   ·exact Nat.ne_of_gt (Heap.lt_size hTI) e
   ·exact Nat.ne_of_gt (Heap.lt_size hTO) e
   ·obtain ⟨o,eo,_⟩:=t1.obj
    exact Nat.ne_of_gt (Heap.lt_size eo) e
   ·obtain ⟨o,eo,_⟩:=t2.obj
    exact Nat.ne_of_gt (Heap.lt_size eo) e
 done:=by
  intro X hP hw hK hc i pins s σ H E I hf st hg
  subst hP hw hK
  obtain ⟨hz,hTI,⟨a1,a2,hTO⟩,t1,t2⟩:=st
  obtain ⟨ys1,ys2,q1,q2,hend⟩:=hg
  obtain ⟨its1,rv1,p1,z1⟩:=I.sq q1
  have len1:=rv1.length
  obtain ⟨its2,rv2,p2,z2⟩:=I.sq q2
  have len2:=rv2.length
  refine next_zip_end2 (I.ok.hd hc) D hz hTI hTO t1 t2 p1 p2 ?_ fun h' kp=>⟨rfl,?_⟩
  ·rcases hend with h | h
   ·exact .inl (by simp; omega)
   ·exact .inr (by simp; omega)
  ·have nfp:∀ b u,H b = some u -> b ∉ [z,TI,TO,i1,i2]:=fun b u e hb=>by have:=(hf b hb).1; rw [e] at this; cases this
   have kp':∀ b o,b ∉ [z,TI,TO,i1,i2] -> s.heap.get? b = some o -> h'.get? b = some o:=fun b o hb e=>by
    have hb:b ≠ z /\ b ≠ TI /\ b ≠ TO /\ b ≠ i1 /\ b ≠ i2:=by simpa using hb
    obtain ⟨g1,g2,g3,f1,f2⟩:=hb
    exact kp b o g1 g3 f1 f2 e
   refine I.step (g':=s.gens) (d':=s.drawn) (ch:=[z,TI,TO,i1,i2]) (fun b hb=>?_) (fun b o _ _ hc' e _=>kp' b o hc' e) (fun b o _ _ hc' e _=>⟨o.slots,kp' b o hc' e⟩) (fun b o _ e n=>n)
    (fun b o hc' e=>⟨o,kp' b o hc' e⟩) (fun b xs e=>e) (fun b o xs e=>e) (fun b ps e=>⟨#[],by rw [e]; simp⟩) (fun m hm=>?_) (fun b o e=>?_) I.bare
   ·obtain ⟨f0,f1,f2,f3,f4,f5⟩:=hf b hb
    exact ⟨f3,f1,f4,f5⟩
   ·obtain ⟨o,es',ep,ho,r⟩:=hm
    exact ⟨o,es',ep,kp' _ o (fun hb=>(hf _ hb).2.1 rfl) ho,r⟩
   ·refine (I.hok b o e).stay (fun c v hc' q=>kp' c v ?_ q) (fun _ q=>q) fun _ _ q=>q
    rcases hc' with rfl | hc'
    ·exact nfp _ _ e
    ·exact nfp _ _ hc'
 self:=fun _ _ _ _ _ st h=>wpAny_pyIter_zip st.1 h
end L2
namespace L2
open PySem PySem.Spec PyProof.Rows
noncomputable def iZip2 (K:PySem.W.Frag) (ta:TA):TI:=fun σ H R=>ta σ H fun vs H1=>∃ (k1:Kd) (l1:Addr) (ys1:List V) (k2:Kd) (l2:Addr) (ys2:List V),vs = [.ref l1,.ref l2] /\ Sq k1 K H1 l1 ys1 /\ Sq k2 K H1 l2 ys2 /\ R (Itz2 K k1 k2 l1 l2) H1
theorem pi_zip2 {X:Cx} {es:List Expr} {kk:Nat} {tpos:Pos} {a b:Expr} {ta:TA} {p pos:Pos} (hg:Gl X "zip") (hm:X.mg "zip" = none) (ha:PA X [a,b] ta) (hs:starEach [a,b] X.env = (false,eval a X.env) :: starEach [b] X.env:=by rfl) (hpl:(backTo pos (starEach [b] X.env)).any (·.1) = false:=by rfl) :
  PI X (.Tuple es kk tpos) (.Call (.Name "zip" p) [a,b] [] pos) (iZip2 X.K ta):=by
 intro pins s σ H R I h
 refine Call_ (ld_blt I hg hm boot_zip (PyProof.Rows.callWith_type1 (thn (ha pos pins s σ H _ I h) fun us s1 ⟨vs,H1,I1,r1,q1⟩=>?_) hs hpl))
 obtain ⟨k1,l1,ys1,k2,l2,ys2,e,q1,q2,q⟩:=q1
 subst e
 obtain rfl:us = [.ref l1,.ref l2]:=by
  cases r1 with | cons r rr=>cases r; cases rr with | cons r rr=>cases r; cases rr; rfl
 obtain ⟨its1,rv1,p1,z1⟩:=I1.sq q1
 obtain ⟨its2,rv2,p2,z2⟩:=I1.sq q2
 have lt:∀ {k:Kd} {l:Addr} {xs:Array Value},SqAt k s1.heap l xs -> l < s1.heap.objs.size:=fun {k l xs} p=>by
  cases k with
  | l=>obtain ⟨o,e,_⟩:=p; exact Heap.lt_size e
  | t=>obtain ⟨o,e,_⟩:=p; exact Heap.lt_size e
 refine callType_new F.called_zip (by decide) (F.typeCall_zip_2 _ _) (F.newCall_zip_2 _ _) (fun obj=>F.args_object_init_3 obj _ _) F.entry_zip_new (zip_new2 k1 k2 l1 l2 its1.toArray its2.toArray) ⟨p1,p2,?_⟩
 have zI:(zh2I s1.heap k1 k2 l1 l2).objs.size = s1.heap.objs.size + 2:=by simp [Heap.size_push]
 have zT:(zh2T s1.heap k1 k2 l1 l2).objs.size = s1.heap.objs.size + 3:=by simp [Heap.size_push]
 have zO:(zh2O s1.heap k1 k2 l1 l2).objs.size = s1.heap.objs.size + 4:=by simp [Heap.size_push]
 have gZ:(zh2Z s1.heap k1 k2 l1 l2).get? (zh2O s1.heap k1 k2 l1 l2).objs.size = some _:=Heap.get?_push_size _ rfl
 have gO:(zh2Z s1.heap k1 k2 l1 l2).get? (zh2T s1.heap k1 k2 l1 l2).objs.size = some _:=Heap.get?_push_of_some _ (Heap.get?_push_size _ rfl)
 have gT:(zh2Z s1.heap k1 k2 l1 l2).get? (zh2I s1.heap k1 k2 l1 l2).objs.size = some _:=Heap.get?_push_of_some _ (Heap.get?_push_of_some _ (Heap.get?_push_size _ rfl))
 have g1:(zh2Z s1.heap k1 k2 l1 l2).get? s1.heap.objs.size = some (itObj k1 l1):=Heap.get?_push_of_some _ (Heap.get?_push_of_some _ (Heap.get?_push_of_some _ (Heap.get?_push_of_some _ (Heap.get?_push_size _ (by cases k1 <;> rfl)))))
 have g2:(zh2Z s1.heap k1 k2 l1 l2).get? (s1.heap.push (itObj k1 l1)).objs.size = some (itObj k2 l2):=Heap.get?_push_of_some _ (Heap.get?_push_of_some _ (Heap.get?_push_of_some _ (Heap.get?_push_size _ (by cases k2 <;> rfl))))
 have zz2:(s1.heap.push (itObj k1 l1)).objs.size = s1.heap.objs.size + 1:=by simp [Heap.size_push]
 rw [zO,zT,zI] at gZ
 rw [zI,zz2] at gT
 rw [zT] at gO
 rw [zz2] at g2
 show _ /\ _
 rw [zO]
 have kp:∀ b o,s1.heap.get? b = some o -> (zh2Z s1.heap k1 k2 l1 l2).get? b = some o:=fun b o e=>Heap.get?_push_of_some _ (Heap.get?_push_of_some _ (Heap.get?_push_of_some _ (Heap.get?_push_of_some _ (Heap.get?_push_of_some _ (e)))))
 refine ⟨⟨_,gZ,rfl⟩,wpAny_pyIter_zip (s:={ s1 with heap:=zh2Z s1.heap k1 k2 l1 l2 }) gZ ?_⟩
 refine ⟨_,[s1.heap.objs.size + 4,s1.heap.objs.size + 2,s1.heap.objs.size + 3,s1.heap.objs.size,s1.heap.objs.size + 1],_,_,H1,rfl,I1.kept (t':=s1.toks) kp,turn_zip2 k1 k2 _ _ _ _ _ l1 l2 (zap2 _ l1 l2 (lt p1) (lt p2)),⟨gZ,gT,⟨_,_,gO⟩,ItAt.new k1 g1,ItAt.new k2 g2⟩,fun b hb=>?_,q⟩
 have hb:s1.heap.objs.size <= b:=by
  have hb:b = s1.heap.objs.size + 4 \/ b = s1.heap.objs.size + 2 \/ b = s1.heap.objs.size + 3 \/ b = s1.heap.objs.size \/ b = s1.heap.objs.size + 1:=by simpa using hb
  rcases hb with rfl | rfl | rfl | rfl | rfl
  all_goals first | exact Nat.le_add_right _ _ | exact Nat.le_refl _
 exact I1.fpOk hb (I1.hok.fresh hb)
mutual
inductive Is (K:PySem.W.Frag) (H:Hp):V -> PyData -> Prop
 | non:Is K H .non .none
 | bl (b):Is K H (.bl b) (.bool b)
 | int (i):Is K H (.int i) (.int i)
 | str (x):Is K H (.str x) (.str x)
 | lst {a xs ds}:SqL K H a xs -> IsAll K H xs ds -> Is K H (.ref a) (.list ds)
 | tup {a xs ds}:SqT K H a xs -> IsAll K H xs ds -> Is K H (.ref a) (.tuple ds)
inductive IsAll (K:PySem.W.Frag) (H:Hp):List V -> List PyData -> Prop
 | nil:IsAll K H [] []
 | cons {x xs d ds}:Is K H x d -> IsAll K H xs ds -> IsAll K H (x :: xs) (d :: ds)
end
section
variable {X:Cx} {pins:List (Addr × Obj)} {σ:St} {H:Hp} {s:Shared}
mutual
theorem Is.reads (I:Inv X pins σ H s):∀ {x:V} {d:PyData} {u:Value},Is X.K H x d -> RelV x u -> ∃ as,Reads s.heap u d as
 | _,_,_,.non,r=>by cases r; exact ⟨_,.none⟩
 | _,_,_,.bl b,r=>by cases r; exact ⟨_,.bool b⟩
 | _,_,_,.int i,r=>by obtain ⟨t,rfl⟩:=r; exact ⟨_,.int i t⟩
 | _,_,_,.str x,r=>by obtain ⟨t,rfl⟩:=r; exact ⟨_,.str x t⟩
 | _,_,_,.lst hq ha,r=>by
  cases r
  obtain ⟨its,rv,⟨o,n,e,c,d,q⟩,z⟩:=I.list hq
  obtain ⟨as,hr⟩:=IsAll.reads I ha rv
  exact ⟨_,.list e c q (by simpa using hr)⟩
 | _,_,_,.tup hq ha,r=>by
  cases r
  obtain ⟨its,rv,⟨o,e,c,n,q⟩,z⟩:=I.tuple hq
  obtain ⟨as,hr⟩:=IsAll.reads I ha rv
  exact ⟨_,.tuple e c q (by simpa using hr)⟩
theorem IsAll.reads (I:Inv X pins σ H s):∀ {xs:List V} {ds:List PyData} {us:List Value},IsAll X.K H xs ds -> Vals xs us -> ∃ as,ReadsAll s.heap us ds as
 | _,_,_,.nil,.nil=>⟨_,.nil⟩
 | _,_,_,.cons h t,.cons r rr=>by
  obtain ⟨as,a⟩:=Is.reads I h r
  obtain ⟨bs,b⟩:=IsAll.reads I t rr
  exact ⟨_,.cons a b⟩
end
end
open PySem.SeqAt in
noncomputable def rEqD (K:PySem.W.Frag) (neg:Bool):R2:=fun x y H Q=>∃ d e:PyData,Is K H x d /\ Is K H y e /\ shaped d = true /\ shaped e = true /\ noMix d e = true /\ Q (.bl (if neg then !same d e else same d e)) H
theorem op_eqD {X:Cx} (hu:X.A.units + 64 < cLine):OpR X (compareOp .Eq) (rEqD X.K false):=by
 intro pins s σ H x y v u Q I r1 r2 h
 obtain ⟨d,e,i1,i2,s1,s2,nm,q⟩:=h
 obtain ⟨as,a⟩:=i1.reads I r1
 obtain ⟨bs,b⟩:=i2.reads I r2
 exact eq_dataH_same a b s1 s2 hu nm ⟨.bl _,H,I,rfl,q⟩
theorem op_neD {X:Cx} (hu:X.A.units + 64 < cLine):OpR X (compareOp .NotEq) (rEqD X.K true):=by
 intro pins s σ H x y v u Q I r1 r2 h
 obtain ⟨d,e,i1,i2,s1,s2,nm,q⟩:=h
 obtain ⟨as,a⟩:=i1.reads I r1
 obtain ⟨bs,b⟩:=i2.reads I r2
 exact ne_dataH_same a b s1 s2 hu nm ⟨.bl _,H,I,rfl,q⟩
end L2
namespace L2
open PySem PySem.Spec PyProof.Rows
structure Cal (P:Program) (w:World) (K:PySem.W.Frag) (mg:Str -> Option Value) (base:Heap) (k:Nat) (x:Str) (ps:List Str) (sp:Sp):Prop where
 ex:∃ (f:Addr) (fd:FuncData),FnOk P w K mg base CX0 k f fd ps sp /\ mg x = some (.ref f) /\ PySem.W.keepIn K (.ref f) = true /\ Binds K fd ps []
theorem pe_fn {X:Cx} {k:Nat} {x:Str} {ps:List Str} {sp:Sp} {p pos:Pos} {e:Expr} {es:List Expr} {t:TA} (C:Cal X.prog X.w X.K X.mg X.base k x ps sp) (hr:Room k X.A) (ha:PA X (e :: es) t) (hg:Gl X x:=by rfl)
  (hdb:(x == ("__debug__":Str)) = false:=by decide) (he:starEach (e :: es) X.env = (false,eval e X.env) :: starEach es X.env:=by rfl) (hpl:(backTo pos (starEach es X.env)).any (·.1) = false:=by rfl) :
  PE X (.Call (.Name x p) (e :: es) [] pos) (tCall sp [] E0 t):=by
 obtain ⟨f,fd,F,hm,hk,hb⟩:=C.ex
 exact pe_call F hr hg hm hk hb .nil pass0 ha hdb he hpl
noncomputable def compOk (ds:Scope) (N:List Str) (fr:List Nat) (sc:Scope):Bool :=
 decide (sc.kind = .function) && (sc.names.all fun y=>!decide (y.2 = .cell) || decide (sc.names.lookup y.1 = some .cell)) && (sc.names.all fun y=>!decide (y.2 = .local) || decide (sc.names.lookup y.1 = some .local)) &&
 (sc.names.all fun y=>!decide (y.2 = .free) || (decide (ds.names.lookup y.1 = some .cell) || decide (ds.names.lookup y.1 = some .free))) &&
 (fr.all fun i=>match N[i]? with | some x=>decide (sc.names.lookup x = some .free) | none=>false)
theorem compSc_of {X:Cx} {own:List Str} {fr:List Nat} {sc:Scope} (h:compOk X.env.scope X.N fr sc = true):CompSc X own fr sc:=by
 unfold compOk at h
 simp only [Bool.and_eq_true,decide_eq_true_eq,List.all_eq_true,Bool.or_eq_true,Bool.not_eq_true',decide_eq_false_iff_not] at h
 obtain ⟨⟨⟨⟨h1,h2⟩,h3⟩,h4⟩,h5⟩:=h
 refine ⟨h1,fun y hy e=>?_,fun y hy e=>?_,fun y hy e=>?_,fun i hi=>?_⟩
 ·rcases h2 y hy with z | z
  ·exact absurd e z
  ·exact z
 ·rcases h3 y hy with z | z
  ·exact absurd e z
  ·exact z
 ·rcases h4 y hy with z | z
  ·exact absurd e z
  ·exact z
 ·have:=h5 i hi
  cases q:X.N[i]? with
  | none=>rw [q] at this; cases this
  | some x=>rw [q] at this; exact ⟨x,rfl,of_decide_eq_true this⟩
noncomputable def CompW (J:It) (own:List Str) (fr:List Nat) (g:TG) (tc:TT) (te:TE) (σ:St) (H:Hp) (Q:VK):Prop :=
 ∃ W:Nat -> Nat -> List V -> St -> Hp -> Prop,(∃ m,W 0 m [] (st0 own σ fr) H) /\ ∀ i m ys τ H,W i m ys τ H ->
   (J.stop i H /\ ∀ D,H D = none -> Q (.ref D) (upd H D (.lst ys))) \/
   (J.go i H /\ ys.length < sizeLine /\ ∃ N:List V -> St -> Hp -> Prop,(∀ ys' τ' H',N ys' τ' H' -> ∃ m',m' < m /\ W (i + 1) m' ys' τ' H') /\ ∀ x H',J.yld i H x H' -> g x τ H' fun τ2 H2 =>
     tc τ2 H2 fun b H3=>if b = true then te τ2 H3 fun y H4=>N (ys ++ [y]) τ2 H4 else N ys τ2 H3)
noncomputable def tCompW (wi:TI) (own:List Str) (fr:List Nat) (g:TG) (tc:TT) (te:TE):TE:=fun σ H Q=>wi σ H fun J H1=>CompW J own fr g tc te σ H1 Q
theorem pe_compW {X:Cx} {tg iter elt:Expr} {ifs:List Expr} {sc:Scope} {pos:Pos} {own:List Str} {fr:List Nat} {wi:TI} {g:TG} {tc:TT} {te:TE} (hc:X.calm = true) (S:CompSc X own fr sc) (hi:PI X tg iter wi)
  (hg:∀ C s H ex,PG (cxComp X own fr sc C s H ex) tg g) (hif:∀ C s H ex,PIf (cxComp X own fr sc C s H ex) ifs tc) (he:∀ C s H ex,PE (cxComp X own fr sc C s H ex) elt te)
  (hs:∀ x,foldedSetIterable iter X.env x = pure x:=by intro _; rfl):PE X (.ListComp elt [⟨tg,iter,ifs,0⟩] sc pos) (tCompW wi own fr g tc te):=pe_comp hc S hi hg hif he hs
theorem ps_setCompW {X:Cx} {tg iter elt:Expr} {ifs:List Expr} {sc:Scope} {pos spos py:Pos} {i:Nat} {y:Str} {own:List Str} {fr:List Nat} {wi:TI} {g:TG} {tc:TT} {te:TE} (hN:X.N.Nodup) (hy:X.N[i]? = some y) (hl:X.env.scope.names.lookup y = some .local) (hc:X.calm = true) (S:CompSc X own fr sc) (hi:PI X tg iter wi)
  (hg:∀ C s H ex,PG (cxComp X own fr sc C s H ex) tg g) (hif:∀ C s H ex,PIf (cxComp X own fr sc C s H ex) ifs tc) (he:∀ C s H ex,PE (cxComp X own fr sc C s H ex) elt te)
  (hsw:swapsWith (.ListComp elt [⟨tg,iter,ifs,0⟩] sc pos) (some (.Name y py)) spos.line X.env = pure true:=by rfl)
  (hs:∀ x,foldedSetIterable iter X.env x = pure x:=by intro _; rfl):PS X (.Assign [.Name y py] (.ListComp elt [⟨tg,iter,ifs,0⟩] sc pos) spos) (tAsg (tCompW wi own fr g tc te) (gName i)):=ps_setComp hN hy hl hc S hi hg hif he hsw hs
section
variable {X:Cx} {K:PySem.W.Frag}
theorem ix_listK (h:X.K = K):IxR X (rIxL K):=by subst h; exact ix_list
theorem ix_tupK (h:X.K = K):IxR X (rIxT K):=by subst h; exact ix_tup
noncomputable def rLen (K:PySem.W.Frag):List V -> Hp -> VK -> Prop:=fun xs H Q=>∃ (p:Addr) (ys:List V),xs = [.ref p] /\ (SqL K H p ys \/ SqT K H p ys) /\ Q (.int ys.length) H
theorem call_lenK (h:X.K = K):CallR X (.builtin "len") (rLen K):=by subst h; exact call_len_seq
noncomputable def rTupleOf (K:PySem.W.Frag):List V -> Hp -> VK -> Prop:=fun xs H Q=>∃ (p:Addr) (ys:List V),xs = [.ref p] /\ ((SqL K H p ys /\ ∀ l,H l = none -> Q (.ref l) (upd H l (.tup ys))) \/ (SqT K H p ys /\ Q (.ref p) H))
theorem call_tupleK (h:X.K = K):CallR X (.type "tuple") (rTupleOf K):=by subst h; exact call_tuple_of
theorem call_isiK (h:X.K = K):CallR X (.builtin "isinstance") (rIsi K):=by subst h; exact call_isi
theorem call_allK (h:X.K = K) (hc:X.calm = true):CallR X (.builtin "all") (rAll K):=by subst h; exact call_all hc
theorem op_eqDK (h:X.K = K) (hu:X.A.units + 64 < cLine):OpR X (compareOp .Eq) (rEqD K false):=by subst h; exact op_eqD hu
theorem op_neDK (h:X.K = K) (hu:X.A.units + 64 < cLine):OpR X (compareOp .NotEq) (rEqD K true):=by subst h; exact op_neD hu
theorem pi_zip2K {es:List Expr} {kk:Nat} {tpos:Pos} {a b:Expr} {ta:TA} {p pos:Pos} (h:X.K = K) (hg:Gl X "zip") (hm:X.mg "zip" = none) (ha:PA X [a,b] ta) (hs:starEach [a,b] X.env = (false,eval a X.env) :: starEach [b] X.env:=by rfl) (hpl:(backTo pos (starEach [b] X.env)).any (·.1) = false:=by rfl) :
  PI X (.Tuple es kk tpos) (.Call (.Name "zip" p) [a,b] [] pos) (iZip2 K ta):=by subst h; exact pi_zip2 hg hm ha hs hpl
theorem pg_tupK {es:List Expr} {k:Nat} {t:TGs} {n:Nat} {pos:Pos} (h:X.K = K) (hc:X.calm = true) (hh:PGs X es t) (hn:(assignEach es X.env).length = n:=by rfl) (hst:(assignEach es X.env).findIdx? (·.1) = none:=by rfl):PG X (.Tuple es k pos) (gTup K n t):=by subst h; exact pg_tup hc hh hn hst
end
end L2
namespace L2
open PySem PySem.Spec PyProof.Rows
theorem cat_tup0 {prog:Program} {w:World} {A:Around} {E:Value -> Shared -> Prop} {s:Shared} {t b:Addr} {ws:List Value} {Q:Value -> Shared -> Prop} (ht:IsTup s.heap t ([]:List Value).toArray) (hb:IsTup s.heap b ws.toArray) (h:Q (.ref b) s):wpAny (model prog w) A (binaryOp .Add (.ref t) (.ref b)) Q E s:=by
 obtain ⟨⟨cls,dd,data,sl⟩,ho,hc,n,hd⟩:=id ht
 obtain ⟨⟨cls2,dd2,data2,sl2⟩,ho2,hc2,n2,hd2⟩:=id hb
 simp only at hc hd hc2 hd2
 subst hc hd hc2 hd2
 exact concat_meets ⟨_,ho,rfl⟩ ⟨_,ho2,rfl⟩ noFill_tuple_add seq_tuple_add PySem.F.slot_tuple_add PySem.F.entry_tuple_add (PySem.F.args_tuple_add_2 _ _) (tuple_addW0 t b _ ws.toArray n n2 dd dd2 sl sl2 rfl) ⟨ho,ho2,h⟩
end L2
namespace L2
open PySem PySem.Spec
noncomputable abbrev opqO (a:Addr):HO:=.ext fun h=>∃ o es ep,h.get? a = some o /\ o.ExactDict /\ o.data = .dict es ep
noncomputable def hL (k:List Int):Int:=reduceHash (Builtin.Tuple.tupleHashOf (k.map hashInt))
noncomputable def hB (k:List Int × List Int):Int:=reduceHash (Builtin.Tuple.tupleHashOf [hL k.1,hL k.2])
noncomputable abbrev extD {κ:Type} (hs:κ -> Int) (a:Addr) (ep:Nat) (xs:List (κ × Addr × V)):HO:=.ext fun h=>(∃ vs:List (κ × Addr × Value),Paired (fun x v=>x.1 = v.1 /\ x.2.1 = v.2.1 /\ RelV x.2.2 v.2.2) xs vs /\
  ∃ o es,h.get? a = some o /\ o.ExactDict /\ o.data = .dict es ep /\ es.toList = vs.map fun x=>⟨hs x.1,.ref x.2.1,x.2.2⟩) /\ (xs.map (·.1)).Nodup /\ xs.length <= sizeLine /\ (a == sysModules) = false
noncomputable abbrev excLO (a C dx:Addr):HO:=.ext fun h=>∃ o vs,h.get? a = some o /\ o.cls = .ref C /\ o.dict = some dx /\ o.data = .fields vs
noncomputable abbrev excO (a C:Addr):HO:=.ext fun h=>∃ o vs,h.get? a = some o /\ o.cls = .ref C /\ o.data = .fields vs
end L2
namespace L3
open PySem PySem.Spec L2
noncomputable abbrev D:=PyData
noncomputable abbrev Fg:=PySem.W.Frag
noncomputable def Sub (F H:Hp):Prop:=∀ a o,F a = some o -> H a = some o
theorem Sub.refl (H:Hp):Sub H H:=fun _ _ h=>h
theorem Sub.trans {A B C:Hp} (h:Sub A B) (k:Sub B C):Sub A C:=fun a o e=>k a o (h a o e)
theorem Sub.new {F:Hp} {a:Addr} {o:HO} (h:F a = none):Sub F (upd F a o):=fun b u e=>by rw [upd_ne (ne_of_none e h)]; exact e
theorem Sub.rd {F H:Hp} {a:Addr} {u:HO} (s:Sub F H):Rd F a u -> Rd H a u
 | .inl h=>.inl (s _ _ h)
 | .inr ⟨o,h⟩=>.inr ⟨o,s _ _ h⟩
theorem Sub.sql {K:Fg} {F H:Hp} {a:Addr} {xs:List V} (s:Sub F H):SqL K F a xs -> SqL K H a xs
 | .inl h=>.inl (s.rd h)
 | .inr h=>.inr h
noncomputable def keyD:Key -> D
 | .inl i=>.int i
 | .inr x=>.str x
noncomputable abbrev scrD (ns:List Int):D:=.dict [(.none,.list (ns.map PyData.int))]
noncomputable abbrev excLD (C:Addr) (n:Int):D:=.dict [(.bool true,.tuple [.int (C:Nat),.int n])]
noncomputable abbrev excD (C:Addr):D:=.dict [(.bool true,.int (C:Nat))]
noncomputable abbrev opqD:D:=.dict [(.bool false,.none)]
noncomputable abbrev pdD (ps:List (List Int × D)):D:=.dict [(.bool false,.list (ps.map fun p=>.tuple [.tuple (p.1.map PyData.int),p.2]))]
noncomputable abbrev bdD (ps:List ((List Int × List Int) × D)):D:=.dict [(.bool false,.tuple (ps.map fun p=>.tuple [.tuple [.tuple (p.1.1.map PyData.int),.tuple (p.1.2.map PyData.int)],p.2]))]
mutual
inductive Da (K:Fg) (F:Hp):V -> D -> Prop
 | non:Da K F .non .none
 | bl (b):Da K F (.bl b) (.bool b)
 | int (i):Da K F (.int i) (.int i)
 | str (x):Da K F (.str x) (.str x)
 | lst {a xs ds}:F a = some (.lst xs) -> DaAll K F xs ds -> Da K F (.ref a) (.list ds)
 | tup {a xs ds}:F a = some (.tup xs) -> DaAll K F xs ds -> Da K F (.ref a) (.tuple ds)
 | dk {a kvs es}:Rd F a (.dK kvs) -> DaKV K F kvs es -> Da K F (.ref a) (.dict es)
 | dt {a kvs es}:Rd F a (.dT kvs) -> DaKT K F kvs es -> Da K F (.ref a) (.dict es)
 | scr {a ns}:SqL K F a (ns.map V.int) -> Da K F (.ref a) (scrD ns)
 | exc {a C}:F a = some (excO a C) -> Da K F (.ref a) (excD C)
 | exl {a C dx n}:F a = some (excLO a C dx) -> F dx = some (.xd [("line",.int n)]) -> Da K F (.ref a) (excLD C n)
 | opq {a}:F a = some (opqO a) -> Da K F (.ref a) opqD
 | pd {a a' ep xs ps}:F a = some (extD hL a' ep xs) -> DaPd K F xs ps -> Da K F (.ref a) (pdD ps)
 | bd {a ep xs ps}:F a = some (extD hB a ep xs) -> DaBd K F xs ps -> Da K F (.ref a) (bdD ps)
inductive DaAll (K:Fg) (F:Hp):List V -> List D -> Prop
 | nil:DaAll K F [] []
 | cons {x xs d ds}:Da K F x d -> DaAll K F xs ds -> DaAll K F (x :: xs) (d :: ds)
inductive DaKV (K:Fg) (F:Hp):List (Key × V) -> List (D × D) -> Prop
 | nil:DaKV K F [] []
 | cons {k v d kvs es}:Da K F v d -> DaKV K F kvs es -> DaKV K F ((k,v) :: kvs) ((keyD k,d) :: es)
inductive DaKT (K:Fg) (F:Hp):List (List Key × V) -> List (D × D) -> Prop
 | nil:DaKT K F [] []
 | cons {ks v d kvs es}:Da K F v d -> DaKT K F kvs es -> DaKT K F ((ks,v) :: kvs) ((.tuple (ks.map keyD),d) :: es)
inductive DaPd (K:Fg) (F:Hp):List (List Int × Addr × V) -> List (List Int × D) -> Prop
 | nil:DaPd K F [] []
 | cons {k b v d xs ps}:F b = some (.tup (k.map V.int)) -> Da K F v d -> DaPd K F xs ps -> DaPd K F ((k,b,v) :: xs) ((k,d) :: ps)
inductive DaBd (K:Fg) (F:Hp):List ((List Int × List Int) × Addr × V) -> List ((List Int × List Int) × D) -> Prop
 | nil:DaBd K F [] []
 | cons {k b c e v d xs ps}:F b = some (.tup [.ref c,.ref e]) -> F c = some (.tup (k.1.map V.int)) -> F e = some (.tup (k.2.map V.int)) -> Da K F v d -> DaBd K F xs ps -> DaBd K F ((k,b,v) :: xs) ((k,d) :: ps)
end
section
variable {K:Fg} {F F':Hp}
mutual
theorem Da.mono (s:Sub F F'):∀ {v:V} {d:D},Da K F v d -> Da K F' v d
 | _,_,.non=>.non
 | _,_,.bl b=>.bl b
 | _,_,.int i=>.int i
 | _,_,.str x=>.str x
 | _,_,.lst h t=>.lst (s _ _ h) (DaAll.mono s t)
 | _,_,.tup h t=>.tup (s _ _ h) (DaAll.mono s t)
 | _,_,.dk h t=>.dk (s.rd h) (DaKV.mono s t)
 | _,_,.dt h t=>.dt (s.rd h) (DaKT.mono s t)
 | _,_,.scr h=>.scr (s.sql h)
 | _,_,.exc h=>.exc (s _ _ h)
 | _,_,.exl h k=>.exl (s _ _ h) (s _ _ k)
 | _,_,.opq h=>.opq (s _ _ h)
 | _,_,.pd h t=>.pd (s _ _ h) (DaPd.mono s t)
 | _,_,.bd h t=>.bd (s _ _ h) (DaBd.mono s t)
theorem DaAll.mono (s:Sub F F'):∀ {xs:List V} {ds:List D},DaAll K F xs ds -> DaAll K F' xs ds
 | _,_,.nil=>.nil
 | _,_,.cons h t=>.cons (Da.mono s h) (DaAll.mono s t)
theorem DaKV.mono (s:Sub F F'):∀ {xs:List (Key × V)} {ds:List (D × D)},DaKV K F xs ds -> DaKV K F' xs ds
 | _,_,.nil=>.nil
 | _,_,.cons h t=>.cons (Da.mono s h) (DaKV.mono s t)
theorem DaKT.mono (s:Sub F F'):∀ {xs:List (List Key × V)} {ds:List (D × D)},DaKT K F xs ds -> DaKT K F' xs ds
 | _,_,.nil=>.nil
 | _,_,.cons h t=>.cons (Da.mono s h) (DaKT.mono s t)
theorem DaPd.mono (s:Sub F F'):∀ {xs:List (List Int × Addr × V)} {ps:List (List Int × D)},DaPd K F xs ps -> DaPd K F' xs ps
 | _,_,.nil=>.nil
 | _,_,.cons h v t=>.cons (s _ _ h) (Da.mono s v) (DaPd.mono s t)
theorem DaBd.mono (s:Sub F F'):∀ {xs:List ((List Int × List Int) × Addr × V)} {ps:List ((List Int × List Int) × D)},DaBd K F xs ps -> DaBd K F' xs ps
 | _,_,.nil=>.nil
 | _,_,.cons h h1 h2 v t=>.cons (s _ _ h) (s _ _ h1) (s _ _ h2) (Da.mono s v) (DaBd.mono s t)
end
theorem DaAll.length:∀ {xs:List V} {ds:List D},DaAll K F xs ds -> xs.length = ds.length
 | _,_,.nil=>rfl
 | _,_,.cons _ t=>by simp [DaAll.length t]
theorem DaAll.get:∀ {xs:List V} {ds:List D} {i:Nat} {d:D},DaAll K F xs ds -> ds[i]? = some d -> ∃ v,xs[i]? = some v /\ Da K F v d
 | _,_,_,_,.nil,e=>by simp at e
 | _,_,0,_,.cons h _,e=>by simp at e; subst e; exact ⟨_,rfl,h⟩
 | _,_,i + 1,_,.cons _ t,e=>by
  obtain ⟨v,a,b⟩:=DaAll.get (i:=i) t (by simpa using e)
  exact ⟨v,by simpa using a,b⟩
theorem DaAll.append:∀ {xs ys:List V} {ds es:List D},DaAll K F xs ds -> DaAll K F ys es -> DaAll K F (xs ++ ys) (ds ++ es)
 | _,_,_,_,.nil,s=>s
 | _,_,_,_,.cons h t,s=>.cons h (DaAll.append t s)
theorem DaAll.set {v:V} {d:D} (h:Da K F v d):∀ {xs:List V} {ds:List D} (i:Nat),DaAll K F xs ds -> DaAll K F (xs.set i v) (ds.set i d)
 | _,_,_,.nil=>.nil
 | _,_,0,.cons _ t=>.cons h t
 | _,_,i + 1,.cons q t=>.cons q (DaAll.set h i t)
theorem DaAll.take:∀ {xs:List V} {ds:List D} (n:Nat),DaAll K F xs ds -> DaAll K F (xs.take n) (ds.take n)
 | _,_,0,_=>.nil
 | _,_,_ + 1,.nil=>.nil
 | _,_,n + 1,.cons h t=>.cons h (DaAll.take n t)
theorem DaAll.drop:∀ {xs:List V} {ds:List D} (n:Nat),DaAll K F xs ds -> DaAll K F (xs.drop n) (ds.drop n)
 | _,_,0,r=>r
 | _,_,_ + 1,.nil=>.nil
 | _,_,n + 1,.cons _ t=>DaAll.drop n t
theorem DaAll.reverse {xs:List V} {ds:List D} (h:DaAll K F xs ds):DaAll K F xs.reverse ds.reverse:=by
 induction xs generalizing ds with
 | nil=>cases h; exact .nil
 | cons x xs ih =>
  cases h with
  | cons h t=>rw [List.reverse_cons,List.reverse_cons]; exact (ih t).append (.cons h .nil)
theorem DaAll.rep {xs:List V} {ds:List D} (h:DaAll K F xs ds):∀ k:Nat,DaAll K F (List.replicate k xs).flatten (List.replicate k ds).flatten
 | 0=>.nil
 | k + 1=>by rw [List.replicate_succ,List.replicate_succ,List.flatten_cons,List.flatten_cons]; exact h.append (DaAll.rep h k)
end
inductive Sl where
 | fz (d:D) | ow (d:D) | io (d:D)
noncomputable def Sl.d:Sl -> D
 | .fz d=>d
 | .ow d=>d
 | .io d=>d
noncomputable def isOw:Sl -> Bool
 | .fz _=>false
 | .ow _=>true
 | .io _=>true
noncomputable abbrev Ev:=List (Option Sl)
noncomputable def Own1 (K:Fg) (F:Hp):HO -> D -> Prop
 | .lst xs,.list ds=>DaAll K F xs ds
 | .dK kvs,.dict es=>DaKV K F kvs es
 | .dT kvs,.dict es=>DaKT K F kvs es
 | .ext φ,.dict [(.bool false,.list L)]=>∃ (a':Addr) (ep:Nat) (xs:List (List Int × Addr × V)) (ps:List (List Int × D)),HO.ext φ = extD hL a' ep xs /\ L = ps.map (fun p=>.tuple [.tuple (p.1.map PyData.int),p.2]) /\ DaPd K F xs ps
 | _,_=>False
section
variable {K:Fg} {F F':Hp} {o:HO} {d:D} {a:Addr}
theorem Own1.ext {φ:Heap -> Prop} (h:Own1 K F (.ext φ) d):∃ (a':Addr) (ep:Nat) (xs:List (List Int × Addr × V)) (ps:List (List Int × D)),HO.ext φ = extD hL a' ep xs /\ d = pdD ps /\ DaPd K F xs ps:=by
 unfold Own1 at h
 split at h
 ·rename_i z; cases z
 ·rename_i z; cases z
 ·rename_i z; cases z
 ·rename_i z
  obtain ⟨a',ep,xs,ps,e,rfl,t⟩:=h
  exact ⟨a',ep,xs,ps,z.trans e,rfl,t⟩
 ·exact h.elim
theorem Own1.mono (s:Sub F F') (h:Own1 K F o d):Own1 K F' o d:=by
 cases o with
 | ext φ =>
  obtain ⟨a',ep,xs,ps,e,rfl,t⟩:=h.ext
  exact ⟨a',ep,xs,ps,e,rfl,t.mono s⟩
 | _=>cases d <;> first | exact DaAll.mono s h | exact DaKV.mono s h | exact DaKT.mono s h | exact h.elim
theorem Own1.da (h:Own1 K F o d) (e:F a = some o):Da K F (.ref a) d:=by
 cases o with
 | ext φ =>
  obtain ⟨a',ep,xs,ps,z,rfl,t⟩:=h.ext
  rw [z] at e
  exact .pd e t
 | _=>cases d <;> first | exact .lst e h | exact .dk (.inl e) h | exact .dt (.inl e) h | exact h.elim
end
structure Gh where
 H0:Hp
 F0:Hp
 io:Nat -> Option Addr
structure Rel (K:Fg) (G:Gh) (F:Hp) (σ:St) (H:Hp) (ρ:Ev):Prop where
 len:σ.length = ρ.length
 sub:Sub F H
 sub0:Sub G.F0 F
 fn:∀ a o,F a = some o -> G.F0 a = some o \/ G.H0 a = none
 keep:∀ a o,G.H0 a = some o -> (∀ i,G.io i ≠ some a) -> H a = some o
 fz:∀ (i:Nat) (d:D),ρ[i]? = some (some (Sl.fz d)) -> ∃ v,σ[i]? = some (some v) /\ Da K F v d
 ow:∀ (i:Nat) (s:Sl),ρ[i]? = some (some s) -> isOw s = true -> ∃ a o,σ[i]? = some (some (V.ref a)) /\ F a = none /\ H a = some o /\ Own1 K F o s.d
 new:∀ (i:Nat) (d:D) (a:Addr),ρ[i]? = some (some (Sl.ow d)) -> σ[i]? = some (some (V.ref a)) -> G.H0 a = none
 io:∀ (i:Nat) (a:Addr),G.io i = some a -> ∃ d,ρ[i]? = some (some (Sl.io d)) /\ σ[i]? = some (some (V.ref a))
 ioi:∀ (i:Nat) (d:D),ρ[i]? = some (some (Sl.io d)) -> ∃ a,G.io i = some a
 ap:∀ (i j:Nat) (s t:Sl) (a:Addr),ρ[i]? = some (some s) -> isOw s = true -> ρ[j]? = some (some t) -> isOw t = true -> σ[i]? = some (some (V.ref a)) -> σ[j]? = some (some (V.ref a)) -> i = j
noncomputable def Res (K:Fg) (G:Gh) (F H:Hp) (σ:St) (ρ:Ev) (v:V):Sl -> Prop
 | .fz d=>Da K F v d
 | .ow d=>∃ a o,v = .ref a /\ F a = none /\ H a = some o /\ Own1 K F o d /\ G.H0 a = none /\ ∀ (i:Nat) (s:Sl),ρ[i]? = some (some s) -> isOw s = true -> σ[i]? ≠ some (some (V.ref a))
 | .io _=>False
section
variable {K:Fg} {G:Gh} {F F' H:Hp} {σ:St} {ρ:Ev} {a:Addr} {o:HO} {d:D} {v:V} {s:Sl}
theorem Rel.bound (R:Rel K G F σ H ρ) {i:Nat} (h:ρ[i]? = some (some s)):∃ v,σ[i]? = some (some v):=by
 cases s with
 | fz d=>obtain ⟨v,e,_⟩:=R.fz i d h; exact ⟨v,e⟩
 | ow d=>obtain ⟨a,o,e,_⟩:=R.ow i _ h rfl; exact ⟨_,e⟩
 | io d=>obtain ⟨a,o,e,_⟩:=R.ow i _ h rfl; exact ⟨_,e⟩
theorem Rel.h0 (R:Rel K G F σ H ρ) (h:H a = none):G.H0 a = none:=by
 cases e:G.H0 a with
 | none=>rfl
 | some o =>
  by_cases q:∃ i,G.io i = some a
  ·obtain ⟨i,q⟩:=q
   obtain ⟨d,h1,h2⟩:=R.io i a q
   obtain ⟨a',o',h3,_,h4,_⟩:=R.ow i _ h1 rfl
   rw [h2] at h3
   cases h3
   rw [h] at h4; cases h4
  ·have:=R.keep a o e fun i z=>q ⟨i,z⟩
   rw [h] at this; cases this
theorem Rel.f0 (R:Rel K G F σ H ρ) (h:H a = none):F a = none:=by
 cases e:F a with
 | none=>rfl
 | some o=>rw [R.sub a o e] at h; cases h
theorem Rel.laid (R:Rel K G F σ H ρ) (h:H a = none):Rel K G F σ (upd H a o) ρ where
 len:=R.len
 sub:=fun b u e=>by rw [upd_ne (ne_of_none (R.sub b u e) h)]; exact R.sub b u e
 sub0:=R.sub0
 fn:=R.fn
 keep:=fun b u e n=>by rw [upd_ne (ne_of_none (R.keep b u e n) h)]; exact R.keep b u e n
 fz:=R.fz
 ow:=fun i s e w=>by
  obtain ⟨a',o',h1,h2,h3,h4⟩:=R.ow i s e w
  exact ⟨a',o',h1,h2,by rw [upd_ne (ne_of_none h3 h)]; exact h3,h4⟩
 new:=R.new
 io:=R.io
 ioi:=R.ioi
 ap:=R.ap
theorem Rel.grow (R:Rel K G F σ H ρ) (h0:G.H0 a = none) (h:H a = some o) (hn:∀ (i:Nat) (s:Sl),ρ[i]? = some (some s) -> isOw s = true -> σ[i]? ≠ some (some (V.ref a))):Sub F (upd F a o) /\ Rel K G (upd F a o) σ H ρ:=by
 have sb:Sub F (upd F a o):=fun b u e=>by
  by_cases z:b = a
  ·subst z; rw [upd_same,<- h]; exact R.sub _ _ e
  ·rw [upd_ne z]; exact e
 refine ⟨sb,R.len,fun b u e=>?_,R.sub0.trans sb,fun b u e=>?_,R.keep,fun i d e=>?_,fun i s e w=>?_,R.new,R.io,R.ioi,R.ap⟩
 ·by_cases z:b = a
  ·subst z; rw [upd_same] at e; rw [h]; exact e
  ·rw [upd_ne z] at e; exact R.sub _ _ e
 ·by_cases z:b = a
  ·subst z; exact .inr h0
  ·rw [upd_ne z] at e; exact R.fn _ _ e
 ·obtain ⟨v,h1,h2⟩:=R.fz i d e
  exact ⟨v,h1,h2.mono sb⟩
 ·obtain ⟨a',o',h1,h2,h3,h4⟩:=R.ow i s e w
  have z:a' ≠ a:=fun z=>hn i s e w (by rw [h1,z])
  exact ⟨a',o',h1,by rw [upd_ne z]; exact h2,h3,h4.mono sb⟩
theorem Res.frz (R:Rel K G F σ H ρ) (r:Res K G F H σ ρ v s):∃ F',Sub F F' /\ Rel K G F' σ H ρ /\ Da K F' v s.d:=by
 cases s with
 | fz d=>exact ⟨F,Sub.refl _,R,r⟩
 | ow d =>
  obtain ⟨a,o,rfl,h1,h2,h3,h4,h5⟩:=r
  obtain ⟨sb,R'⟩:=R.grow h4 h2 h5
  exact ⟨_,sb,R',(h3.mono sb).da upd_same⟩
 | io d=>exact r.elim
theorem Rel.newOw (R:Rel K G F σ H ρ) (h:H a = none) (w:Own1 K F o d):Rel K G F σ (upd H a o) ρ /\ Res K G F (upd H a o) σ ρ (.ref a) (.ow d):=by
 refine ⟨R.laid h,a,o,rfl,R.f0 h,upd_same,w,R.h0 h,fun i s e w z=>?_⟩
 obtain ⟨a',o',h1,h2,h3,h4⟩:=R.ow i s e w
 rw [z] at h1
 cases h1
 rw [h] at h3; cases h3
theorem Rel.newTup (R:Rel K G F σ H ρ) {xs:List V} {ds:List D} (h:H a = none) (w:DaAll K F xs ds) :
  Sub F (upd F a (.tup xs)) /\ Rel K G (upd F a (.tup xs)) σ (upd H a (.tup xs)) ρ /\ Da K (upd F a (.tup xs)) (.ref a) (.tuple ds):=by
 have R1:Rel K G F σ (upd H a (.tup xs)) ρ:=R.laid h
 obtain ⟨sb,R2⟩:=R1.grow (a:=a) (o:=.tup xs) (R.h0 h) upd_same fun i s e w z=>by
  obtain ⟨a',o',h1,h2,h3,h4⟩:=R.ow i s e w
  rw [z] at h1
  cases h1
  rw [h] at h3; cases h3
 exact ⟨sb,R2,.tup upd_same (w.mono sb)⟩
noncomputable def Sl.put:Sl -> D -> Sl
 | .fz _,d=>.fz d
 | .ow _,d=>.ow d
 | .io _,d=>.io d
theorem get_set {α:Type} {l:List α} {i j:Nat} {x y:α} (h:(l.set i x)[j]? = some y):(j = i /\ y = x) \/ (j ≠ i /\ l[j]? = some y):=by
 by_cases z:i = j
 ·subst z
  rw [List.getElem?_set] at h
  simp at h
  exact .inl ⟨rfl,h.2.symm⟩
 ·rw [List.getElem?_set_ne z] at h
  exact .inr ⟨fun q=>z q.symm,h⟩
theorem set_get {α:Type} {l:List α} {i:Nat} {x:α} (h:i < l.length):(l.set i x)[i]? = some x:=by simp [h]
theorem lt_of_get {α:Type} {l:List α} {i:Nat} {x:α} (h:l[i]? = some x):i < l.length:=(List.getElem?_eq_some_iff.mp h).1
theorem Rel.change (R:Rel K G F σ H ρ) {i:Nat} {o':HO} {d':D} (h:ρ[i]? = some (some s)) (w:isOw s = true) (ha:σ[i]? = some (some (V.ref a))) (q:Own1 K F o' d') :
  Rel K G F σ (upd H a o') (ρ.set i (some (s.put d'))):=by
 obtain ⟨a0,o0,h1,h2,h3,h4⟩:=R.ow i s h w
 rw [ha] at h1; cases h1
 have sw:isOw (s.put d') = true:=by cases s <;> first | rfl | cases w
 have hl:=lt_of_get h
 refine ⟨by rw [List.length_set]; exact R.len,fun b u e=>?_,R.sub0,R.fn,fun b u e n=>?_,fun j d e=>?_,fun j t e wt=>?_,fun j d b e eb=>?_,fun j b e=>?_,fun j d e=>?_,fun j k t u b e1 w1 e2 w2 e3 e4=>?_⟩
 ·have z:b ≠ a:=fun z=>by subst z; rw [h2] at e; cases e
  rw [upd_ne z]; exact R.sub _ _ e
 ·by_cases z:b = a
  ·subst z
   cases s with
   | fz d=>cases w
   | ow d=>rw [R.new i d b h ha] at e; cases e
   | io d =>
    obtain ⟨a',e'⟩:=R.ioi i d h
    obtain ⟨d',_,e2⟩:=R.io i a' e'
    rw [ha] at e2; cases e2
    exact absurd e' (n i)
  ·rw [upd_ne z]; exact R.keep _ _ e n
 ·rcases get_set e with ⟨rfl,z⟩ | ⟨n,z⟩
  ·cases s <;> simp [Sl.put,isOw] at z w
  ·exact R.fz j d z
 ·rcases get_set e with ⟨rfl,z⟩ | ⟨n,z⟩
  ·cases z
   exact ⟨a,o',ha,h2,upd_same,by cases s <;> first | exact q | cases w⟩
  ·obtain ⟨b,u,g1,g2,g3,g4⟩:=R.ow j t z wt
   have nb:b ≠ a:=fun x=>n (R.ap j i t s a z wt h w (by rw [g1,x]) ha)
   exact ⟨b,u,g1,g2,by rw [upd_ne nb]; exact g3,g4⟩
 ·rcases get_set e with ⟨rfl,z⟩ | ⟨n,z⟩
  ·cases s with
   | fz d=>cases w
   | ow d0=>exact R.new j d0 b h eb
   | io d=>cases z
  ·exact R.new j d b z eb
 ·obtain ⟨d,e1,e2⟩:=R.io j b e
  by_cases z:j = i
  ·subst z
   rw [h] at e1
   cases e1
   exact ⟨d',by rw [set_get hl]; rfl,e2⟩
  ·exact ⟨d,by rw [List.getElem?_set_ne (Ne.symm z)]; exact e1,e2⟩
 ·rcases get_set e with ⟨rfl,z⟩ | ⟨n,z⟩
  ·cases s with
   | fz d=>cases w
   | ow d0=>cases z
   | io d0=>exact R.ioi j d0 h
  ·exact R.ioi j d z
 ·have f:∀ (j:Nat) (t:Sl),(ρ.set i (some (s.put d')))[j]? = some (some t) -> isOw t = true -> ∃ t',ρ[j]? = some (some t') /\ isOw t' = true:=fun j t e wt=>by
   rcases get_set e with ⟨rfl,z⟩ | ⟨n,z⟩
   ·exact ⟨s,h,w⟩
   ·exact ⟨t,z,wt⟩
  obtain ⟨t',e1',w1'⟩:=f j t e1 w1
  obtain ⟨u',e2',w2'⟩:=f k u e2 w2
  exact R.ap j k t' u' b e1' w1' e2' w2' e3 e4
theorem Rel.forget (R:Rel K G F σ H ρ) {i:Nat} (h:ρ[i]? = some (some (Sl.ow d))):Rel K G F σ H (ρ.set i none):=by
 refine ⟨by rw [List.length_set]; exact R.len,R.sub,R.sub0,R.fn,R.keep,fun j d e=>?_,fun j t e wt=>?_,fun j d b e eb=>?_,fun j b e=>?_,fun j d e=>?_,fun j k t u b e1 w1 e2 w2 e3 e4=>?_⟩
 ·rcases get_set e with ⟨rfl,z⟩ | ⟨n,z⟩
  ·cases z
  ·exact R.fz j d z
 ·rcases get_set e with ⟨rfl,z⟩ | ⟨n,z⟩
  ·cases z
  ·exact R.ow j t z wt
 ·rcases get_set e with ⟨rfl,z⟩ | ⟨n,z⟩
  ·cases z
  ·exact R.new j d b z eb
 ·obtain ⟨d',e1,e2⟩:=R.io j b e
  have n:i ≠ j:=fun z=>by subst z; rw [h] at e1; cases e1
  exact ⟨d',by rw [List.getElem?_set_ne n]; exact e1,e2⟩
 ·rcases get_set e with ⟨rfl,z⟩ | ⟨n,z⟩
  ·cases z
  ·exact R.ioi j d z
 ·rcases get_set e1 with ⟨rfl,z⟩ | ⟨n,z⟩
  ·cases z
  ·rcases get_set e2 with ⟨rfl,z'⟩ | ⟨n',z'⟩
   ·cases z'
   ·exact R.ap j k t u b z w1 z' w2 e3 e4
theorem Rel.freeze (R:Rel K G F σ H ρ) {i:Nat} (h:ρ[i]? = some (some (Sl.ow d))):∃ F' v,Sub F F' /\ Rel K G F' σ H (ρ.set i (some (Sl.fz d))) /\ σ[i]? = some (some v) /\ Da K F' v d:=by
 obtain ⟨a,o,h1,h2,h3,h4⟩:=R.ow i _ h rfl
 have hl:=lt_of_get h
 have R1:=R.forget h
 have hn:∀ (j:Nat) (s:Sl),(ρ.set i none)[j]? = some (some s) -> isOw s = true -> σ[j]? ≠ some (some (V.ref a)):=fun j s e w z=>by
  rcases get_set e with ⟨rfl,q⟩ | ⟨n,q⟩
  ·cases q
  ·exact n (R.ap j i s _ a q w h rfl z h1)
 obtain ⟨sb,R2⟩:=R1.grow (R.new i d a h h1) h3 hn
 have dd:Da K (upd F a o) (.ref a) d:=(h4.mono sb).da upd_same
 refine ⟨_,_,sb,?_,h1,dd⟩
 refine ⟨by rw [List.length_set]; exact R.len,R2.sub,R2.sub0,R2.fn,R2.keep,fun j d' e=>?_,fun j t e wt=>?_,fun j d b e eb=>?_,fun j b e=>?_,fun j d e=>?_,fun j k t u b e1 w1 e2 w2 e3 e4=>?_⟩
 ·rcases get_set e with ⟨rfl,z⟩ | ⟨n,z⟩
  ·cases z; exact ⟨_,h1,dd⟩
  ·exact R2.fz j d' (by rw [List.getElem?_set_ne (Ne.symm n)]; exact z)
 ·rcases get_set e with ⟨rfl,z⟩ | ⟨n,z⟩
  ·cases z; cases wt
  ·exact R2.ow j t (by rw [List.getElem?_set_ne (Ne.symm n)]; exact z) wt
 ·rcases get_set e with ⟨rfl,z⟩ | ⟨n,z⟩
  ·cases z
  ·exact R.new j d b z eb
 ·obtain ⟨d',e1,e2⟩:=R.io j b e
  have n:i ≠ j:=fun z=>by subst z; rw [h] at e1; cases e1
  exact ⟨d',by rw [List.getElem?_set_ne n]; exact e1,e2⟩
 ·rcases get_set e with ⟨rfl,z⟩ | ⟨n,z⟩
  ·cases z
  ·exact R.ioi j d z
 ·rcases get_set e1 with ⟨rfl,z⟩ | ⟨n,z⟩
  ·cases z; cases w1
  ·rcases get_set e2 with ⟨rfl,z'⟩ | ⟨n',z'⟩
   ·cases z'; cases w2
   ·exact R.ap j k t u b z w1 z' w2 e3 e4
theorem Rel.forgetRes (R:Rel K G F σ H ρ) {i:Nat} (h:ρ[i]? = some (some (Sl.ow d))):∃ v,σ[i]? = some (some v) /\ Res K G F H σ (ρ.set i none) v (.ow d):=by
 obtain ⟨a,o,h1,h2,h3,h4⟩:=R.ow i _ h rfl
 refine ⟨_,h1,a,o,rfl,h2,h3,h4,R.new i d a h h1,fun j s e w z=>?_⟩
 rcases get_set e with ⟨rfl,q⟩ | ⟨n,q⟩
 ·cases q
 ·exact n (R.ap j i s _ a q w h rfl z h1)
noncomputable def noIo (ρ:Ev) (i:Nat):Prop:=match ρ[i]? with
 | some (some (Sl.io _))=>False
 | some _=>True
 | none=>False
theorem Rel.asg (R:Rel K G F σ H ρ) {i:Nat} (hi:noIo ρ i) (r:Res K G F H σ ρ v s):Rel K G F (σ.set i (some v)) H (ρ.set i (some s)):=by
 have hl:i < ρ.length:=by
  cases e:ρ[i]? with
  | none=>unfold noIo at hi; rw [e] at hi; exact hi.elim
  | some x=>exact lt_of_get e
 have hl':i < σ.length:=by rw [R.len]; exact hl
 have ni:∀ d,ρ[i]? ≠ some (some (Sl.io d)):=fun d e=>by unfold noIo at hi; rw [e] at hi; exact hi
 refine ⟨by rw [List.length_set,List.length_set]; exact R.len,R.sub,R.sub0,R.fn,R.keep,fun j d e=>?_,fun j t e wt=>?_,fun j d b e eb=>?_,fun j b e=>?_,fun j d e=>?_,fun j k t u b e1 w1 e2 w2 e3 e4=>?_⟩
 ·rcases get_set e with ⟨rfl,z⟩ | ⟨n,z⟩
  ·cases z; exact ⟨v,set_get hl',r⟩
  ·rw [List.getElem?_set_ne (Ne.symm n)]; exact R.fz j d z
 ·rcases get_set e with ⟨rfl,z⟩ | ⟨n,z⟩
  ·cases z
   cases s with
   | fz d=>cases wt
   | ow d =>
    obtain ⟨a,o,rfl,h1,h2,h3,_⟩:=r
    exact ⟨a,o,set_get hl',h1,h2,h3⟩
   | io d=>exact r.elim
  ·rw [List.getElem?_set_ne (Ne.symm n)]; exact R.ow j t z wt
 ·rcases get_set e with ⟨rfl,z⟩ | ⟨n,z⟩
  ·cases z
   obtain ⟨a,o,rfl,h1,h2,h3,h4,_⟩:=r
   rw [set_get hl'] at eb; cases eb
   exact h4
  ·rw [List.getElem?_set_ne (Ne.symm n)] at eb; exact R.new j d b z eb
 ·obtain ⟨d,e1,e2⟩:=R.io j b e
  have n:i ≠ j:=fun z=>by subst z; exact ni d e1
  exact ⟨d,by rw [List.getElem?_set_ne n]; exact e1,by rw [List.getElem?_set_ne n]; exact e2⟩
 ·rcases get_set e with ⟨rfl,z⟩ | ⟨n,z⟩
  ·cases z; exact r.elim
  ·exact R.ioi j d z
 ·have own:∀ (j:Nat) (t:Sl),j ≠ i -> ρ[j]? = some (some t) -> isOw t = true -> (σ.set i (some v))[j]? = some (some (V.ref b)) -> s.d = s.d -> isOw s = true -> v = .ref b -> False:=fun j t n e w eb _ ws ev=>by
   subst ev
   cases s with
   | fz d=>cases ws
   | io d=>exact r
   | ow d =>
    obtain ⟨a,o,z,h1,h2,h3,h4,h5⟩:=r
    cases z
    rw [List.getElem?_set_ne (Ne.symm n)] at eb
    exact h5 j t e w eb
  rcases get_set e1 with ⟨rfl,z⟩ | ⟨n,z⟩
  ·rcases get_set e2 with ⟨rfl,z'⟩ | ⟨n',z'⟩
   ·rfl
   ·rw [set_get hl'] at e3; cases e3
    cases z
    exact (own k u n' z' w2 e4 rfl w1 rfl).elim
  ·rcases get_set e2 with ⟨rfl,z'⟩ | ⟨n',z'⟩
   ·rw [set_get hl'] at e4; cases e4
    cases z'
    exact (own j t n z w1 e3 rfl w2 rfl).elim
   ·rw [List.getElem?_set_ne (Ne.symm n)] at e3
    rw [List.getElem?_set_ne (Ne.symm n')] at e4
    exact R.ap j k t u b z w1 z' w2 e3 e4
end
end L3
namespace L3
open PySem PySem.Spec L2
noncomputable abbrev TD:=Ev -> (Sl -> Ev -> Prop) -> Prop
noncomputable abbrev TTD:=Ev -> (Bool -> Ev -> Prop) -> Prop
noncomputable abbrev Opd:=Sum Nat D
noncomputable abbrev AD:=Sum Nat TD
noncomputable def lift (K:Fg) (td:TD):TE:=fun σ H Q=>∃ (G:Gh) (F:Hp) (ρ:Ev) (Qd:Sl -> Ev -> Prop),Rel K G F σ H ρ /\ td ρ Qd /\
 ∀ v H' F' r ρ',Sub F F' -> Rel K G F' σ H' ρ' -> Res K G F' H' σ ρ' v r -> Qd r ρ' -> Q v H'
noncomputable def liftT (K:Fg) (tc:TTD):TT:=fun σ H Q=>∃ (G:Gh) (F:Hp) (ρ:Ev) (Qd:Bool -> Ev -> Prop),Rel K G F σ H ρ /\ tc ρ Qd /\
 ∀ b H' F' ρ',Sub F F' -> Rel K G F' σ H' ρ' -> Qd b ρ' -> Q b H'
noncomputable def argT (K:Fg):AD -> TE
 | .inl i=>tVar i
 | .inr td=>lift K td
noncomputable def tArgs:List TE -> TA
 | []=>tNil
 | t :: ts=>tCons t (tArgs ts)
theorem argT_mono {K:Fg} {a:AD} {σ:St} {H:Hp} {Q Q':VK} (m:∀ v H,Q v H -> Q' v H) (h:argT K a σ H Q):argT K a σ H Q':=by
 cases a with
 | inl i=>obtain ⟨v,e,q⟩:=h; exact ⟨v,e,m _ _ q⟩
 | inr td =>
  obtain ⟨G,F,ρ,Qd,R,w,k⟩:=h
  exact ⟨G,F,ρ,Qd,R,w,fun v H' F' r ρ' s R' r' q=>m _ _ (k v H' F' r ρ' s R' r' q)⟩
theorem arg1 {K:Fg} {a:AD} {σ:St} {H:Hp} {P:VK} (h:tArgs ([a].map (argT K)) σ H fun vs H2=>∃ x,vs = [x] /\ P x H2):argT K a σ H P :=
 argT_mono (fun v H q=>by obtain ⟨x,e,q⟩:=q; cases e; exact q) h
theorem arg2 {K:Fg} {a b:AD} {σ:St} {H:Hp} {P:V -> V -> Hp -> Prop} (h:tArgs ([a,b].map (argT K)) σ H fun vs H2=>∃ x y,vs = [x,y] /\ P x y H2):argT K a σ H fun x H1=>argT K b σ H1 fun y H2=>P x y H2 :=
 argT_mono (fun v H q=>argT_mono (fun u H q=>by obtain ⟨x,y,e,q⟩:=q; cases e; exact q) q) h
noncomputable def dVar (i:Nat):TD:=fun ρ Q=>match ρ[i]? with
 | some (some (.fz d))=>Q (.fz d) ρ
 | some (some (.ow d))=>Q (.fz d) (ρ.set i (some (.fz d)))
 | _=>False
noncomputable def dC (d:D):TD:=fun ρ Q=>Q (.fz d) ρ
section
variable {K:Fg} {σ:St} {H:Hp} {Q:VK}
theorem l_var {i:Nat} (h:lift K (dVar i) σ H Q):tVar i σ H Q:=by
 obtain ⟨G,F,ρ,Qd,R,w,k⟩:=h
 unfold dVar at w
 split at w
 ·rename_i d e
  obtain ⟨v,e1,h1⟩:=R.fz i d e
  exact ⟨v,e1,k v H F (.fz d) ρ (Sub.refl _) R h1 w⟩
 ·rename_i d e
  obtain ⟨F',v,sb,R',e1,h1⟩:=R.freeze e
  exact ⟨v,e1,k v H F' (.fz d) _ sb R' h1 w⟩
 ·exact w.elim
theorem l_c {v:V} {d:D} (hv:∀ F,Da K F v d) (h:lift K (dC d) σ H Q):tC v σ H Q:=by
 obtain ⟨G,F,ρ,Qd,R,w,k⟩:=h
 exact k v H F (.fz d) ρ (Sub.refl _) R (hv F) w
end
noncomputable def OpdAt (K:Fg) (F:Hp) (σ:St) (v:V):Opd -> Prop
 | .inl i=>σ[i]? = some (some v)
 | .inr d=>Da K F v d
inductive OpdsAt (K:Fg) (F:Hp) (σ:St):List V -> List Opd -> Prop
 | nil:OpdsAt K F σ [] []
 | cons {v x vs xs}:OpdAt K F σ v x -> OpdsAt K F σ vs xs -> OpdsAt K F σ (v :: vs) (x :: xs)
noncomputable def dArgs:List AD -> Ev -> (List Opd -> Ev -> Prop) -> Prop
 | [],ρ,Q=>Q [] ρ
 | .inl i :: as,ρ,Q=>match ρ[i]? with
  | some (some _)=>dArgs as ρ fun xs ρ'=>Q (.inl i :: xs) ρ'
  | _=>False
 | .inr td :: as,ρ,Q=>td ρ fun r ρ1=>dArgs as ρ1 fun xs ρ2=>Q (.inr r.d :: xs) ρ2
theorem args_okL {K:Fg} {G:Gh} {σ:St}:∀ {as:List AD} {F H:Hp} {ρ:Ev} {Qd:List Opd -> Ev -> Prop} {Qv:List V -> Hp -> Prop},Rel K G F σ H ρ -> dArgs as ρ Qd ->
  (∀ vs H' F' xs ρ',Sub F F' -> Rel K G F' σ H' ρ' -> OpdsAt K F' σ vs xs -> vs.length = as.length -> Qd xs ρ' -> Qv vs H') -> tArgs (as.map (argT K)) σ H Qv
 | [],F,H,ρ,Qd,Qv,R,w,k=>k [] H F [] ρ (Sub.refl _) R .nil rfl w
 | .inl i :: as,F,H,ρ,Qd,Qv,R,w,k=>by
  unfold dArgs at w
  split at w
  ·rename_i s e
   obtain ⟨v,ev⟩:=R.bound e
   refine ⟨v,ev,args_okL (as:=as) R w fun vs H' F' xs ρ' sb R' o hl q=>?_⟩
   exact k (v :: vs) H' F' (.inl i :: xs) ρ' sb R' (.cons ev o) (by simp [hl]) q
  ·exact w.elim
 | .inr td :: as,F,H,ρ,Qd,Qv,R,w,k=>by
  refine ⟨G,F,ρ,_,R,w,fun v H1 F1 r ρ1 s1 R1 r1 w1=>?_⟩
  obtain ⟨F2,s2,R2,d2⟩:=r1.frz R1
  refine args_okL (as:=as) R2 w1 fun vs H' F' xs ρ' sb R' o hl q=>?_
  exact k (v :: vs) H' F' (.inr r.d :: xs) ρ' (s1.trans (s2.trans sb)) R' (.cons (d2.mono sb) o) (by simp [hl]) q
theorem args_ok {K:Fg} {G:Gh} {σ:St} {as:List AD} {F H:Hp} {ρ:Ev} {Qd:List Opd -> Ev -> Prop} {Qv:List V -> Hp -> Prop} (R:Rel K G F σ H ρ) (w:dArgs as ρ Qd)
  (k:∀ vs H' F' xs ρ',Sub F F' -> Rel K G F' σ H' ρ' -> OpdsAt K F' σ vs xs -> Qd xs ρ' -> Qv vs H'):tArgs (as.map (argT K)) σ H Qv:=args_okL R w fun vs H' F' xs ρ' s R' o _ q=>k vs H' F' xs ρ' s R' o q
noncomputable def At (K:Fg) (F H:Hp) (v:V) (d:D):Prop:=Da K F v d \/ ∃ a o,v = .ref a /\ F a = none /\ H a = some o /\ Own1 K F o d
inductive AtAll (K:Fg) (F H:Hp):List V -> List D -> Prop
 | nil:AtAll K F H [] []
 | cons {v d vs ds}:At K F H v d -> AtAll K F H vs ds -> AtAll K F H (v :: vs) (d :: ds)
noncomputable def looksQ (ρ:Ev):List Opd -> (List D -> Prop) -> Prop
 | [],k=>k []
 | .inr d :: xs,k=>looksQ ρ xs fun ds=>k (d :: ds)
 | .inl i :: xs,k=>match ρ[i]? with
  | some (some s)=>looksQ ρ xs fun ds=>k (s.d :: ds)
  | _=>False
section
variable {K:Fg} {G:Gh} {F H:Hp} {σ:St} {ρ:Ev}
theorem Rel.at (R:Rel K G F σ H ρ) {i:Nat} {s:Sl} {v:V} (e:ρ[i]? = some (some s)) (ev:σ[i]? = some (some v)):At K F H v s.d:=by
 cases s with
 | fz d =>
  obtain ⟨v',e1,h1⟩:=R.fz i d e
  rw [ev] at e1; cases e1
  exact .inl h1
 | ow d =>
  obtain ⟨a,o,h1,h2,h3,h4⟩:=R.ow i _ e rfl
  rw [ev] at h1; cases h1
  exact .inr ⟨a,o,rfl,h2,h3,h4⟩
 | io d =>
  obtain ⟨a,o,h1,h2,h3,h4⟩:=R.ow i _ e rfl
  rw [ev] at h1; cases h1
  exact .inr ⟨a,o,rfl,h2,h3,h4⟩
theorem looks_ok (R:Rel K G F σ H ρ) {xs:List Opd} {vs:List V} {k:List D -> Prop} (o:OpdsAt K F σ vs xs) (h:looksQ ρ xs k):∃ ds,AtAll K F H vs ds /\ k ds:=by
 induction o generalizing k with
 | nil=>exact ⟨[],.nil,h⟩
 | @cons v x vs xs o t ih =>
  cases x with
  | inr d =>
   obtain ⟨ds,a,q⟩:=ih (k:=fun ds=>k (d :: ds)) h
   exact ⟨d :: ds,.cons (.inl o) a,q⟩
  | inl i =>
   unfold looksQ at h
   split at h
   ·rename_i s e
    obtain ⟨ds,a,q⟩:=ih (k:=fun ds=>k (s.d :: ds)) h
    exact ⟨s.d :: ds,.cons (R.at e o) a,q⟩
   ·exact h.elim
end
noncomputable def dOp (as:List AD) (f:List D -> (Sl -> Prop) -> Prop):TD:=fun ρ Q=>dArgs as ρ fun xs ρ1=>looksQ ρ1 xs fun ds=>f ds fun r=>Q r ρ1
noncomputable def OpOk (K:Fg) (r:List V -> Hp -> VK -> Prop) (f:List D -> (Sl -> Prop) -> Prop):Prop :=
 ∀ (G:Gh) (F:Hp) (σ:St) (H:Hp) (ρ:Ev) (vs:List V) (ds:List D) (Q:VK) (Qd:Sl -> Prop),Rel K G F σ H ρ -> AtAll K F H vs ds -> f ds Qd ->
  (∀ v H' F' s,Sub F F' -> Rel K G F' σ H' ρ -> Res K G F' H' σ ρ v s -> Qd s -> Q v H') -> r vs H Q
theorem l_op {K:Fg} {as:List AD} {r:List V -> Hp -> VK -> Prop} {f:List D -> (Sl -> Prop) -> Prop} (ok:OpOk K r f) {σ:St} {H:Hp} {Q:VK} (h:lift K (dOp as f) σ H Q):tArgs (as.map (argT K)) σ H fun vs H1=>r vs H1 Q:=by
 obtain ⟨G,F,ρ,Qd,R,w,k⟩:=h
 refine args_ok R w fun vs H' F' xs ρ' sb R' o q=>?_
 obtain ⟨ds,ha,q⟩:=looks_ok R' o q
 exact ok G F' σ H' ρ' vs ds Q _ R' ha q fun v H2 F2 s s2 R2 r2 q2=>k v H2 F2 s ρ' (sb.trans s2) R2 r2 q2
noncomputable def o1 (f:D -> (Sl -> Prop) -> Prop):List D -> (Sl -> Prop) -> Prop
 | [x],Q=>f x Q
 | _,_=>False
noncomputable def o2 (f:D -> D -> (Sl -> Prop) -> Prop):List D -> (Sl -> Prop) -> Prop
 | [x,y],Q=>f x y Q
 | _,_=>False
noncomputable def o3 (f:D -> D -> D -> (Sl -> Prop) -> Prop):List D -> (Sl -> Prop) -> Prop
 | [x,y,z],Q=>f x y z Q
 | _,_=>False
noncomputable def dTst (td:TD):TTD:=fun ρ Q=>td ρ fun r ρ'=>match r with
 | .fz (.bool b)=>Q b ρ'
 | _=>False
noncomputable def dNot (c:TTD):TTD:=fun ρ Q=>c ρ fun b ρ'=>Q (!b) ρ'
noncomputable def dAnd (c e:TTD):TTD:=fun ρ Q=>c ρ fun b ρ'=>if b = true then e ρ' Q else Q false ρ'
noncomputable def dOr (c e:TTD):TTD:=fun ρ Q=>c ρ fun b ρ'=>if b = true then Q true ρ' else e ρ' Q
noncomputable def dYes:TTD:=fun ρ Q=>Q true ρ
section
variable {K:Fg} {σ:St} {H:Hp}
theorem l_tst {td:TD} {t:TE} (ht:∀ {σ H Q},lift K td σ H Q -> t σ H Q) {Q:Bool -> Hp -> Prop} (h:liftT K (dTst td) σ H Q):tTest t σ H Q:=by
 obtain ⟨G,F,ρ,Qd,R,w,k⟩:=h
 refine ht ⟨G,F,ρ,_,R,w,fun v H' F' r ρ' sb R' r' q=>?_⟩
 split at q
 ·rename_i b
  cases r'
  exact ⟨b,rfl,k b H' F' ρ' sb R' q⟩
 ·exact q.elim
theorem l_not {c:TTD} {Q:Bool -> Hp -> Prop} (h:liftT K (dNot c) σ H Q):tNot (liftT K c) σ H Q:=by
 obtain ⟨G,F,ρ,Qd,R,w,k⟩:=h
 exact ⟨G,F,ρ,_,R,w,fun b H' F' ρ' sb R' q=>k (!b) H' F' ρ' sb R' q⟩
theorem l_and {c e:TTD} {Q:Bool -> Hp -> Prop} (h:liftT K (dAnd c e) σ H Q):tAnd (liftT K c) (liftT K e) σ H Q:=by
 obtain ⟨G,F,ρ,Qd,R,w,k⟩:=h
 refine ⟨G,F,ρ,_,R,w,fun b H' F' ρ' sb R' q=>?_⟩
 cases b with
 | true=>exact ⟨G,F',ρ',Qd,R',q,fun b H2 F2 ρ2 s2 R2 q2=>k b H2 F2 ρ2 (sb.trans s2) R2 q2⟩
 | false=>exact k false H' F' ρ' sb R' q
theorem l_or {c e:TTD} {Q:Bool -> Hp -> Prop} (h:liftT K (dOr c e) σ H Q):tOr (liftT K c) (liftT K e) σ H Q:=by
 obtain ⟨G,F,ρ,Qd,R,w,k⟩:=h
 refine ⟨G,F,ρ,_,R,w,fun b H' F' ρ' sb R' q=>?_⟩
 cases b with
 | true=>exact k true H' F' ρ' sb R' q
 | false=>exact ⟨G,F',ρ',Qd,R',q,fun b H2 F2 ρ2 s2 R2 q2=>k b H2 F2 ρ2 (sb.trans s2) R2 q2⟩
theorem l_yes {Q:Bool -> Hp -> Prop} (h:liftT K dYes σ H Q):tYes σ H Q:=by
 obtain ⟨G,F,ρ,Qd,R,w,k⟩:=h
 exact k true H F ρ (Sub.refl _) R w
end
noncomputable def dAndV (a b:TD):TD:=fun ρ Q=>a ρ fun r ρ'=>match r with
 | .fz (.bool c)=>if c = true then b ρ' Q else Q (.fz (.bool false)) ρ'
 | _=>False
noncomputable def dOrV (a b:TD):TD:=fun ρ Q=>a ρ fun r ρ'=>match r with
 | .fz (.bool c)=>if c = true then Q (.fz (.bool true)) ρ' else b ρ' Q
 | _=>False
noncomputable def dNotV (a:TD):TD:=fun ρ Q=>a ρ fun r ρ'=>match r with
 | .fz (.bool c)=>Q (.fz (.bool (!c))) ρ'
 | _=>False
noncomputable def dIf (c:TTD) (a b:TD):TD:=fun ρ Q=>c ρ fun k ρ'=>if k = true then a ρ' Q else b ρ' Q
section
variable {K:Fg} {σ:St} {H:Hp} {Q:VK} {a b:TD} {c:TTD}
theorem l_andV (h:lift K (dAndV a b) σ H Q):tAndV (lift K a) (lift K b) σ H Q:=by
 obtain ⟨G,F,ρ,Qd,R,w,k⟩:=h
 refine ⟨G,F,ρ,_,R,w,fun v H' F' r ρ' sb R' r' q=>?_⟩
 split at q
 ·rename_i c
  cases r'
  refine ⟨c,rfl,?_⟩
  cases c with
  | true=>exact ⟨G,F',ρ',Qd,R',q,fun v H2 F2 r ρ2 s2 R2 r2 q2=>k v H2 F2 r ρ2 (sb.trans s2) R2 r2 q2⟩
  | false=>exact k _ H' F' (.fz (.bool false)) ρ' sb R' (Da.bl false) q
 ·exact q.elim
theorem l_orV (h:lift K (dOrV a b) σ H Q):tOrV (lift K a) (lift K b) σ H Q:=by
 obtain ⟨G,F,ρ,Qd,R,w,k⟩:=h
 refine ⟨G,F,ρ,_,R,w,fun v H' F' r ρ' sb R' r' q=>?_⟩
 split at q
 ·rename_i c
  cases r'
  refine ⟨c,rfl,?_⟩
  cases c with
  | true=>exact k _ H' F' (.fz (.bool true)) ρ' sb R' (Da.bl true) q
  | false=>exact ⟨G,F',ρ',Qd,R',q,fun v H2 F2 r ρ2 s2 R2 r2 q2=>k v H2 F2 r ρ2 (sb.trans s2) R2 r2 q2⟩
 ·exact q.elim
theorem l_notV (h:lift K (dNotV a) σ H Q):tNotV (lift K a) σ H Q:=by
 obtain ⟨G,F,ρ,Qd,R,w,k⟩:=h
 refine ⟨G,F,ρ,_,R,w,fun v H' F' r ρ' sb R' r' q=>?_⟩
 split at q
 ·rename_i c
  cases r'
  exact ⟨c,rfl,k _ H' F' (.fz (.bool (!c))) ρ' sb R' (Da.bl (!c)) q⟩
 ·exact q.elim
theorem l_if (h:lift K (dIf c a b) σ H Q):tIf (liftT K c) (lift K a) (lift K b) σ H Q:=by
 obtain ⟨G,F,ρ,Qd,R,w,k⟩:=h
 refine ⟨G,F,ρ,_,R,w,fun x H' F' ρ' sb R' q=>?_⟩
 cases x with
 | true=>exact ⟨G,F',ρ',Qd,R',q,fun v H2 F2 r ρ2 s2 R2 r2 q2=>k v H2 F2 r ρ2 (sb.trans s2) R2 r2 q2⟩
 | false=>exact ⟨G,F',ρ',Qd,R',q,fun v H2 F2 r ρ2 s2 R2 r2 q2=>k v H2 F2 r ρ2 (sb.trans s2) R2 r2 q2⟩
end
theorem noIo_of {ρ:Ev} {i:Nat} {P:Prop} (h:match ρ[i]? with | some (some (.io _))=>False | some _=>P | none=>False):noIo ρ i /\ P:=by
 unfold noIo
 cases e:ρ[i]? with
 | none=>rw [e] at h; exact h.elim
 | some x =>
  rw [e] at h
  cases x with
  | none=>exact ⟨trivial,h⟩
  | some s=>cases s with
   | fz d=>exact ⟨trivial,h⟩
   | ow d=>exact ⟨trivial,h⟩
   | io d=>exact h.elim
structure DE where
 nx:Ev -> Prop
 rt:Sl -> Ev -> Prop
 bk:Ev -> Prop
 ct:Ev -> Prop
noncomputable abbrev TDS:=DE -> Ev -> Prop
noncomputable def liftS (K:Fg) (ts:TDS):TS:=fun D σ H=>∃ (G:Gh) (F:Hp) (ρ:Ev) (E:DE),Rel K G F σ H ρ /\ ts E ρ /\
 (∀ σ' H' F' ρ',Sub F F' -> Rel K G F' σ' H' ρ' -> E.nx ρ' -> D.nx σ' H') /\
 (∀ v σ' H' F' r ρ',Sub F F' -> Rel K G F' σ' H' ρ' -> Res K G F' H' σ' ρ' v r -> E.rt r ρ' -> D.rt v H') /\
 (∀ σ' H' F' ρ',Sub F F' -> Rel K G F' σ' H' ρ' -> E.bk ρ' -> D.bk σ' H') /\
 (∀ σ' H' F' ρ',Sub F F' -> Rel K G F' σ' H' ρ' -> E.ct ρ' -> D.ct σ' H')
noncomputable def dNext:TDS:=fun E ρ=>E.nx ρ
noncomputable def dSeq (t u:TDS):TDS:=fun E ρ=>t { nx:=fun ρ'=>u E ρ',rt:=E.rt,bk:=E.bk,ct:=E.ct } ρ
noncomputable def dRet (a:TD):TDS:=fun E ρ=>a ρ E.rt
noncomputable def dDrop (a:TD):TDS:=fun E ρ=>a ρ fun _ ρ'=>E.nx ρ'
noncomputable def dIfS (c:TTD) (t u:TDS):TDS:=fun E ρ=>c ρ fun b ρ'=>if b = true then t E ρ' else u E ρ'
noncomputable def dSet (i:Nat) (a:TD):TDS:=fun E ρ=>a ρ fun r ρ'=>match ρ'[i]? with
 | some (some (.io _))=>False
 | some _=>E.nx (ρ'.set i (some r))
 | none=>False
section
variable {K:Fg} {σ:St} {H:Hp} {E:Ends} {t u:TDS} {a:TD} {c:TTD}
theorem l_next (h:liftS K dNext E σ H):tNext E σ H:=by
 obtain ⟨G,F,ρ,D,R,w,n,r,b,c⟩:=h
 exact n σ H F ρ (Sub.refl _) R w
theorem later {G:Gh} {F F1 H1:Hp} {ρ1:Ev} {σ1:St} {D:DE} {ts:TDS} (s:Sub F F1) (R:Rel K G F1 σ1 H1 ρ1) (w:ts D ρ1)
  (n:∀ σ' H' F' ρ',Sub F F' -> Rel K G F' σ' H' ρ' -> D.nx ρ' -> E.nx σ' H')
  (r:∀ v σ' H' F' r ρ',Sub F F' -> Rel K G F' σ' H' ρ' -> Res K G F' H' σ' ρ' v r -> D.rt r ρ' -> E.rt v H')
  (b:∀ σ' H' F' ρ',Sub F F' -> Rel K G F' σ' H' ρ' -> D.bk ρ' -> E.bk σ' H')
  (c:∀ σ' H' F' ρ',Sub F F' -> Rel K G F' σ' H' ρ' -> D.ct ρ' -> E.ct σ' H'):liftS K ts E σ1 H1 :=
 ⟨G,F1,ρ1,D,R,w,fun _ _ _ _ s' R' q=>n _ _ _ _ (s.trans s') R' q,fun _ _ _ _ _ _ s' R' r' q=>r _ _ _ _ _ _ (s.trans s') R' r' q,
   fun _ _ _ _ s' R' q=>b _ _ _ _ (s.trans s') R' q,fun _ _ _ _ s' R' q=>c _ _ _ _ (s.trans s') R' q⟩
theorem l_seq (h:liftS K (dSeq t u) E σ H):tSeq (liftS K t) (liftS K u) E σ H:=by
 obtain ⟨G,F,ρ,D,R,w,n,r,b,c⟩:=h
 exact ⟨G,F,ρ,_,R,w,fun σ' H' F' ρ' s R' q=>later s R' q n r b c,r,b,c⟩
theorem l_ret (h:liftS K (dRet a) E σ H):tRet (lift K a) E σ H:=by
 obtain ⟨G,F,ρ,D,R,w,n,r,b,c⟩:=h
 exact ⟨G,F,ρ,_,R,w,fun v H' F' x ρ' s R' r' q=>r v σ H' F' x ρ' s R' r' q⟩
theorem l_drop (h:liftS K (dDrop a) E σ H):tDrop (lift K a) E σ H:=by
 obtain ⟨G,F,ρ,D,R,w,n,r,b,c⟩:=h
 exact ⟨G,F,ρ,_,R,w,fun v H' F' x ρ' s R' r' q=>n σ H' F' ρ' s R' q⟩
theorem l_ifS (h:liftS K (dIfS c t u) E σ H):tIfS (liftT K c) (liftS K t) (liftS K u) E σ H:=by
 obtain ⟨G,F,ρ,D,R,w,n,r,b,c⟩:=h
 refine ⟨G,F,ρ,_,R,w,fun x H' F' ρ' s R' q=>?_⟩
 cases x with
 | true=>exact later s R' q n r b c
 | false=>exact later s R' q n r b c
theorem l_set {i:Nat} (h:liftS K (dSet i a) E σ H):tAsg (lift K a) (gName i) E σ H:=by
 obtain ⟨G,F,ρ,D,R,w,n,r,b,c⟩:=h
 refine ⟨G,F,ρ,_,R,w,fun v H' F' x ρ' s R' r' q=>?_⟩
 have hn:=noIo_of q
 exact n _ H' F' _ s (R'.asg hn.1 r') hn.2
end
noncomputable def dRetV (i:Nat):TDS:=fun E ρ=>match ρ[i]? with
 | some (some (.fz d))=>E.rt (.fz d) ρ
 | some (some (.ow d))=>E.rt (.ow d) (ρ.set i none)
 | _=>False
noncomputable def dMove (i j:Nat):TDS:=fun E ρ=>match ρ[j]? with
 | some (some (.fz d))=>(match ρ[i]? with
   | some (some (.io _))=>False
   | some _=>E.nx (ρ.set i (some (.fz d)))
   | none=>False)
 | some (some (.ow d))=>(match (ρ.set j none)[i]? with
   | some (some (.io _))=>False
   | some _=>E.nx ((ρ.set j none).set i (some (.ow d)))
   | none=>False)
 | _=>False
section
variable {K:Fg} {σ:St} {H:Hp} {E:Ends}
theorem l_retV {i:Nat} (h:liftS K (dRetV i) E σ H):tRet (tVar i) E σ H:=by
 obtain ⟨G,F,ρ,D,R,w,n,r,b,c⟩:=h
 unfold dRetV at w
 split at w
 ·rename_i d e
  obtain ⟨v,e1,h1⟩:=R.fz i d e
  exact ⟨v,e1,r v σ H F (.fz d) ρ (Sub.refl _) R h1 w⟩
 ·rename_i d e
  obtain ⟨v,e1,h1⟩:=R.forgetRes e
  exact ⟨v,e1,r v σ H F (.ow d) _ (Sub.refl _) (R.forget e) h1 w⟩
 ·exact w.elim
theorem l_move {i j:Nat} (h:liftS K (dMove i j) E σ H):tAsg (tVar j) (gName i) E σ H:=by
 obtain ⟨G,F,ρ,D,R,w,n,r,b,c⟩:=h
 unfold dMove at w
 split at w
 ·rename_i d e
  obtain ⟨v,e1,h1⟩:=R.fz j d e
  obtain ⟨hn,w⟩:=noIo_of w
  exact ⟨v,e1,n _ H F _ (Sub.refl _) (R.asg (s:=.fz d) hn h1) w⟩
 ·rename_i d e
  obtain ⟨v,e1,h1⟩:=R.forgetRes e
  obtain ⟨hn,w⟩:=noIo_of w
  exact ⟨v,e1,n _ H F _ (Sub.refl _) ((R.forget e).asg (s:=.ow d) hn h1) w⟩
 ·exact w.elim
end
noncomputable abbrev TDG:=D -> Ev -> (Ev -> Prop) -> Prop
noncomputable def liftG (K:Fg) (g:TDG):TG:=fun v σ H Q=>∃ (G:Gh) (F:Hp) (ρ:Ev) (d:D) (Qd:Ev -> Prop),Rel K G F σ H ρ /\ Da K F v d /\ g d ρ Qd /\ ∀ σ' ρ',Rel K G F σ' H ρ' -> Qd ρ' -> Q σ' H
noncomputable def dGN (i:Nat):TDG:=fun d ρ Q=>match ρ[i]? with
 | some (some (.io _))=>False
 | some _=>Q (ρ.set i (some (.fz d)))
 | none=>False
noncomputable def dGs:List TDG -> List D -> Ev -> (Ev -> Prop) -> Prop
 | [],[],ρ,Q=>Q ρ
 | g :: gs,d :: ds,ρ,Q=>g d ρ fun ρ'=>dGs gs ds ρ' Q
 | _,_,_,_=>False
noncomputable def dGT (gs:List TDG):TDG:=fun d ρ Q=>match d with
 | .tuple ds=>ds.length = gs.length /\ dGs gs ds ρ Q
 | _=>False
noncomputable def gAll:List TG -> TGs
 | []=>gNil
 | g :: gs=>gCons g (gAll gs)
section
variable {K:Fg} {σ:St} {H:Hp} {v:V} {Q:St -> Hp -> Prop}
theorem l_gn {i:Nat} (h:liftG K (dGN i) v σ H Q):gName i v σ H Q:=by
 obtain ⟨G,F,ρ,d,Qd,R,hd,w,k⟩:=h
 obtain ⟨hn,w⟩:=noIo_of w
 exact k _ _ (R.asg (s:=.fz d) hn hd) w
theorem l_gs {G:Gh} {F:Hp}:∀ {gs:List TDG} {ds:List D} {vs:List V} {σ:St} {ρ:Ev} {Qd:Ev -> Prop},Rel K G F σ H ρ -> DaAll K F vs ds -> dGs gs ds ρ Qd -> (∀ σ' ρ',Rel K G F σ' H ρ' -> Qd ρ' -> Q σ' H) -> gAll (gs.map (liftG K)) vs σ H Q
 | [],[],_,σ,ρ,Qd,R,.nil,w,k=>⟨rfl,k σ ρ R w⟩
 | g :: gs,d :: ds,_,σ,ρ,Qd,R,.cons h t,w,k=>⟨_,_,rfl,G,F,ρ,d,_,R,h,w,fun σ' ρ' R' w'=>l_gs (gs:=gs) R' t w' k⟩
 | [],_ :: _,_,σ,ρ,Qd,R,_,w,k=>by exact w.elim
 | _ :: _,[],_,σ,ρ,Qd,R,_,w,k=>by exact w.elim
theorem l_gt {gs:List TDG} {n:Nat} (hn:gs.length = n) (h:liftG K (dGT gs) v σ H Q):gTup K n (gAll (gs.map (liftG K))) v σ H Q:=by
 obtain ⟨G,F,ρ,d,Qd,R,hd,w,k⟩:=h
 unfold dGT at w
 split at w
 ·cases hd with
  | tup e t=>exact ⟨_,_,rfl,SqT.of (R.sub _ _ e),by rw [t.length,w.1,hn],l_gs R t w.2 k⟩
 ·exact w.elim
end
end L3
namespace L3
open PySem PySem.Spec L2
noncomputable def Walks (K:Fg) (J:It) (F:Hp) (ds:List D):Prop:=∀ (i:Nat) (H F1:Hp),Sub F F1 -> Sub F1 H ->
 (∀ d,ds[i]? = some d -> J.go i H /\ ∀ x H',J.yld i H x H' -> ∃ F2,Sub F1 F2 /\ (∀ b o,F2 b = some o -> F1 b = some o \/ H b = none) /\ Sub F2 H' /\ Sub H H' /\ Da K F2 x d) /\ (ds.length = i -> J.stop i H)
noncomputable abbrev TDI:=Ev -> (List D -> Ev -> Prop) -> Prop
noncomputable def liftI (K:Fg) (ti:TDI):TI:=fun σ H R=>∃ (G:Gh) (F:Hp) (ρ:Ev) (Qd:List D -> Ev -> Prop),Rel K G F σ H ρ /\ ti ρ Qd /\
 ∀ J H' F' ds ρ',Sub F F' -> Rel K G F' σ H' ρ' -> Walks K J F' ds -> Qd ds ρ' -> R J H'
theorem Rel.turn {K:Fg} {G:Gh} {F F2 H H':Hp} {σ:St} {ρ:Ev} (R:Rel K G F σ H ρ) (s:Sub F F2) (n:∀ b o,F2 b = some o -> F b = some o \/ H b = none) (s2:Sub F2 H') (s3:Sub H H'):Rel K G F2 σ H' ρ where
 len:=R.len
 sub:=s2
 sub0:=R.sub0.trans s
 fn:=fun b o e=>by
  rcases n b o e with q | q
  ·exact R.fn b o q
  ·exact .inr (R.h0 q)
 keep:=fun a o e m=>s3 _ _ (R.keep a o e m)
 fz:=fun i d e=>by
  obtain ⟨v,h1,h2⟩:=R.fz i d e
  exact ⟨v,h1,h2.mono s⟩
 ow:=fun i t e w=>by
  obtain ⟨a,o,h1,h2,h3,h4⟩:=R.ow i t e w
  refine ⟨a,o,h1,?_,s3 _ _ h3,h4.mono s⟩
  cases q:F2 a with
  | none=>rfl
  | some u =>
   rcases n a u q with z | z
   ·rw [h2] at z; cases z
   ·rw [h3] at z; cases z
 new:=R.new
 io:=R.io
 ioi:=R.ioi
 ap:=R.ap
theorem drop_get {α:Type} {l:List α} {i:Nat} {x:α} (h:l[i]? = some x):l.drop i = x :: l.drop (i + 1):=by
 obtain ⟨hl,rfl⟩:=List.getElem?_eq_some_iff.mp h
 exact List.drop_eq_getElem_cons hl
noncomputable def capt:Option Sl -> Option Sl
 | some (.ow d)=>some (.io d)
 | x=>x
noncomputable def innerE (own:List Str) (fr:List Nat) (ρ:Ev):Ev:=own.map (fun _=>none) ++ fr.map fun i=>capt ((ρ[i]?).getD none)
noncomputable def wb1:Option Sl -> Option (Option Sl) -> Option Sl
 | some (.ow d),some (some (.io d'))=>some (.ow d')
 | some (.io d),some (some (.io d'))=>some (.io d')
 | x,_=>x
noncomputable def wbGo (fr:List Nat) (τ:Ev):Nat -> Ev -> Ev
 | _,[]=>[]
 | j,x :: ρ=>wb1 x ((fr.zip τ).lookup j) :: wbGo fr τ (j + 1) ρ
theorem wbGo_get (fr:List Nat) (τ:Ev):∀ (ρ:Ev) (j i:Nat),(wbGo fr τ j ρ)[i]? = (ρ[i]?).map fun x=>wb1 x ((fr.zip τ).lookup (j + i))
 | [],j,i=>by simp [wbGo]
 | x :: ρ,j,0=>by simp [wbGo]
 | x :: ρ,j,i + 1=>by
  have:=wbGo_get fr τ ρ (j + 1) i
  simp only [wbGo,List.getElem?_cons_succ]
  rw [this,show j + 1 + i = j + (i + 1) by omega]
theorem wbGo_len (fr:List Nat) (τ:Ev):∀ (ρ:Ev) (j:Nat),(wbGo fr τ j ρ).length = ρ.length
 | [],_=>rfl
 | x :: ρ,j=>by simp [wbGo,wbGo_len fr τ ρ (j + 1)]
theorem zip_lookup:∀ {fr:List Nat} {τ:Ev} {k i:Nat} {x:Option Sl},fr.Nodup -> fr[k]? = some i -> τ[k]? = some x -> (fr.zip τ).lookup i = some x
 | [],_,_,_,_,_,e,_=>by simp at e
 | j :: fr,[],_,_,_,_,_,e=>by simp at e
 | j :: fr,y :: τ,0,i,x,_,e,e'=>by simp at e e'; subst e e'; simp [List.lookup]
 | j :: fr,y :: τ,k + 1,i,x,nd,e,e'=>by
  have nd':=List.nodup_cons.mp nd
  simp at e e'
  have hm:i ∈ fr:=List.mem_of_getElem? e
  have ne:(i == j) = false:=by simp; intro z; subst z; exact nd'.1 hm
  simp [List.lookup,ne]
  exact zip_lookup nd'.2 e e'
theorem zip_lookup_mem:∀ {fr:List Nat} {τ:Ev} {i:Nat} {x:Option Sl},(fr.zip τ).lookup i = some x -> ∃ k:Nat,fr[k]? = some i /\ τ[k]? = some x
 | [],_,_,_,e=>by simp at e
 | j :: fr,[],_,_,e=>by simp at e
 | j :: fr,y :: τ,i,x,e=>by
  by_cases z:i = j
  ·subst z; simp [List.lookup] at e; subst e; exact ⟨0,by simp,by simp⟩
  ·have ne:(i == j) = false:=by simp [z]
   simp [List.lookup,ne] at e
   obtain ⟨k,h1,h2⟩:=zip_lookup_mem e
   exact ⟨k + 1,by simpa using h1,by simpa using h2⟩
end L3
namespace L3
open PySem PySem.Spec L2
noncomputable def ioOf (σ:St) (ρ:Ev) (i:Nat):Option Addr:=match ρ[i]?,σ[i]? with
 | some (some s),some (some (.ref a))=>if isOw s = true then some a else none
 | _,_=>none
theorem ioOf_some {σ:St} {ρ:Ev} {i:Nat} {a:Addr} (h:ioOf σ ρ i = some a):∃ s,ρ[i]? = some (some s) /\ isOw s = true /\ σ[i]? = some (some (V.ref a)):=by
 unfold ioOf at h
 split at h
 ·rename_i s b e1 e2
  split at h
  ·rename_i w; cases h; exact ⟨s,e1,w,e2⟩
  ·cases h
 ·cases h
theorem ioOf_of {σ:St} {ρ:Ev} {i:Nat} {a:Addr} {s:Sl} (h1:ρ[i]? = some (some s)) (h2:isOw s = true) (h3:σ[i]? = some (some (V.ref a))):ioOf σ ρ i = some a:=by
 unfold ioOf; rw [h1,h3]; simp [h2]
noncomputable def ghC (own:List Str) (fr:List Nat) (F H:Hp) (σ:St) (ρ:Ev):Gh:=⟨H,F,fun j=>if own.length <= j then (match fr[j - own.length]? with | some i=>ioOf σ ρ i | none=>none) else none⟩
theorem ghC_io {own:List Str} {fr:List Nat} {F H:Hp} {σ:St} {ρ:Ev} {j:Nat} {a:Addr} (h:(ghC own fr F H σ ρ).io j = some a):∃ k i s,j = own.length + k /\ fr[k]? = some i /\ ρ[i]? = some (some s) /\ isOw s = true /\ σ[i]? = some (some (V.ref a)):=by
 unfold ghC at h
 simp only at h
 split at h
 ·rename_i hl
  split at h
  ·rename_i i e
   obtain ⟨s,h1,h2,h3⟩:=ioOf_some h
   exact ⟨j - own.length,i,s,by omega,e,h1,h2,h3⟩
  ·cases h
 ·cases h
theorem ghC_of {own:List Str} {fr:List Nat} {F H:Hp} {σ:St} {ρ:Ev} {k i:Nat} {a:Addr} {s:Sl} (h0:fr[k]? = some i) (h1:ρ[i]? = some (some s)) (h2:isOw s = true) (h3:σ[i]? = some (some (V.ref a))):(ghC own fr F H σ ρ).io (own.length + k) = some a:=by
 unfold ghC
 simp only
 rw [if_pos (Nat.le_add_right _ _),Nat.add_sub_cancel_left,h0]
 exact ioOf_of h1 h2 h3
theorem inner_get {α:Type} {own:List Str} {fr:List Nat} {f:Nat -> Option α} {j:Nat} {x:α} (h:(own.map (fun _=>(none:Option α)) ++ fr.map f)[j]? = some (some x)):∃ k i,j = own.length + k /\ fr[k]? = some i /\ f i = some x:=by
 by_cases hl:j < own.length
 ·rw [List.getElem?_append_left (by simpa using hl)] at h
  simp at h
 ·rw [List.getElem?_append_right (by simpa using Nat.le_of_not_lt hl)] at h
  simp at h
  obtain ⟨i,h1,h2⟩:=h
  exact ⟨j - own.length,i,by omega,h1,h2⟩
theorem inner_of {α:Type} {own:List Str} {fr:List Nat} {f:Nat -> Option α} {k i:Nat} (h:fr[k]? = some i):(own.map (fun _=>(none:Option α)) ++ fr.map f)[own.length + k]? = some (f i):=by
 rw [List.getElem?_append_right (by simp)]
 simp [h]
theorem capt_get {x:Option Sl} {s:Sl} (h:capt x = some s):∃ s0,x = some s0 /\ ((∃ d,s0 = .fz d /\ s = .fz d) \/ (isOw s0 = true /\ s = .io s0.d)):=by
 cases x with
 | none=>cases h
 | some s0 =>
  cases s0 with
  | fz d=>cases h; exact ⟨_,rfl,.inl ⟨d,rfl,rfl⟩⟩
  | ow d=>cases h; exact ⟨_,rfl,.inr ⟨rfl,rfl⟩⟩
  | io d=>cases h; exact ⟨_,rfl,.inr ⟨rfl,rfl⟩⟩
theorem getD_some {α:Type} {o:Option (Option α)} {x:α} (h:o.getD none = some x):o = some (some x):=by
 cases o with
 | none=>cases h
 | some y=>simp at h; rw [h]
section
variable {K:Fg} {G:Gh} {F F' H H':Hp} {σ τ:St} {ρ μ:Ev} {own:List Str} {fr:List Nat}
theorem innerE_get {j:Nat} {s:Sl} (h:(innerE own fr ρ)[j]? = some (some s)):∃ k i s0,j = own.length + k /\ fr[k]? = some i /\ ρ[i]? = some (some s0) /\ ((∃ d,s0 = .fz d /\ s = .fz d) \/ (isOw s0 = true /\ s = .io s0.d)):=by
 obtain ⟨k,i,h1,h2,h3⟩:=inner_get h
 obtain ⟨s0,h4,h5⟩:=capt_get h3
 exact ⟨k,i,s0,h1,h2,getD_some h4,h5⟩
theorem st0_of {k i:Nat} (h:fr[k]? = some i):(st0 own σ fr)[own.length + k]? = some ((σ[i]?).getD none):=inner_of (f:=fun i=>(σ[i]?).getD none) h
theorem innerE_of {k i:Nat} (h:fr[k]? = some i):(innerE own fr ρ)[own.length + k]? = some (capt ((ρ[i]?).getD none)):=inner_of (f:=fun i=>capt ((ρ[i]?).getD none)) h
theorem nodup_at {fr:List Nat} (nd:fr.Nodup) {k l i:Nat} (a:fr[k]? = some i) (b:fr[l]? = some i):k = l:=by
 obtain ⟨h1,e1⟩:=List.getElem?_eq_some_iff.mp a
 obtain ⟨h2,e2⟩:=List.getElem?_eq_some_iff.mp b
 exact (List.getElem_inj nd).mp (e1.trans e2.symm)
theorem Rel.inner (R:Rel K G F σ H ρ) (nd:fr.Nodup):Rel K (ghC own fr F H σ ρ) F (st0 own σ fr) H (innerE own fr ρ) where
 len:=by simp [st0,frS,innerE]
 sub:=R.sub
 sub0:=Sub.refl _
 fn:=fun _ _ e=>.inl e
 keep:=fun _ _ e _=>e
 fz:=fun j d e=>by
  obtain ⟨k,i,s0,rfl,h2,h3,h4⟩:=innerE_get e
  rcases h4 with ⟨d0,rfl,z⟩ | ⟨_,z⟩
  ·cases z
   obtain ⟨v,e1,e2⟩:=R.fz i d h3
   exact ⟨v,by rw [st0_of h2,e1]; rfl,e2⟩
  ·cases z
 ow:=fun j s e w=>by
  obtain ⟨k,i,s0,rfl,h2,h3,h4⟩:=innerE_get e
  rcases h4 with ⟨d0,rfl,z⟩ | ⟨w0,z⟩
  ·cases z; cases w
  ·cases z
   obtain ⟨a,o,e1,e2,e3,e4⟩:=R.ow i s0 h3 w0
   exact ⟨a,o,by rw [st0_of h2,e1]; rfl,e2,e3,e4⟩
 new:=fun j d a e _=>by
  obtain ⟨k,i,s0,rfl,h2,h3,h4⟩:=innerE_get e
  rcases h4 with ⟨d0,rfl,z⟩ | ⟨w0,z⟩ <;> cases z
 io:=fun j a e=>by
  obtain ⟨k,i,s,rfl,h1,h2,h3,h4⟩:=ghC_io e
  refine ⟨s.d,?_,by rw [st0_of h1,h4]; rfl⟩
  rw [innerE_of h1,h2]
  cases s <;> first | rfl | cases h3
 ioi:=fun j d e=>by
  obtain ⟨k,i,s0,rfl,h2,h3,h4⟩:=innerE_get e
  rcases h4 with ⟨d0,rfl,z⟩ | ⟨w0,z⟩
  ·cases z
  ·obtain ⟨a,o,e1,_⟩:=R.ow i s0 h3 w0
   exact ⟨a,ghC_of h2 h3 w0 e1⟩
 ap:=fun j l s t a e1 w1 e2 w2 e3 e4=>by
  obtain ⟨k,i,s0,rfl,h2,h3,h4⟩:=innerE_get e1
  obtain ⟨k',i',s0',rfl,h2',h3',h4'⟩:=innerE_get e2
  have p1:isOw s0 = true:=by
   rcases h4 with ⟨d0,rfl,z⟩ | ⟨w0,z⟩
   ·subst z; cases w1
   ·exact w0
  have p2:isOw s0' = true:=by
   rcases h4' with ⟨d0,rfl,z⟩ | ⟨w0,z⟩
   ·subst z; cases w2
   ·exact w0
  rw [st0_of h2] at e3
  rw [st0_of h2'] at e4
  have q:=R.ap i i' s0 s0' a h3 p1 h3' p2 (getD_some (Option.some.inj e3)) (getD_some (Option.some.inj e4))
  subst q
  rw [nodup_at nd h2 h2']
theorem wb_cases (R:Rel K G F σ H ρ) (R':Rel K (ghC own fr F H σ ρ) F' τ H' μ) (nd:fr.Nodup) {i:Nat} {s:Sl} (h:(wbGo fr (μ.drop own.length) 0 ρ)[i]? = some (some s)) :
  ∃ s0,ρ[i]? = some (some s0) /\ ((s = s0 /\ (isOw s0 = true -> i ∉ fr)) \/ (isOw s0 = true /\ ∃ k d',fr[k]? = some i /\ μ[own.length + k]? = some (some (Sl.io d')) /\ s = s0.put d')):=by
 rw [wbGo_get] at h
 cases e:ρ[i]? with
 | none=>rw [e] at h; cases h
 | some x =>
  rw [e] at h
  simp only [Option.map_some,Nat.zero_add] at h
  have h:=Option.some.inj h
  cases x with
  | none=>simp [wb1] at h
  | some s0 =>
   refine ⟨s0,rfl,?_⟩
   by_cases w0:isOw s0 = true
   ·by_cases hm:i ∈ fr
    ·obtain ⟨k,hk⟩:=List.mem_iff_getElem?.mp hm
     obtain ⟨a,o,e1,_⟩:=R.ow i s0 e w0
     obtain ⟨d',g1,g2⟩:=R'.io _ _ (ghC_of (own:=own) (F:=F) (H:=H) hk e w0 e1)
     have z:=zip_lookup (τ:=μ.drop own.length) nd hk (by rw [List.getElem?_drop]; exact g1)
     rw [z] at h
     refine .inr ⟨w0,k,d',hk,g1,?_⟩
     cases s0 with
     | fz d=>cases w0
     | ow d=>simp [wb1] at h; exact h.symm
     | io d=>simp [wb1] at h; exact h.symm
    ·refine .inl ⟨?_,fun _=>hm⟩
     have z:(fr.zip (μ.drop own.length)).lookup i = none:=by
      cases q:(fr.zip (μ.drop own.length)).lookup i with
      | none=>rfl
      | some y =>
       obtain ⟨k,h1,_⟩:=zip_lookup_mem q
       exact (hm (List.mem_of_getElem? h1)).elim
     rw [z] at h
     cases s0 with
     | fz d=>cases w0
     | ow d=>simp [wb1] at h; exact h.symm
     | io d=>simp [wb1] at h; exact h.symm
   ·refine .inl ⟨?_,fun z=>(w0 z).elim⟩
    cases s0 with
    | fz d=>simp [wb1] at h; exact h.symm
    | ow d=>exact (w0 rfl).elim
    | io d=>exact (w0 rfl).elim
theorem wb1_io {d:D} (x:Option (Option Sl)):∃ d',wb1 (some (.io d)) x = some (.io d'):=by
 rcases x with _ | _ | (d' | d' | d')
 ·exact ⟨d,rfl⟩
 ·exact ⟨d,rfl⟩
 ·exact ⟨d,rfl⟩
 ·exact ⟨d,rfl⟩
 ·exact ⟨d',rfl⟩
theorem Rel.outer (R:Rel K G F σ H ρ) (R':Rel K (ghC own fr F H σ ρ) F' τ H' μ) (nd:fr.Nodup):Rel K G F' σ H' (wbGo fr (μ.drop own.length) 0 ρ):=by
 have sb:Sub F F':=R'.sub0
 have owns:∀ {i:Nat} {s:Sl},(wbGo fr (μ.drop own.length) 0 ρ)[i]? = some (some s) -> isOw s = true -> ∃ s0,ρ[i]? = some (some s0) /\ isOw s0 = true:=fun {i s} e w=>by
  obtain ⟨s0,h1,h2⟩:=wb_cases R R' nd e
  rcases h2 with ⟨rfl,_⟩ | ⟨w0,_⟩
  ·exact ⟨s,h1,w⟩
  ·exact ⟨s0,h1,w0⟩
 refine ⟨by rw [wbGo_len]; exact R.len,R'.sub,R.sub0.trans sb,fun a o e=>?_,fun a o e n=>?_,fun i d e=>?_,fun i s e w=>?_,fun i d a e ea=>?_,fun i a e=>?_,fun i d e=>?_,fun i j s t a e1 w1 e2 w2 e3 e4=>?_⟩
 ·rcases R'.fn a o e with q | q
  ·exact R.fn a o q
  ·exact .inr (R.h0 q)
 ·refine R'.keep a o (R.keep a o e n) fun j z=>?_
  obtain ⟨k,i,s,rfl,h1,h2,h3,h4⟩:=ghC_io z
  cases s with
  | fz d=>cases h3
  | ow d=>rw [R.new i d a h2 h4] at e; cases e
  | io d =>
   obtain ⟨a',g⟩:=R.ioi i d h2
   obtain ⟨_,_,g2⟩:=R.io i a' g
   rw [h4] at g2; cases g2
   exact n i g
 ·obtain ⟨s0,h1,h2⟩:=wb_cases R R' nd e
  rcases h2 with ⟨rfl,_⟩ | ⟨w0,k,d',_,_,z⟩
  ·obtain ⟨v,g1,g2⟩:=R.fz i d h1
   exact ⟨v,g1,g2.mono sb⟩
  ·cases s0 <;> simp [Sl.put,isOw] at z w0
 ·obtain ⟨s0,h1,h2⟩:=wb_cases R R' nd e
  rcases h2 with ⟨rfl,hm⟩ | ⟨w0,k,d',hk,hd,rfl⟩
  ·obtain ⟨a,o,g1,g2,g3,g4⟩:=R.ow i s h1 w
   have nio:∀ j,(ghC own fr F H σ ρ).io j ≠ some a:=fun j z=>by
    obtain ⟨k,i',s',rfl,q1,q2,q3,q4⟩:=ghC_io z
    have:=R.ap i i' s s' a h1 w q2 q3 g1 q4
    subst this
    exact hm w (List.mem_of_getElem? q1)
   refine ⟨a,o,g1,?_,R'.keep a o g3 nio,g4.mono sb⟩
   cases q:F' a with
   | none=>rfl
   | some u =>
    rcases R'.fn a u q with z | z
    ·have z:F a = some u:=z
     rw [g2] at z; cases z
    ·have z:H a = none:=z
     rw [g3] at z; cases z
  ·obtain ⟨a,o,g1,g2,g3,g4⟩:=R.ow i s0 h1 w0
   obtain ⟨d2,q1,q2⟩:=R'.io _ _ (ghC_of (own:=own) (F:=F) (H:=H) hk h1 w0 g1)
   obtain ⟨a',o',p1,p2,p3,p4⟩:=R'.ow _ _ hd rfl
   rw [q2] at p1; cases p1
   exact ⟨a,o',g1,p2,p3,by cases s0 <;> first | exact p4 | cases w0⟩
 ·obtain ⟨s0,h1,h2⟩:=wb_cases R R' nd e
  rcases h2 with ⟨rfl,_⟩ | ⟨w0,k,d',_,_,z⟩
  ·exact R.new i d a h1 ea
  ·cases s0 with
   | fz d=>cases w0
   | ow d0=>exact R.new i d0 a h1 ea
   | io d0=>cases z
 ·obtain ⟨d,h1,h2⟩:=R.io i a e
  obtain ⟨d',hd⟩:=wb1_io (d:=d) ((fr.zip (μ.drop own.length)).lookup i)
  exact ⟨d',by rw [wbGo_get,h1]; simp only [Option.map_some,Nat.zero_add]; rw [hd],h2⟩
 ·obtain ⟨s0,h1,h2⟩:=wb_cases R R' nd e
  rcases h2 with ⟨rfl,_⟩ | ⟨w0,k,d',_,_,z⟩
  ·exact R.ioi i d h1
  ·cases s0 with
   | fz d=>cases w0
   | ow d0=>cases z
   | io d0=>exact R.ioi i d0 h1
 ·obtain ⟨s0,g1,g2⟩:=owns e1 w1
  obtain ⟨t0,g3,g4⟩:=owns e2 w2
  exact R.ap i j s0 t0 a g1 g2 g3 g4 e3 e4
end
end L3
namespace L3
open PySem PySem.Spec L2
noncomputable abbrev Con:=List Sl -> (Sl -> Ev -> Prop) -> Prop
noncomputable def conSp (K:Fg) (con:Con):Sp:=fun vs H Q _=>∃ (G:Gh) (F:Hp) (args:List Sl) (Qd:Sl -> Ev -> Prop),Rel K G F (vs.map some) H (args.map some) /\ con args Qd /\
 ∀ v H' F' r ρ',Sub F F' -> Rel K G F' (vs.map some) H' ρ' -> Res K G F' H' (vs.map some) ρ' v r -> Qd r ρ' -> Q v H'
mutual
noncomputable def noMut:D -> Bool
 | .none=>true
 | .bool _=>true
 | .int _=>true
 | .str _=>true
 | .tuple xs=>noMutAll xs
 | .list _=>false
 | .dict _=>false
noncomputable def noMutAll:List D -> Bool
 | []=>true
 | x :: xs=>noMut x && noMutAll xs
end
section
variable {K:Fg} {F F':Hp}
mutual
theorem Da.noMut (h:∀ b xs,F b = some (.tup xs) -> F' b = some (.tup xs)):∀ {v:V} {d:D},Da K F v d -> noMut d = true -> Da K F' v d
 | _,_,.non,_=>.non
 | _,_,.bl b,_=>.bl b
 | _,_,.int i,_=>.int i
 | _,_,.str x,_=>.str x
 | _,_,.lst _ _,z=>by simp [L3.noMut] at z
 | _,_,.tup e t,z=>.tup (h _ _ e) (DaAll.noMut h t (by simpa [L3.noMut] using z))
 | _,_,.dk _ _,z=>by simp [L3.noMut] at z
 | _,_,.dt _ _,z=>by simp [L3.noMut] at z
 | _,_,.scr _,z=>by simp [L3.noMut,scrD] at z
theorem DaAll.noMut (h:∀ b xs,F b = some (.tup xs) -> F' b = some (.tup xs)):∀ {xs:List V} {ds:List D},DaAll K F xs ds -> noMutAll ds = true -> DaAll K F' xs ds
 | _,_,.nil,_=>.nil
 | _,_,.cons a t,z=>by
  simp [noMutAll] at z
  exact .cons (Da.noMut h a z.1) (DaAll.noMut h t z.2)
end
end
noncomputable def lentAny (ρ:Ev):List Opd -> Bool
 | []=>false
 | .inr _ :: xs=>lentAny ρ xs
 | .inl i :: xs=>(match ρ[i]? with | some (some s)=>isOw s | _=>false) || lentAny ρ xs
noncomputable def dCall (con:Con) (as:List AD):TD:=fun ρ Q=>dArgs as ρ fun xs ρ1=>looksQ ρ1 xs fun ds=>con (ds.map Sl.fz) fun r _=>match lentAny ρ1 xs with
 | false=>Q r ρ1
 | true=>noMut r.d = true /\ Q r ρ1
noncomputable def callI (con:Con) (i:Nat) (xs:List Opd) (ρ1:Ev) (Q:Sl -> Ev -> Prop):Prop:=match ρ1[i]? with
 | some (some s)=>match isOw s,lentAny ρ1 xs with
  | true,false=>looksQ ρ1 xs fun ds=>con (.io s.d :: ds.map Sl.fz) fun r outs=>match outs with
   | some (.io d') :: _=>Q r (ρ1.set i (some (s.put d')))
   | _=>False
  | _,_=>False
 | _=>False
noncomputable def dCallI (con:Con) (i:Nat) (as:List AD):TD:=fun ρ Q=>dArgs (.inl i :: as) ρ fun xs ρ1=>callI con i xs.tail ρ1 Q
noncomputable def LentA (σ:St) (ρ:Ev) (xs:List Opd) (a:Addr):Prop:=∃ (i:Nat) (s:Sl),Sum.inl i ∈ xs /\ ρ[i]? = some (some s) /\ isOw s = true /\ σ[i]? = some (some (V.ref a))
theorem lentAny_of {σ:St} {ρ:Ev}:∀ {xs:List Opd} {a:Addr},LentA σ ρ xs a -> lentAny ρ xs = true
 | [],a,⟨i,s,h,_⟩=>by cases h
 | .inr d :: xs,a,⟨i,s,h,h1,h2,h3⟩=>by
  rcases List.mem_cons.mp h with h | h
  ·cases h
  ·exact lentAny_of (xs:=xs) ⟨i,s,h,h1,h2,h3⟩
 | .inl j :: xs,a,⟨i,s,h,h1,h2,h3⟩=>by
  unfold lentAny
  rcases List.mem_cons.mp h with h | h
  ·cases h; rw [h1]; simp [h2]
  ·rw [lentAny_of (xs:=xs) ⟨i,s,h,h1,h2,h3⟩]; simp
open Classical in
noncomputable def lend (σ:St) (ρ:Ev) (xs:List Opd) (F H:Hp):Hp:=fun b=>if LentA σ ρ xs b then H b else F b
open Classical in
noncomputable def unlend (σ:St) (ρ:Ev) (xs:List Opd) (F:Hp):Hp:=fun b=>if LentA σ ρ xs b then none else F b
section
variable {K:Fg} {G:Gh} {F F' H H':Hp} {σ:St} {ρ:Ev} {xs:List Opd}
theorem lend_not {b:Addr} (h:¬ LentA σ ρ xs b):lend σ ρ xs F H b = F b:=by unfold lend; rw [if_neg h]
theorem lend_is {b:Addr} (h:LentA σ ρ xs b):lend σ ρ xs F H b = H b:=by unfold lend; rw [if_pos h]
theorem unlend_not {b:Addr} (h:¬ LentA σ ρ xs b):unlend σ ρ xs F b = F b:=by unfold unlend; rw [if_neg h]
theorem unlend_is {b:Addr} (h:LentA σ ρ xs b):unlend σ ρ xs F b = none:=by unfold unlend; rw [if_pos h]
theorem LentA.own (R:Rel K G F σ H ρ) {b:Addr} (h:LentA σ ρ xs b):∃ (i:Nat) (s:Sl) (o:HO),ρ[i]? = some (some s) /\ isOw s = true /\ σ[i]? = some (some (V.ref b)) /\ F b = none /\ H b = some o /\ Own1 K F o s.d:=by
 obtain ⟨i,s,_,h1,h2,h3⟩:=h
 obtain ⟨a,o,g1,g2,g3,g4⟩:=R.ow i s h1 h2
 rw [h3] at g1; cases g1
 exact ⟨i,s,o,h1,h2,h3,g2,g3,g4⟩
theorem lend_sub (R:Rel K G F σ H ρ):Sub F (lend σ ρ xs F H):=fun b o e=>by
 have n:¬ LentA σ ρ xs b:=fun z=>by
  obtain ⟨_,_,_,_,_,_,h,_⟩:=z.own R
  rw [h] at e; cases e
 rw [lend_not n]; exact e
theorem lend_le (R:Rel K G F σ H ρ):Sub (lend σ ρ xs F H) H:=fun b o e=>by
 by_cases z:LentA σ ρ xs b
 ·rw [lend_is z] at e; exact e
 ·rw [lend_not z] at e; exact R.sub _ _ e
theorem lend_looks (R:Rel K G F σ H ρ) {ys:List Opd} {vs:List V} {k:List D -> Prop} (m:∀ y ∈ ys,y ∈ xs) (o:OpdsAt K F σ vs ys) (h:looksQ ρ ys k):∃ ds,DaAll K (lend σ ρ xs F H) vs ds /\ k ds:=by
 induction o generalizing k with
 | nil=>exact ⟨[],.nil,h⟩
 | @cons v x vs ys o t ih =>
  cases x with
  | inr d =>
   obtain ⟨ds,a,q⟩:=ih (k:=fun ds=>k (d :: ds)) (fun y hy=>m y (List.mem_cons_of_mem _ hy)) h
   exact ⟨d :: ds,.cons (Da.mono (lend_sub R) o) a,q⟩
  | inl i =>
   unfold looksQ at h
   split at h
   ·rename_i s e
    obtain ⟨ds,a,q⟩:=ih (k:=fun ds=>k (s.d :: ds)) (fun y hy=>m y (List.mem_cons_of_mem _ hy)) h
    refine ⟨s.d :: ds,.cons ?_ a,q⟩
    have o:σ[i]? = some (some v):=o
    have own:isOw s = true -> Da K (lend σ ρ xs F H) v s.d:=fun w=>by
     obtain ⟨b,u,h1,h2,h3,h4⟩:=R.ow i s e w
     rw [o] at h1; cases h1
     have l:LentA σ ρ xs b:=⟨i,s,m _ List.mem_cons_self,e,w,o⟩
     exact (h4.mono (lend_sub R)).da (by rw [lend_is l]; exact h3)
    cases s with
    | fz d =>
     obtain ⟨v,e1,e2⟩:=R.fz i d e
     rw [o] at e1; cases e1
     exact e2.mono (lend_sub R)
    | ow d=>exact own rfl
    | io d=>exact own rfl
   ·exact h.elim
theorem own_noMut {o:HO} {d:D} (h:Own1 K F o d):noMut d = false:=by
 cases o with
 | ext φ=>obtain ⟨a',ep,xs,ps,z,rfl,t⟩:=h.ext; rfl
 | _=>cases d <;> first | rfl | exact h.elim
theorem get_fz {ds:List D} {i:Nat} {s:Sl} (h:((ds.map Sl.fz).map some)[i]? = some (some s)):∃ d,ds[i]? = some d /\ s = .fz d:=by
 rw [List.map_map,List.getElem?_map] at h
 cases e:ds[i]? with
 | none=>rw [e] at h; cases h
 | some d=>rw [e] at h; cases h; exact ⟨d,rfl,rfl⟩
theorem get_vs {vs:List V} {i:Nat} {v:V} (h:vs[i]? = some v):(vs.map some)[i]? = some (some v):=by rw [List.getElem?_map,h]; rfl
theorem rel_call {vs:List V} {ds:List D} (s:Sub F H) (da:DaAll K F vs ds):Rel K ⟨H,F,fun _=>none⟩ F (vs.map some) H ((ds.map Sl.fz).map some) where
 len:=by simp [da.length]
 sub:=s
 sub0:=Sub.refl _
 fn:=fun _ _ e=>.inl e
 keep:=fun _ _ e _=>e
 fz:=fun i d e=>by
  obtain ⟨d',e1,e2⟩:=get_fz e
  cases e2
  obtain ⟨v,h1,h2⟩:=da.get e1
  exact ⟨v,get_vs h1,h2⟩
 ow:=fun i s e w=>by obtain ⟨d',e1,rfl⟩:=get_fz e; cases w
 new:=fun i d a e _=>by obtain ⟨d',e1,e2⟩:=get_fz e; cases e2
 io:=fun i a e=>by cases e
 ioi:=fun i d e=>by obtain ⟨d',e1,e2⟩:=get_fz e; cases e2
 ap:=fun i j s t a e w _ _ _ _=>by obtain ⟨d',e1,rfl⟩:=get_fz e; cases w
theorem Rel.called (R:Rel K G F σ H ρ) {σ1:St} {ρ1:Ev} (R':Rel K ⟨H,lend σ ρ xs F H,fun _=>none⟩ F' σ1 H' ρ1):Sub F (unlend σ ρ xs F') /\ Rel K G (unlend σ ρ xs F') σ H' ρ:=by
 have nl:∀ {b:Addr} {o:HO},F b = some o -> ¬ LentA σ ρ xs b:=fun {b o} e z=>by
  obtain ⟨_,_,_,_,_,_,h,_⟩:=z.own R
  rw [h] at e; cases e
 have sb:Sub F (unlend σ ρ xs F'):=fun b o e=>by
  rw [unlend_not (nl e)]
  exact R'.sub0 _ _ (lend_sub R _ _ e)
 have ul:∀ {b:Addr} {o:HO},unlend σ ρ xs F' b = some o -> ¬ LentA σ ρ xs b /\ F' b = some o:=fun {b o} e=>by
  by_cases z:LentA σ ρ xs b
  ·rw [unlend_is z] at e; cases e
  ·rw [unlend_not z] at e; exact ⟨z,e⟩
 have kp:∀ {b:Addr} {o:HO},H b = some o -> H' b = some o:=fun {b o} e=>R'.keep b o e fun i z=>by cases z
 refine ⟨sb,R.len,fun b o e=>R'.sub _ _ (ul e).2,R.sub0.trans sb,fun b o e=>?_,fun a o e n=>kp (R.keep a o e n),fun i d e=>?_,fun i s e w=>?_,R.new,R.io,R.ioi,R.ap⟩
 ·obtain ⟨n,e⟩:=ul e
  rcases R'.fn b o e with q | q
  ·have q:lend σ ρ xs F H b = some o:=q
   rw [lend_not n] at q
   exact R.fn b o q
  ·exact .inr (R.h0 q)
 ·obtain ⟨v,h1,h2⟩:=R.fz i d e
  exact ⟨v,h1,h2.mono sb⟩
 ·obtain ⟨a,o,h1,h2,h3,h4⟩:=R.ow i s e w
  refine ⟨a,o,h1,?_,kp h3,h4.mono sb⟩
  cases q:unlend σ ρ xs F' a with
  | none=>rfl
  | some u =>
   obtain ⟨n,q⟩:=ul q
   rcases R'.fn a u q with z | z
   ·have z:lend σ ρ xs F H a = some u:=z
    rw [lend_not n,h2] at z; cases z
   ·have z:H a = none:=z
    rw [h3] at z; cases z
theorem Res.called (R:Rel K G F σ H ρ) {σ1:St} {ρ1:Ev} {v:V} {r:Sl} (R':Rel K ⟨H,lend σ ρ xs F H,fun _=>none⟩ F' σ1 H' ρ1) (q:Res K ⟨H,lend σ ρ xs F H,fun _=>none⟩ F' H' σ1 ρ1 v r)
  (hl:lentAny ρ xs = true -> noMut r.d = true):Res K G (unlend σ ρ xs F') H' σ ρ v r:=by
 have tp:∀ b ys,F' b = some (.tup ys) -> unlend σ ρ xs F' b = some (.tup ys):=fun b ys e=>by
  have n:¬ LentA σ ρ xs b:=fun z=>by
   obtain ⟨_,_,o,_,_,_,_,h,w⟩:=z.own R
   have e2:=R'.sub0 b o (by show lend σ ρ xs F H b = some o; rw [lend_is z]; exact h)
   rw [e] at e2; cases e2
   exact w
  rw [unlend_not n]; exact e
 by_cases l:lentAny ρ xs = true
 ·cases r with
  | fz d=>exact Da.noMut tp q (hl l)
  | ow d =>
   obtain ⟨a,o,_,_,_,w,_⟩:=q
   have:=hl l
   rw [show (Sl.ow d).d = d from rfl,own_noMut w] at this; cases this
  | io d=>exact q.elim
 ·have e:unlend σ ρ xs F' = F':=funext fun b=>unlend_not fun z=>l (lentAny_of z)
  rw [e]
  cases r with
  | fz d=>exact q
  | io d=>exact q.elim
  | ow d =>
   obtain ⟨a,o,h1,h2,h3,h4,h5,_⟩:=q
   refine ⟨a,o,h1,h2,h3,h4,R.h0 h5,fun i s es w z=>?_⟩
   obtain ⟨a',o',g1,_,g3,_⟩:=R.ow i s es w
   rw [z] at g1; cases g1
   have h5:H a = none:=h5
   rw [h5] at g3; cases g3
theorem l_call {con:Con} {as:List AD} {E:XK} {Q:VK} (h:lift K (dCall con as) σ H Q):tCall (conSp K con) [] E (tArgs (as.map (argT K))) σ H Q:=by
 obtain ⟨G,F,ρ,Qd,R,w,k⟩:=h
 refine args_ok R w fun vs H1 F1 xs ρ1 s1 R1 o w1=>?_
 obtain ⟨ds,da,w1⟩:=lend_looks (xs:=xs) R1 (fun y hy=>hy) o w1
 rw [List.append_nil]
 refine ⟨_,_,ds.map Sl.fz,_,rel_call (lend_le R1) da,w1,fun v H' F' r ρ' s' R' r' q=>?_⟩
 obtain ⟨sb,R2⟩:=R1.called R'
 have hq:(lentAny ρ1 xs = true -> noMut r.d = true) /\ Qd r ρ1:=by
  split at q
  ·rename_i e; exact ⟨fun z=>(by rw [e] at z; cases z),q⟩
  ·exact ⟨fun _=>q.1,q.2⟩
 exact k v H' _ r ρ1 (s1.trans sb) R2 (Res.called R1 R' r' hq.1) hq.2
end
end L3
namespace L3
open PySem PySem.Spec L2
section
variable {K:Fg} {G:Gh} {F F' H H':Hp} {σ:St} {ρ:Ev} {xs:List Opd}
noncomputable def ioA (a:Addr):Nat -> Option Addr:=fun j=>if j = 0 then some a else none
theorem ioA_some {a b:Addr} {j:Nat} (h:ioA a j = some b):j = 0 /\ b = a:=by
 unfold ioA at h
 split at h
 ·rename_i z; cases h; exact ⟨z,rfl⟩
 ·cases h
theorem rel_callI {vs:List V} {ds:List D} {a:Addr} {o:HO} {d:D} (s:Sub F H) (h1:F a = none) (h2:H a = some o) (h3:Own1 K F o d) (da:DaAll K F vs ds) :
  Rel K ⟨H,F,ioA a⟩ F ((V.ref a :: vs).map some) H ((Sl.io d :: ds.map Sl.fz).map some) where
 len:=by simp [da.length]
 sub:=s
 sub0:=Sub.refl _
 fn:=fun _ _ e=>.inl e
 keep:=fun _ _ e _=>e
 fz:=fun i d' e=>by
  cases i with
  | zero=>simp at e
  | succ i =>
   have e:((ds.map Sl.fz).map some)[i]? = some (some (Sl.fz d')):=by simpa using e
   obtain ⟨d2,e1,e2⟩:=get_fz e
   cases e2
   obtain ⟨v,g1,g2⟩:=da.get e1
   exact ⟨v,by simpa using g1,g2⟩
 ow:=fun i s e w=>by
  cases i with
  | zero=>simp at e; subst e; exact ⟨a,o,by simp,h1,h2,h3⟩
  | succ i =>
   have e:((ds.map Sl.fz).map some)[i]? = some (some s):=by simpa using e
   obtain ⟨d2,e1,rfl⟩:=get_fz e
   cases w
 new:=fun i d' b e _=>by
  cases i with
  | zero=>simp at e
  | succ i =>
   have e:((ds.map Sl.fz).map some)[i]? = some (some (Sl.ow d')):=by simpa using e
   obtain ⟨d2,e1,e2⟩:=get_fz e
   cases e2
 io:=fun i b e=>by
  obtain ⟨rfl,rfl⟩:=ioA_some e
  exact ⟨d,by simp,by simp⟩
 ioi:=fun i d' e=>by
  cases i with
  | zero=>exact ⟨a,rfl⟩
  | succ i =>
   have e:((ds.map Sl.fz).map some)[i]? = some (some (Sl.io d')):=by simpa using e
   obtain ⟨d2,e1,e2⟩:=get_fz e
   cases e2
 ap:=fun i j s t b e1 w1 e2 w2 _ _=>by
  have f:∀ {i:Nat} {s:Sl},((Sl.io d :: ds.map Sl.fz).map some)[i]? = some (some s) -> isOw s = true -> i = 0:=fun {i s} e w=>by
   cases i with
   | zero=>rfl
   | succ i =>
    have e:((ds.map Sl.fz).map some)[i]? = some (some s):=by simpa using e
    obtain ⟨d2,e1,rfl⟩:=get_fz e
    cases w
  rw [f e1 w1,f e2 w2]
theorem Rel.calledI (R:Rel K G F σ H ρ) {i:Nat} {s:Sl} {a:Addr} {d':D} {σ1:St} {ρ1:Ev} (e:ρ[i]? = some (some s)) (w:isOw s = true) (ea:σ[i]? = some (some (V.ref a)))
  (R':Rel K ⟨H,F,ioA a⟩ F' (some (V.ref a) :: σ1) H' (some (Sl.io d') :: ρ1)):Rel K G F' σ H' (ρ.set i (some (s.put d'))):=by
 obtain ⟨a0,o0,g1,g2,g3,g4⟩:=R.ow i s e w
 rw [ea] at g1; cases g1
 have sb:Sub F F':=R'.sub0
 have hl:=lt_of_get e
 have kp:∀ {b:Addr} {o:HO},b ≠ a -> H b = some o -> H' b = some o:=fun {b o} n q=>R'.keep b o q fun j z=>n (ioA_some z).2
 have ow':∀ {j:Nat} {t:Sl},j ≠ i -> ρ[j]? = some (some t) -> isOw t = true -> ∃ b o,σ[j]? = some (some (V.ref b)) /\ F' b = none /\ H' b = some o /\ Own1 K F' o t.d:=fun {j t} n q wt=>by
  obtain ⟨b,o,q1,q2,q3,q4⟩:=R.ow j t q wt
  have nb:b ≠ a:=fun z=>n (R.ap j i t s a q wt e w (by rw [q1,z]) ea)
  refine ⟨b,o,q1,?_,kp nb q3,q4.mono sb⟩
  cases z:F' b with
  | none=>rfl
  | some u =>
   rcases R'.fn b u z with y | y
   ·have y:F b = some u:=y
    rw [q2] at y; cases y
   ·have y:H b = none:=y
    rw [q3] at y; cases y
 refine ⟨by rw [List.length_set]; exact R.len,R'.sub,R.sub0.trans sb,fun b o q=>?_,fun b o q n=>?_,fun j d q=>?_,fun j t q wt=>?_,fun j d b q eb=>?_,fun j b q=>?_,fun j d q=>?_,fun j k t u b e1 w1 e2 w2 e3 e4=>?_⟩
 ·rcases R'.fn b o q with y | y
  ·exact R.fn b o y
  ·exact .inr (R.h0 y)
 ·refine kp (fun z=>?_) (R.keep b o q n)
  subst z
  cases s with
  | fz d=>cases w
  | ow d=>rw [R.new i d b e ea] at q; cases q
  | io d =>
   obtain ⟨a',y⟩:=R.ioi i d e
   obtain ⟨_,_,y2⟩:=R.io i a' y
   rw [ea] at y2; cases y2
   exact n i y
 ·rcases get_set q with ⟨rfl,z⟩ | ⟨n,z⟩
  ·cases s <;> simp [Sl.put,isOw] at z w
  ·obtain ⟨v,y1,y2⟩:=R.fz j d z
   exact ⟨v,y1,y2.mono sb⟩
 ·rcases get_set q with ⟨rfl,z⟩ | ⟨n,z⟩
  ·cases z
   obtain ⟨b,o,y1,y2,y3,y4⟩:=R'.ow 0 (.io d') (by simp) rfl
   simp at y1; subst y1
   exact ⟨a,o,ea,y2,y3,by cases s <;> first | exact y4 | cases w⟩
  ·exact ow' n z wt
 ·rcases get_set q with ⟨rfl,z⟩ | ⟨n,z⟩
  ·cases s with
   | fz d=>cases w
   | ow d0=>exact R.new j d0 b e eb
   | io d0=>cases z
  ·exact R.new j d b z eb
 ·obtain ⟨d,y1,y2⟩:=R.io j b q
  by_cases z:j = i
  ·subst z
   rw [e] at y1; cases y1
   exact ⟨d',by rw [set_get hl]; rfl,y2⟩
  ·exact ⟨d,by rw [List.getElem?_set_ne (Ne.symm z)]; exact y1,y2⟩
 ·rcases get_set q with ⟨rfl,z⟩ | ⟨n,z⟩
  ·cases s with
   | fz d=>cases w
   | ow d0=>cases z
   | io d0=>exact R.ioi j d0 e
  ·exact R.ioi j d z
 ·have f:∀ (j:Nat) (t:Sl),(ρ.set i (some (s.put d')))[j]? = some (some t) -> isOw t = true -> ∃ t',ρ[j]? = some (some t') /\ isOw t' = true:=fun j t q wt=>by
   rcases get_set q with ⟨rfl,z⟩ | ⟨n,z⟩
   ·exact ⟨s,e,w⟩
   ·exact ⟨t,z,wt⟩
  obtain ⟨t',e1',w1'⟩:=f j t e1 w1
  obtain ⟨u',e2',w2'⟩:=f k u e2 w2
  exact R.ap j k t' u' b e1' w1' e2' w2' e3 e4
theorem noLent_looks (R:Rel K G F σ H ρ) {ys:List Opd} {vs:List V} {k:List D -> Prop} (m:lentAny ρ ys = false) (o:OpdsAt K F σ vs ys) (h:looksQ ρ ys k):∃ ds,DaAll K F vs ds /\ k ds:=by
 induction o generalizing k with
 | nil=>exact ⟨[],.nil,h⟩
 | @cons v x vs ys o t ih =>
  cases x with
  | inr d =>
   obtain ⟨ds,a,q⟩:=ih (k:=fun ds=>k (d :: ds)) m h
   exact ⟨d :: ds,.cons o a,q⟩
  | inl i =>
   unfold looksQ at h
   unfold lentAny at m
   simp only [Bool.or_eq_false_iff] at m
   split at h
   ·rename_i s e
    obtain ⟨ds,a,q⟩:=ih (k:=fun ds=>k (s.d :: ds)) m.2 h
    refine ⟨s.d :: ds,.cons ?_ a,q⟩
    have m1:=m.1
    rw [e] at m1
    cases s with
    | fz d =>
     obtain ⟨v',e1,e2⟩:=R.fz i d e
     have o:σ[i]? = some (some v):=o
     rw [o] at e1; cases e1
     exact e2
    | ow d=>cases m1
    | io d=>cases m1
   ·exact h.elim
theorem l_callI {con:Con} {i:Nat} {as:List AD} {E:XK} {Q:VK} (h:lift K (dCallI con i as) σ H Q):tCall (conSp K con) [] E (tArgs ((.inl i :: as).map (argT K))) σ H Q:=by
 obtain ⟨G,F,ρ,Qd,R,w,k⟩:=h
 unfold dCallI dArgs at w
 split at w
 ·rename_i s0 e0
  obtain ⟨v,ev⟩:=R.bound e0
  refine ⟨v,ev,args_ok R w fun vs H1 F1 xs ρ1 s1 R1 o w1=>?_⟩
  show conSp K con (v :: vs ++ []) H1 Q E
  rw [List.append_nil]
  have w1:callI con i xs ρ1 Qd:=w1
  unfold callI at w1
  split at w1
  ·rename_i s e
   split at w1
   ·rename_i p1 p2
    obtain ⟨a,o',g1,g2,g3,g4⟩:=R1.ow i s e p1
    rw [ev] at g1; cases g1
    obtain ⟨ds,da,w1⟩:=noLent_looks R1 p2 o w1
    refine ⟨_,F1,.io s.d :: ds.map Sl.fz,_,rel_callI R1.sub g2 g3 g4 da,w1,fun v H' F' r ρ' s' R' r' q=>?_⟩
    split at q
    ·rename_i d' ρ2
     have R2:=R1.calledI e p1 ev R'
     refine k v H' F' r _ (s1.trans s') R2 ?_ q
     cases r with
     | fz d=>exact r'
     | io d=>exact r'.elim
     | ow d =>
      obtain ⟨b,u,h1,h2,h3,h4,h5,_⟩:=r'
      have h5:H1 b = none:=h5
      refine ⟨b,u,h1,h2,h3,h4,R1.h0 h5,fun j t es w z=>?_⟩
      have own:∃ t',ρ1[j]? = some (some t') /\ isOw t' = true:=by
       rcases get_set es with ⟨rfl,y⟩ | ⟨n,y⟩
       ·exact ⟨s,e,p1⟩
       ·exact ⟨t,y,w⟩
      obtain ⟨t',y1,y2⟩:=own
      obtain ⟨a',o',q1,_,q3,_⟩:=R1.ow j t' y1 y2
      rw [z] at q1; cases q1
      rw [h5] at q3; cases q3
    ·exact q.elim
   ·exact w1.elim
  ·exact w1.elim
 ·exact w.elim
noncomputable def startE (n:Nat) (args:List Sl):Ev:=args.map some ++ List.replicate (n - args.length) none
noncomputable def outs:List Sl -> Ev -> Ev
 | [],_=>[]
 | .io _ :: as,ρ=>(ρ.headD none) :: outs as ρ.tail
 | .fz d :: as,ρ=>some (.fz d) :: outs as ρ.tail
 | .ow d :: as,ρ=>some (.ow d) :: outs as ρ.tail
theorem app_none {α:Type} {l:List (Option α)} {n i:Nat} {x:α} (h:(l ++ List.replicate n none)[i]? = some (some x)):l[i]? = some (some x):=by
 by_cases z:i < l.length
 ·rw [List.getElem?_append_left z] at h; exact h
 ·rw [List.getElem?_append_right (Nat.le_of_not_lt z),List.getElem?_replicate] at h
  split at h <;> cases h
theorem app_left {α:Type} {l m:List α} {i:Nat} {x:α} (h:l[i]? = some x):(l ++ m)[i]? = some x:=by rw [List.getElem?_append_left (lt_of_get h)]; exact h
theorem Rel.start {vs:List V} {args:List Sl} {N:List Str} (R:Rel K G F (vs.map some) H (args.map some)):Rel K G F (L2.start N vs) H (startE N.length args) where
 len:=by have:=R.len; simp [L2.start,startE] at this ⊢; omega
 sub:=R.sub
 sub0:=R.sub0
 fn:=R.fn
 keep:=R.keep
 fz:=fun i d e=>by
  obtain ⟨v,h1,h2⟩:=R.fz i d (app_none e)
  exact ⟨v,app_left h1,h2⟩
 ow:=fun i s e w=>by
  obtain ⟨a,o,h1,h2⟩:=R.ow i s (app_none e) w
  exact ⟨a,o,app_left h1,h2⟩
 new:=fun i d a e ea=>R.new i d a (app_none e) (app_none ea)
 io:=fun i a e=>by
  obtain ⟨d,h1,h2⟩:=R.io i a e
  exact ⟨d,app_left h1,app_left h2⟩
 ioi:=fun i d e=>R.ioi i d (app_none e)
 ap:=fun i j s t a e1 w1 e2 w2 e3 e4=>R.ap i j s t a (app_none e1) w1 (app_none e2) w2 (app_none e3) (app_none e4)
theorem outs_get:∀ {args:List Sl} {ρ:Ev} {i:Nat} {s:Sl},(outs args ρ)[i]? = some (some s) -> (∃ d,args[i]? = some (.io d) /\ ρ[i]? = some (some s)) \/ (args[i]? = some s /\ ∀ d,s ≠ .io d)
 | [],ρ,i,s,h=>by simp [outs] at h
 | .io d :: as,ρ,0,s,h=>by
  simp [outs] at h
  cases ρ with
  | nil=>simp at h
  | cons x ρ=>simp at h; exact .inl ⟨d,by simp,by simp [h]⟩
 | .fz d :: as,ρ,0,s,h=>by simp [outs] at h; subst h; exact .inr ⟨by simp,fun d z=>by cases z⟩
 | .ow d :: as,ρ,0,s,h=>by simp [outs] at h; subst h; exact .inr ⟨by simp,fun d z=>by cases z⟩
 | .io d :: as,ρ,i + 1,s,h=>by
  simp only [outs,List.getElem?_cons_succ] at h
  rcases outs_get h with ⟨d,h1,h2⟩ | ⟨h1,h2⟩
  ·exact .inl ⟨d,by simpa using h1,by cases ρ with | nil=>simp at h2 | cons x ρ=>simpa using h2⟩
  ·exact .inr ⟨by simpa using h1,h2⟩
 | .fz d :: as,ρ,i + 1,s,h=>by
  simp only [outs,List.getElem?_cons_succ] at h
  rcases outs_get h with ⟨d,h1,h2⟩ | ⟨h1,h2⟩
  ·exact .inl ⟨d,by simpa using h1,by cases ρ with | nil=>simp at h2 | cons x ρ=>simpa using h2⟩
  ·exact .inr ⟨by simpa using h1,h2⟩
 | .ow d :: as,ρ,i + 1,s,h=>by
  simp only [outs,List.getElem?_cons_succ] at h
  rcases outs_get h with ⟨d,h1,h2⟩ | ⟨h1,h2⟩
  ·exact .inl ⟨d,by simpa using h1,by cases ρ with | nil=>simp at h2 | cons x ρ=>simpa using h2⟩
  ·exact .inr ⟨by simpa using h1,h2⟩
theorem outs_of:∀ {args:List Sl} {ρ:Ev} {i:Nat} {d:D} {x:Option Sl},args[i]? = some (.io d) -> ρ[i]? = some x -> (outs args ρ)[i]? = some x
 | [],_,_,_,_,h,_=>by simp at h
 | _ :: _,[],_,_,_,_,h=>by simp at h
 | s :: as,y :: ρ,0,d,x,h,h'=>by simp at h h'; subst h h'; simp [outs]
 | s :: as,y :: ρ,i + 1,d,x,h,h'=>by
  have:=outs_of (args:=as) (ρ:=ρ) (i:=i) (by simpa using h) (by simpa using h')
  cases s <;> simpa [outs] using this
theorem outs_len:∀ (args:List Sl) (ρ:Ev),(outs args ρ).length = args.length
 | [],_=>rfl
 | s :: as,ρ=>by cases s <;> simp [outs,outs_len as]
theorem get_args {args:List Sl} {i:Nat} {s:Sl} (h:(args.map some)[i]? = some (some s)):args[i]? = some s:=by
 rw [List.getElem?_map] at h
 cases e:args[i]? with
 | none=>rw [e] at h; cases h
 | some x=>rw [e] at h; cases h; rfl
theorem args_get {args:List Sl} {i:Nat} {s:Sl} (h:args[i]? = some s):(args.map some)[i]? = some (some s):=by rw [List.getElem?_map,h]; rfl
theorem Rel.ret {vs:List V} {args:List Sl} {σ':St} {ρ':Ev} (hn:∀ s ∈ args,∀ d,s ≠ .ow d) (R:Rel K G F (vs.map some) H (args.map some)) (sb:Sub F F') (R':Rel K G F' σ' H' ρ'):Rel K G F' (vs.map some) H' (outs args ρ'):=by
 have own:∀ {i:Nat} {s:Sl},(outs args ρ')[i]? = some (some s) -> isOw s = true -> ∃ d a,args[i]? = some (.io d) /\ ρ'[i]? = some (some s) /\ G.io i = some a /\ (vs.map some)[i]? = some (some (V.ref a)) /\ σ'[i]? = some (some (V.ref a)):=fun {i s} e w=>by
  rcases outs_get e with ⟨d,h1,h2⟩ | ⟨h1,h2⟩
  ·obtain ⟨a,h3⟩:=R.ioi i d (args_get h1)
   obtain ⟨_,_,h4⟩:=R.io i a h3
   obtain ⟨_,_,h5⟩:=R'.io i a h3
   exact ⟨d,a,h1,h2,h3,h4,h5⟩
  ·cases s with
   | fz d=>cases w
   | ow d=>exact (hn _ (List.mem_of_getElem? h1) d rfl).elim
   | io d=>exact (h2 d rfl).elim
 refine ⟨by rw [outs_len]; simpa using R.len,R'.sub,R'.sub0,R'.fn,R'.keep,fun i d e=>?_,fun i s e w=>?_,fun i d a e ea=>?_,fun i a e=>?_,fun i d e=>?_,fun i j s t a e1 w1 e2 w2 e3 e4=>?_⟩
 ·rcases outs_get e with ⟨d',h1,h2⟩ | ⟨h1,h2⟩
  ·obtain ⟨a,h3⟩:=R.ioi i d' (args_get h1)
   obtain ⟨d2,h4,_⟩:=R'.io i a h3
   rw [h2] at h4; cases h4
  ·obtain ⟨v,h3,h4⟩:=R.fz i d (args_get h1)
   exact ⟨v,h3,h4.mono sb⟩
 ·obtain ⟨d,a,h1,h2,h3,h4,h5⟩:=own e w
  obtain ⟨b,o,g1,g2⟩:=R'.ow i s h2 w
  rw [h5] at g1; cases g1
  exact ⟨a,o,h4,g2⟩
 ·obtain ⟨d',b,h1,h2,h3,h4,h5⟩:=own e rfl
  rw [h4] at ea; cases ea
  exact R'.new i d _ h2 h5
 ·obtain ⟨d,h1,h2⟩:=R.io i a e
  obtain ⟨d',h3,h4⟩:=R'.io i a e
  exact ⟨d',outs_of (get_args h1) h3,h2⟩
 ·obtain ⟨d',a,h1,h2,h3,h4,h5⟩:=own e rfl
  exact ⟨a,h3⟩
 ·obtain ⟨_,a1,_,h2,_,h4,h5⟩:=own e1 w1
  obtain ⟨_,a2,_,g2,_,g4,g5⟩:=own e2 w2
  rw [h4] at e3; cases e3
  rw [g4] at e4; cases e4
  exact R'.ap i j s t a h2 w1 g2 w2 h5 g5
theorem Res.ret {vs:List V} {args:List Sl} {σ':St} {ρ':Ev} {v:V} {r:Sl} (hn:∀ s ∈ args,∀ d,s ≠ .ow d) (R:Rel K G F (vs.map some) H (args.map some)) (R':Rel K G F' σ' H' ρ') (q:Res K G F' H' σ' ρ' v r):Res K G F' H' (vs.map some) (outs args ρ') v r:=by
 cases r with
 | fz d=>exact q
 | io d=>exact q.elim
 | ow d =>
  obtain ⟨a,o,h1,h2,h3,h4,h5,h6⟩:=q
  refine ⟨a,o,h1,h2,h3,h4,h5,fun i s e w z=>?_⟩
  rcases outs_get e with ⟨d',g1,g2⟩ | ⟨g1,g2⟩
  ·obtain ⟨b,g3⟩:=R.ioi i d' (args_get g1)
   obtain ⟨_,_,g4⟩:=R.io i b g3
   obtain ⟨_,_,g5⟩:=R'.io i b g3
   rw [g4] at z; cases z
   exact h6 i s g2 w g5
  ·cases s with
   | fz d=>cases w
   | ow d=>exact (hn _ (List.mem_of_getElem? g1) d rfl).elim
   | io d=>exact (g2 d rfl).elim
noncomputable def endsOf (args:List Sl) (Qd:Sl -> Ev -> Prop):DE:={ nx:=fun ρ=>Qd (.fz .none) (outs args ρ),rt:=fun r ρ=>Qd r (outs args ρ),bk:=fun _=>False,ct:=fun _=>False }
theorem l_def {N:List Str} {con:Con} {ts:TDS} {vs:List V} {Q:VK} {E:XK} (hc:∀ args Qd,con args Qd -> (∀ s ∈ args,∀ d,s ≠ .ow d) /\ ts (endsOf args Qd) (startE N.length args)) (h:conSp K con vs H Q E):liftS K ts { nx:=fun _ H'=>Q .non H',rt:=Q } (L2.start N vs) H:=by
 obtain ⟨G,F,args,Qd,R,w,k⟩:=h
 obtain ⟨hn,w⟩:=hc args Qd w
 refine ⟨G,F,_,_,R.start,w,fun σ' H' F' ρ' s R' q=>?_,fun v σ' H' F' r ρ' s R' r' q=>?_,fun _ _ _ _ _ _ q=>q.elim,fun _ _ _ _ _ _ q=>q.elim⟩
 ·exact k .non H' F' (.fz .none) _ s (R.ret hn s R') Da.non q
 ·exact k v H' F' r _ s (R.ret hn s R') (r'.ret hn R R') q
end
end L3
namespace L3
open PySem PySem.Spec L2
section
variable {K:Fg} {F H:Hp} {v:V}
theorem At.int {i:Int} (h:At K F H v (.int i)):v = .int i:=by
 rcases h with h | ⟨a,o,rfl,_,_,h⟩
 ·cases h; rfl
 ·cases o <;> exact h.elim
theorem At.bool {b:Bool} (h:At K F H v (.bool b)):v = .bl b:=by
 rcases h with h | ⟨a,o,rfl,_,_,h⟩
 ·cases h; rfl
 ·cases o <;> exact h.elim
theorem At.str {x:Str} (h:At K F H v (.str x)):v = .str x:=by
 rcases h with h | ⟨a,o,rfl,_,_,h⟩
 ·cases h; rfl
 ·cases o <;> exact h.elim
theorem At.none (h:At K F H v .none):v = .non:=by
 rcases h with h | ⟨a,o,rfl,_,_,h⟩
 ·cases h; rfl
 ·cases o <;> exact h.elim
theorem At.list {ds:List D} (s:Sub F H) (h:At K F H v (.list ds)):∃ a xs,v = .ref a /\ H a = some (.lst xs) /\ DaAll K F xs ds:=by
 rcases h with h | ⟨a,o,rfl,_,e,h⟩
 ·cases h with
  | lst e t=>exact ⟨_,_,rfl,s _ _ e,t⟩
 ·cases o <;> first | exact h.elim | exact ⟨_,_,rfl,e,h⟩
theorem At.tuple {ds:List D} (s:Sub F H) (h:At K F H v (.tuple ds)):∃ a xs,v = .ref a /\ F a = some (.tup xs) /\ H a = some (.tup xs) /\ DaAll K F xs ds:=by
 rcases h with h | ⟨a,o,rfl,_,e,h⟩
 ·cases h with
  | tup e t=>exact ⟨_,_,rfl,e,s _ _ e,t⟩
 ·cases o <;> exact h.elim
theorem keyD_ne (k:Key):keyD k ≠ .none:=by cases k <;> (intro z; cases z)
theorem Da.scr_inv {ns:List Int}:∀ {d:D},Da K F v d -> d = scrD ns -> ∃ a,v = .ref a /\ SqL K F a (ns.map V.int)
 | _,.non,e=>by cases e
 | _,.bl _,e=>by cases e
 | _,.int _,e=>by cases e
 | _,.str _,e=>by cases e
 | _,.lst _ _,e=>by cases e
 | _,.tup _ _,e=>by cases e
 | _,.dk _ t,e=>by
  cases t with
  | nil=>injection e with e; cases e
  | cons _ _ =>
   injection e with e
   injection e with e _
   injection e with e _
   exact (keyD_ne _ e).elim
 | _,.dt _ t,e=>by
  cases t with
  | nil=>injection e with e; cases e
  | cons _ _ =>
   injection e with e
   injection e with e _
   injection e with e _
   cases e
 | _,.scr (ns:=ns') q,e=>by
  injection e with e
  injection e with e _
  injection e with _ e
  injection e with e2
  have:∀ (l m:List Int),l.map PyData.int = m.map PyData.int -> l = m:=by
   intro l
   induction l with
   | nil=>intro m e; cases m with | nil=>rfl | cons=>simp at e
   | cons a l ih=>intro m e; cases m with | nil=>simp at e | cons b m=>simp at e; rw [e.1,ih m e.2]
  rw [<- this _ _ e2]
  exact ⟨_,rfl,q⟩
theorem At.scr {ns:List Int} (s:Sub F H) (h:At K F H v (scrD ns)):∃ a,v = .ref a /\ SqL K H a (ns.map V.int):=by
 rcases h with h | ⟨a,o,rfl,_,e,h⟩
 ·obtain ⟨a,h1,h2⟩:=h.scr_inv rfl
  exact ⟨a,h1,s.sql h2⟩
 ·exfalso
  cases o <;> first | exact h.elim | skip
  ·rename_i kvs
   have h:DaKV K F kvs [(.none,.list (ns.map PyData.int))]:=h
   generalize q:[(PyData.none,PyData.list (ns.map PyData.int))] = es at h
   cases h with
   | nil=>cases q
   | cons _ _ =>
    injection q with q _
    injection q with q _
    exact keyD_ne _ q.symm
  ·rename_i kvs
   have h:DaKT K F kvs [(.none,.list (ns.map PyData.int))]:=h
   cases h
theorem AtAll.one {vs:List V} {d:D} (h:AtAll K F H vs [d]):∃ v,vs = [v] /\ At K F H v d:=by
 cases h with | cons a t=>cases t; exact ⟨_,rfl,a⟩
theorem AtAll.two {vs:List V} {d e:D} (h:AtAll K F H vs [d,e]):∃ v u,vs = [v,u] /\ At K F H v d /\ At K F H u e:=by
 cases h with | cons a t=>cases t with | cons b t=>cases t; exact ⟨_,_,rfl,a,b⟩
end
noncomputable def r2L (r:R2):List V -> Hp -> VK -> Prop:=fun vs H Q=>∃ x y,vs = [x,y] /\ r x y H Q
noncomputable def r1L (r:V -> Hp -> VK -> Prop):List V -> Hp -> VK -> Prop:=fun vs H Q=>∃ x,vs = [x] /\ r x H Q
theorem ok2 {K:Fg} {r:R2} {f:D -> D -> (Sl -> Prop) -> Prop} (h:∀ (G:Gh) (F:Hp) (σ:St) (H:Hp) (ρ:Ev) (x y:V) (d e:D) (Q:VK) (Qd:Sl -> Prop),Rel K G F σ H ρ -> At K F H x d -> At K F H y e -> f d e Qd ->
    (∀ v H' F' s,Sub F F' -> Rel K G F' σ H' ρ -> Res K G F' H' σ ρ v s -> Qd s -> Q v H') -> r x y H Q):OpOk K (r2L r) (o2 f):=by
 intro G F σ H ρ vs ds Q Qd R a w k
 match ds,a,w with
 | [d,e],a,w =>
  obtain ⟨v,u,rfl,h1,h2⟩:=a.two
  exact ⟨v,u,rfl,h G F σ H ρ v u d e Q Qd R h1 h2 w k⟩
theorem ok1 {K:Fg} {r:List V -> Hp -> VK -> Prop} {f:D -> (Sl -> Prop) -> Prop} (h:∀ (G:Gh) (F:Hp) (σ:St) (H:Hp) (ρ:Ev) (x:V) (d:D) (Q:VK) (Qd:Sl -> Prop),Rel K G F σ H ρ -> At K F H x d -> f d Qd ->
    (∀ v H' F' s,Sub F F' -> Rel K G F' σ H' ρ -> Res K G F' H' σ ρ v s -> Qd s -> Q v H') -> r [x] H Q):OpOk K r (o1 f):=by
 intro G F σ H ρ vs ds Q Qd R a w k
 match ds,a,w with
 | [d],a,w =>
  obtain ⟨v,rfl,h1⟩:=a.one
  exact h G F σ H ρ v d Q Qd R h1 w k
noncomputable def fI (C:Int -> Int -> Prop) (g:Int -> Int -> D):D -> D -> (Sl -> Prop) -> Prop
 | .int i,.int j,Q=>C i j /\ Q (.fz (g i j))
 | _,_,_=>False
noncomputable def fI0 (g:Int -> Int -> D):D -> D -> (Sl -> Prop) -> Prop
 | .int i,.int j,Q=>Q (.fz (g i j))
 | _,_,_=>False
theorem ok_I {K:Fg} {C:Int -> Int -> Prop} {g:Int -> Int -> V} {g':Int -> Int -> D} (hg:∀ F i j,Da K F (g i j) (g' i j)):OpOk K (r2L (rI C g)) (o2 (fI C g')):=ok2 fun G F σ H ρ x y d e Q Qd R h1 h2 w k=>by
 cases d <;> first | exact w.elim | skip
 cases e <;> first | exact w.elim | skip
 case int.int i j =>
  cases h1.int
  cases h2.int
  exact ⟨i,j,rfl,rfl,w.1,k _ H F (.fz _) (Sub.refl _) R (hg F i j) w.2⟩
theorem ok_I0 {K:Fg} {g:Int -> Int -> V} {g':Int -> Int -> D} (hg:∀ F i j,Da K F (g i j) (g' i j)):OpOk K (r2L (rI0 g)) (o2 (fI0 g')):=ok2 fun G F σ H ρ x y d e Q Qd R h1 h2 w k=>by
 cases d <;> first | exact w.elim | skip
 cases e <;> first | exact w.elim | skip
 case int.int i j =>
  cases h1.int
  cases h2.int
  exact ⟨i,j,rfl,rfl,k _ H F (.fz _) (Sub.refl _) R (hg F i j) w⟩
noncomputable def rAny (r r':R2):R2:=fun x y H Q=>r x y H Q \/ r' x y H Q
noncomputable def rCatB:R2:=fun x y H Q=>∃ (a b:Addr) (xs ys:List V),x = .ref a /\ y = .ref b /\ H a = some (.tup xs) /\ H b = some (.tup ys) /\ xs.length + ys.length <= sizeLine /\
 (xs = [] -> Q (.ref b) H) /\ (xs ≠ [] -> ys = [] -> Q (.ref a) H) /\ (xs ≠ [] -> ys ≠ [] -> ∀ p,H p = none -> Q (.ref p) (upd H p (.tup (xs ++ ys))))
noncomputable def fAdd:D -> D -> (Sl -> Prop) -> Prop
 | .int i,.int j,Q=>Q (.fz (.int (i + j)))
 | .tuple xs,.tuple ys,Q=>xs.length + ys.length <= sizeLine /\ Q (.fz (.tuple (xs ++ ys)))
 | .list xs,.list ys,Q=>xs.length + ys.length <= sizeLine /\ Q (.ow (.list (xs ++ ys)))
 | _,_,_=>False
theorem DaAll.nil_of {K:Fg} {F:Hp} {ds:List D} (h:DaAll K F [] ds):ds = []:=by cases h; rfl
theorem ok_add {K:Fg}:OpOk K (r2L (rAny (rI0 fun i j=>.int (i + j)) (rAny rCatB rCat))) (o2 fAdd):=ok2 fun G F σ H ρ x y d e Q Qd R h1 h2 w k=>by
 cases d <;> first | exact w.elim | (cases e <;> first | exact w.elim | skip)
 case int.int i j =>
  cases h1.int
  cases h2.int
  exact .inl ⟨i,j,rfl,rfl,k _ H F (.fz _) (Sub.refl _) R (Da.int _) w⟩
 case tuple.tuple xs ys =>
  obtain ⟨a,us,rfl,f1,e1,d1⟩:=h1.tuple R.sub
  obtain ⟨b,ws,rfl,f2,e2,d2⟩:=h2.tuple R.sub
  refine .inr (.inl ⟨a,b,us,ws,rfl,rfl,e1,e2,by rw [d1.length,d2.length]; exact w.1,fun z=>?_,fun _ z=>?_,fun _ _ p hp=>?_⟩)
  ·subst z
   have:=d1.nil_of
   subst this
   exact k _ H F (.fz _) (Sub.refl _) R (Da.tup f2 d2) w.2
  ·subst z
   have:=d2.nil_of
   subst this
   refine k _ H F (.fz _) (Sub.refl _) R (Da.tup f1 d1) ?_
   have:=w.2
   rw [List.append_nil] at this
   exact this
  ·obtain ⟨sb,R',dd⟩:=R.newTup hp (d1.append d2)
   exact k _ _ _ (.fz _) sb R' dd w.2
 case list.list xs ys =>
  obtain ⟨a,us,rfl,e1,d1⟩:=h1.list R.sub
  obtain ⟨b,ws,rfl,e2,d2⟩:=h2.list R.sub
  refine .inr (.inr ⟨a,b,us,ws,rfl,rfl,e1,e2,by rw [d1.length,d2.length]; exact w.1,fun p hp=>?_⟩)
  obtain ⟨R',r'⟩:=R.newOw (o:=.lst (us ++ ws)) (d:=.list (xs ++ ys)) hp (d1.append d2)
  exact k _ _ F _ (Sub.refl _) R' r' w.2
noncomputable def fMul:D -> D -> (Sl -> Prop) -> Prop
 | .int i,.int j,Q=>CMul i j /\ Q (.fz (.int (i * j)))
 | .list xs,.int k,Q=>-(2 ^ 63) <= k /\ k < 2 ^ 63 /\ xs.length * k.toNat <= sizeLine /\ Q (.ow (.list (List.replicate k.toNat xs).flatten))
 | _,_,_=>False
theorem ok_mul {K:Fg}:OpOk K (r2L (rAny (rI CMul fun i j=>.int (i * j)) rRep)) (o2 fMul):=ok2 fun G F σ H ρ x y d e Q Qd R h1 h2 w k=>by
 cases d <;> first | exact w.elim | (cases e <;> first | exact w.elim | skip)
 case int.int i j =>
  cases h1.int
  cases h2.int
  exact .inl ⟨i,j,rfl,rfl,w.1,k _ H F (.fz _) (Sub.refl _) R (Da.int _) w.2⟩
 case list.int xs j =>
  cases h2.int
  obtain ⟨a,us,rfl,e1,d1⟩:=h1.list R.sub
  refine .inr ⟨a,j,us,rfl,rfl,e1,w.1,w.2.1,by rw [d1.length]; exact w.2.2.1,fun p hp=>?_⟩
  obtain ⟨R',r'⟩:=R.newOw (o:=.lst (List.replicate j.toNat us).flatten) (d:=.list (List.replicate j.toNat xs).flatten) hp (d1.rep _)
  exact k _ _ F _ (Sub.refl _) R' r' w.2.2.2
noncomputable def fLen:D -> (Sl -> Prop) -> Prop
 | .list ds,Q=>Q (.fz (.int ds.length))
 | .tuple ds,Q=>Q (.fz (.int ds.length))
 | .dict [(.none,.list ds)],Q=>∃ ns:List Int,ds = ns.map PyData.int /\ Q (.fz (.int ns.length))
 | _,_=>False
theorem ok_len {K:Fg}:OpOk K (rLen K) (o1 fLen):=ok1 fun G F σ H ρ x d Q Qd R h1 w k=>by
 cases d <;> first | exact w.elim | skip
 case list ds =>
  obtain ⟨a,us,rfl,e1,d1⟩:=h1.list R.sub
  exact ⟨a,us,rfl,.inl (SqL.of e1),k _ H F (.fz _) (Sub.refl _) R (Da.int _) (by rw [d1.length]; exact w)⟩
 case tuple ds =>
  obtain ⟨a,us,rfl,_,e1,d1⟩:=h1.tuple R.sub
  exact ⟨a,us,rfl,.inr (SqT.of e1),k _ H F (.fz _) (Sub.refl _) R (Da.int _) (by rw [d1.length]; exact w)⟩
 case dict es =>
  rcases es with _ | ⟨⟨c1,c2⟩,_ | ⟨c3,c4⟩⟩
  ·exact w.elim
  ·cases c1 <;> first | exact w.elim | skip
   cases c2 <;> first | exact w.elim | skip
   obtain ⟨ns,rfl,w⟩:=w
   obtain ⟨a,rfl,q⟩:=h1.scr R.sub
   exact ⟨a,_,rfl,.inl q,k _ H F (.fz _) (Sub.refl _) R (Da.int _) (by rw [List.length_map]; exact w)⟩
  ·cases c1 <;> first | exact w.elim | (cases c2 <;> exact w.elim)
noncomputable def fIx:D -> D -> (Sl -> Prop) -> Prop
 | .list ds,.int i,Q=>∃ d,atI ds i = some d /\ Q (.fz d)
 | .tuple ds,.int i,Q=>∃ d,atI ds i = some d /\ Q (.fz d)
 | .dict [(.none,.list ds)],.int i,Q=>∃ (ns:List Int) (n:Int),ds = ns.map PyData.int /\ atI ns i = some n /\ Q (.fz (.int n))
 | _,_,_=>False
theorem DaAll.at {K:Fg} {F:Hp} {xs:List V} {ds:List D} {i:Int} {d:D} (h:DaAll K F xs ds) (e:atI ds i = some d):∃ v,atI xs i = some v /\ Da K F v d:=by
 unfold atI at e ⊢
 rw [h.length]
 cases q:ixN ds.length i with
 | none=>rw [q] at e; cases e
 | some j=>rw [q] at e; exact h.get e
theorem atI_map {α β:Type} (f:α -> β) {l:List α} {i:Int} {x:α} (h:atI l i = some x):atI (l.map f) i = some (f x):=by
 unfold atI at h ⊢
 rw [List.length_map]
 cases q:ixN l.length i with
 | none=>rw [q] at h; cases h
 | some j=>rw [q] at h; simp at h ⊢; exact ⟨x,h,rfl⟩
theorem ok_ix {K:Fg}:OpOk K (r2L (rAny (rIxL K) (rIxT K))) (o2 fIx):=ok2 fun G F σ H ρ x y d e Q Qd R h1 h2 w k=>by
 cases d <;> first | exact w.elim | skip
 case list ds =>
  cases e <;> first | exact w.elim | skip
  rename_i i
  obtain ⟨d,w1,w2⟩:=w
  cases h2.int
  obtain ⟨a,us,rfl,e1,d1⟩:=h1.list R.sub
  obtain ⟨v,g1,g2⟩:=d1.at w1
  exact .inl ⟨a,us,i,v,rfl,rfl,SqL.of e1,g1,k _ H F (.fz _) (Sub.refl _) R g2 w2⟩
 case tuple ds =>
  cases e <;> first | exact w.elim | skip
  rename_i i
  obtain ⟨d,w1,w2⟩:=w
  cases h2.int
  obtain ⟨a,us,rfl,_,e1,d1⟩:=h1.tuple R.sub
  obtain ⟨v,g1,g2⟩:=d1.at w1
  exact .inr ⟨a,us,i,v,rfl,rfl,SqT.of e1,g1,k _ H F (.fz _) (Sub.refl _) R g2 w2⟩
 case dict es =>
  rcases es with _ | ⟨⟨c1,c2⟩,_ | ⟨c3,c4⟩⟩
  ·exact w.elim
  ·cases c1 <;> first | exact w.elim | skip
   cases c2 <;> first | exact w.elim | skip
   cases e <;> first | exact w.elim | skip
   rename_i i
   obtain ⟨ns,n,e,w1,w2⟩:=w
   subst e
   cases h2.int
   obtain ⟨a,rfl,q⟩:=h1.scr R.sub
   exact .inl ⟨a,_,i,_,rfl,rfl,q,atI_map V.int w1,k _ H F (.fz _) (Sub.refl _) R (Da.int _) w2⟩
  ·cases c1 <;> first | exact w.elim | (cases c2 <;> exact w.elim)
noncomputable def fList:D -> (Sl -> Prop) -> Prop
 | .list ds,Q=>Q (.ow (.list ds))
 | .tuple ds,Q=>Q (.ow (.list ds))
 | _,_=>False
noncomputable def fTuple:D -> (Sl -> Prop) -> Prop
 | .list ds,Q=>Q (.fz (.tuple ds))
 | .tuple ds,Q=>Q (.fz (.tuple ds))
 | _,_=>False
theorem ok_tuple {K:Fg}:OpOk K (rTupleOf K) (o1 fTuple):=ok1 fun G F σ H ρ x d Q Qd R h1 w k=>by
 match d,h1,w with
 | .list ds,h1,w =>
  obtain ⟨a,us,rfl,e1,d1⟩:=h1.list R.sub
  refine ⟨a,us,rfl,.inl ⟨SqL.of e1,fun p hp=>?_⟩⟩
  obtain ⟨sb,R',dd⟩:=R.newTup hp d1
  exact k _ _ _ (.fz _) sb R' dd w
 | .tuple ds,h1,w =>
  obtain ⟨a,us,rfl,f1,e1,d1⟩:=h1.tuple R.sub
  exact ⟨a,us,rfl,.inr ⟨SqT.of e1,k _ H F (.fz _) (Sub.refl _) R (Da.tup f1 d1) w⟩⟩
noncomputable def fAll:D -> (Sl -> Prop) -> Prop
 | .list ds,Q=>∃ bs:List Bool,ds = bs.map PyData.bool /\ Q (.fz (.bool (bs.all id)))
 | _,_=>False
theorem DaAll.bools {K:Fg} {F:Hp}:∀ {xs:List V} {bs:List Bool},DaAll K F xs (bs.map PyData.bool) -> xs = bs.map V.bl
 | [],[],_=>rfl
 | x :: xs,b :: bs,.cons h t=>by cases h; simp [DaAll.bools t]
theorem ok_all {K:Fg}:OpOk K (rAll K) (o1 fAll):=ok1 fun G F σ H ρ x d Q Qd R h1 w k=>by
 match d,h1,w with
 | .list ds,h1,⟨bs,e,w⟩ =>
  subst e
  obtain ⟨a,us,rfl,e1,d1⟩:=h1.list R.sub
  have:=d1.bools
  subst this
  exact ⟨a,bs,rfl,SqL.of e1,k _ H F (.fz _) (Sub.refl _) R (Da.bl _) w⟩
noncomputable def kiD:D -> Ki
 | .none=>.non
 | .bool _=>.bl
 | .int _=>.int
 | .str _=>.str
 | .list _=>.lst
 | .tuple _=>.tup
 | .dict ((.none,_) :: _)=>.lst
 | .dict _=>.dct
noncomputable def fIsi (T:Ki):D -> (Sl -> Prop) -> Prop
 | .dict _,_=>False
 | d,Q=>Q (.fz (.bool ((kiD d).sub T)))
theorem ok_isi {K:Fg} {T:Ki}:OpOk K (fun vs H Q=>∃ x,vs = [x] /\ rIsi K [x,.ty T.nm] H Q) (o1 (fIsi T)):=ok1 fun G F σ H ρ x d Q Qd R h1 w k=>by
 have go:∀ (ki:Ki),KiOf K H x ki -> Qd (.fz (.bool (ki.sub T))) -> ∃ x',[x] = [x'] /\ rIsi K [x',.ty T.nm] H Q:=fun ki h w=>⟨x,rfl,x,ki,T,rfl,h,k _ H F (.fz _) (Sub.refl _) R (Da.bl _) w⟩
 match d,h1,w with
 | .none,h1,w=>cases h1.none; exact go .non rfl w
 | .bool b,h1,w=>cases h1.bool; exact go .bl rfl w
 | .int i,h1,w=>cases h1.int; exact go .int rfl w
 | .str z,h1,w=>cases h1.str; exact go .str rfl w
 | .list ds,h1,w =>
  obtain ⟨a,us,rfl,e1,d1⟩:=h1.list R.sub
  exact go .lst (.inl ⟨rfl,us,SqL.of e1⟩) w
 | .tuple ds,h1,w =>
  obtain ⟨a,us,rfl,_,e1,d1⟩:=h1.tuple R.sub
  exact go .tup (.inr (.inl ⟨rfl,us,SqT.of e1⟩)) w
noncomputable def fAbs:D -> (Sl -> Prop) -> Prop
 | .int i,Q=>Q (.fz (.int (if i < 0 then -i else i)))
 | _,_=>False
theorem ok_abs {K:Fg}:OpOk K (fun xs H Q=>∃ i,xs = [V.int i] /\ Q (V.int (if i < 0 then -i else i)) H) (o1 fAbs):=ok1 fun G F σ H ρ x d Q Qd R h1 w k=>by
 match d,h1,w with
 | .int i,h1,w=>cases h1.int; exact ⟨i,rfl,k _ H F (.fz _) (Sub.refl _) R (Da.int _) w⟩
noncomputable def fInt:D -> (Sl -> Prop) -> Prop
 | .int i,Q=>Q (.fz (.int i))
 | .bool b,Q=>Q (.fz (.int (if b then 1 else 0)))
 | _,_=>False
theorem ok_int {K:Fg}:OpOk K (fun xs H Q=>(∃ i,xs = [V.int i] /\ Q (V.int i) H) \/ ∃ k,xs = [V.bl k] /\ Q (V.int (if k then 1 else 0)) H) (o1 fInt):=ok1 fun G F σ H ρ x d Q Qd R h1 w k=>by
 match d,h1,w with
 | .int i,h1,w=>cases h1.int; exact .inl ⟨i,rfl,k _ H F (.fz _) (Sub.refl _) R (Da.int _) w⟩
 | .bool b,h1,w=>cases h1.bool; exact .inr ⟨b,rfl,k _ H F (.fz _) (Sub.refl _) R (Da.int _) w⟩
noncomputable def fNeg:D -> (Sl -> Prop) -> Prop
 | .int i,Q=>Q (.fz (.int (-i)))
 | _,_=>False
theorem ok_neg {K:Fg}:OpOk K (r1L (rU fun i=>.int (-i))) (o1 fNeg):=ok1 fun G F σ H ρ x d Q Qd R h1 w k=>by
 match d,h1,w with
 | .int i,h1,w=>cases h1.int; exact ⟨_,rfl,i,rfl,k _ H F (.fz _) (Sub.refl _) R (Da.int _) w⟩
noncomputable def dOpF (as:List AD) (f:List D -> (Sl -> Prop) -> Prop):TD:=fun ρ Q=>dArgs as ρ fun xs ρ1=>match lentAny ρ1 xs with
 | false=>looksQ ρ1 xs fun ds=>f ds fun r=>Q r ρ1
 | true=>False
noncomputable def fTupD (ds:List D) (Q:Sl -> Prop):Prop:=Q (.fz (.tuple ds))
noncomputable def fLstD (ds:List D) (Q:Sl -> Prop):Prop:=Q (.ow (.list ds))
theorem le_size {n:Nat} (h:n <= 1000):n <= sizeLine:=Nat.le_trans h (by decide)
theorem l_tup {K:Fg} {as:List AD} (hl:as.length <= 1000) {σ:St} {H:Hp} {Q:VK} (h:lift K (dOpF as fTupD) σ H Q):tTup (tArgs (as.map (argT K))) σ H Q:=by
 obtain ⟨G,F,ρ,Qd,R,w,k⟩:=h
 refine args_okL R w fun vs H' F' xs ρ' sb R' o hn q=>?_
 split at q
 ·rename_i e
  obtain ⟨ds,da,q⟩:=noLent_looks R' e o q
  refine ⟨le_size (by omega),fun p hp=>?_⟩
  obtain ⟨s2,R2,dd⟩:=R'.newTup hp da
  exact k _ _ _ (.fz _) _ (sb.trans s2) R2 dd q
 ·exact q.elim
theorem l_lst {K:Fg} {as:List AD} (hl:as.length <= 1000) {σ:St} {H:Hp} {Q:VK} (h:lift K (dOpF as fLstD) σ H Q):tLst (tArgs (as.map (argT K))) σ H Q:=by
 obtain ⟨G,F,ρ,Qd,R,w,k⟩:=h
 refine args_okL R w fun vs H' F' xs ρ' sb R' o hn q=>?_
 split at q
 ·rename_i e
  obtain ⟨ds,da,q⟩:=noLent_looks R' e o q
  refine ⟨le_size (by omega),fun p hp=>?_⟩
  obtain ⟨R2,r2⟩:=R'.newOw (o:=.lst vs) (d:=.list ds) hp da
  exact k _ _ _ _ _ sb R2 r2 q
 ·exact q.elim
noncomputable def dChain (p q:Int -> Int -> Bool) (a b c:AD):TD:=fun ρ Q=>dArgs [a,b] ρ fun xs ρ1=>looksQ ρ1 xs fun ds=>match ds with
 | [.int i,.int j]=>if p i j = true then dArgs [c] ρ1 fun ys ρ2=>looksQ ρ2 ys fun es=>match es with
   | [.int k]=>Q (.fz (.bool (q j k))) ρ2
   | _=>False
  else Q (.fz (.bool false)) ρ1
 | _=>False
theorem l_chain {K:Fg} {p q:Int -> Int -> Bool} {a b c:AD} {σ:St} {H:Hp} {Q:VK} (h:lift K (dChain p q a b c) σ H Q) :
  tChain (rI0 fun i j=>.bl (p i j)) (rI0 fun i j=>.bl (q i j)) (argT K a) (argT K b) (argT K c) σ H Q:=by
 obtain ⟨G,F,ρ,Qd,R,w,k⟩:=h
 have main:tArgs ([a,b].map (argT K)) σ H fun vs H2=>∃ x y,vs = [x,y] /\ (rI0 fun i j=>V.bl (p i j)) x y H2 fun z H3=>∃ k,z = .bl k /\
   (if k = true then argT K c σ H3 fun w' H4=>(rI0 fun i j=>V.bl (q i j)) y w' H4 Q else Q (.bl false) H3):=by
  refine args_ok R w fun vs H' F' xs ρ' sb R' o w1=>?_
  obtain ⟨ds,ha,w1⟩:=looks_ok R' o w1
  split at w1
  ·rename_i i j
   obtain ⟨v,u,rfl,h1,h2⟩:=ha.two
   cases h1.int
   cases h2.int
   refine ⟨_,_,rfl,i,j,rfl,rfl,p i j,rfl,?_⟩
   by_cases e:p i j = true
   ·rw [if_pos e] at w1 ⊢
    have:=args_ok (as:=[c]) (Qv:=fun vs H4=>∃ w',vs = [w'] /\ (rI0 fun i j=>V.bl (q i j)) (V.int j) w' H4 Q) R' w1 fun vs H2 F2 ys ρ2 s2 R2 o2 w2=>by
     obtain ⟨es,hb,w2⟩:=looks_ok R2 o2 w2
     split at w2
     ·rename_i k'
      obtain ⟨v,rfl,h3⟩:=hb.one
      cases h3.int
      exact ⟨_,rfl,j,k',rfl,rfl,k _ H2 F2 (.fz _) ρ2 (sb.trans s2) R2 (Da.bl _) w2⟩
     ·exact w2.elim
    exact arg1 this
   ·rw [if_neg e] at w1 ⊢
    exact k _ H' F' (.fz _) ρ' sb R' (Da.bl _) w1
  ·exact w1.elim
 exact arg2 main
end L3
namespace L3
open PySem PySem.Spec L2
noncomputable def dMeth (i:Nat) (as:List AD) (f:List D -> List D -> (D -> D -> Prop) -> Prop):TD:=fun ρ Q=>match ρ[i]? with
 | some (some s0)=>match s0.d,isOw s0 with
  | .list _,true=>dArgs as ρ fun xs ρ1=>match ρ1[i]?,lentAny ρ1 xs with
   | some (some s),false=>match s.d,isOw s with
    | .list es,true=>looksQ ρ1 xs fun ds=>f es ds fun d' r=>Q (.fz r) (ρ1.set i (some (s.put d')))
    | _,_=>False
   | _,_=>False
  | _,_=>False
 | _=>False
noncomputable def MOk (K:Fg) (r:V -> List V -> Hp -> VK -> Prop) (f:List D -> List D -> (D -> D -> Prop) -> Prop):Prop :=
 ∀ (F H:Hp) (a:Addr) (xs:List V) (es:List D) (vs:List V) (ds:List D) (Q:VK) (k:D -> D -> Prop),Sub F H -> H a = some (.lst xs) -> DaAll K F xs es -> DaAll K F vs ds -> f es ds k ->
  (∀ v o' d' res,Own1 K F o' d' -> Da K F v res -> k d' res -> Q v (upd H a o')) -> r (.ref a) vs H Q
theorem l_meth {K:Fg} {i:Nat} {as:List AD} {r:V -> List V -> Hp -> VK -> Prop} {f:List D -> List D -> (D -> D -> Prop) -> Prop} (ok:MOk K r f) {σ:St} {H:Hp} {Q:VK} (h:lift K (dMeth i as f) σ H Q) :
  ∃ a xs,σ[i]? = some (some (V.ref a)) /\ SqL K H a xs /\ tArgs (as.map (argT K)) σ H fun vs H2=>r (.ref a) vs H2 Q:=by
 obtain ⟨G,F,ρ,Qd,R,w,k⟩:=h
 unfold dMeth at w
 split at w
 ·rename_i s0 e0
  split at w
  ·rename_i es0 p1 p2
   obtain ⟨a,o,g1,g2,g3,g4⟩:=R.ow i s0 e0 p2
   have gl:∃ xs,H a = some (.lst xs):=by
    rw [p1] at g4
    cases o <;> first | exact g4.elim | exact ⟨_,g3⟩
   obtain ⟨xs0,gl⟩:=gl
   refine ⟨a,xs0,g1,SqL.of gl,args_ok R w fun vs H1 F1 xs ρ1 s1 R1 o1 w1=>?_⟩
   split at w1
   ·rename_i s e en
    split at w1
    ·rename_i es q1 q2
     obtain ⟨ds,da,w1⟩:=noLent_looks R1 en o1 w1
     obtain ⟨a',o',h1,h2,h3,h4⟩:=R1.ow i s e q2
     rw [g1] at h1; cases h1
     rw [q1] at h4
     have hl:∃ us,o' = .lst us /\ DaAll K F1 us es:=by cases o' <;> first | exact h4.elim | exact ⟨_,rfl,h4⟩
     obtain ⟨us,rfl,h4⟩:=hl
     refine ok F1 H1 a us es vs ds Q _ R1.sub h3 h4 da w1 fun v o2 d2 res ho hv hk=>?_
     have R2:=R1.change (o':=o2) (d':=d2) e q2 g1 ho
     exact k v _ F1 (.fz res) _ s1 R2 hv hk
    ·exact w1.elim
   ·exact w1.elim
  ·exact w.elim
 ·exact w.elim
noncomputable def fAppend:List D -> List D -> (D -> D -> Prop) -> Prop
 | es,[x],k=>es.length < sizeLine /\ k (.list (es ++ [x])) .none
 | _,_,_=>False
theorem ok_append {K:Fg}:MOk K rAppend fAppend:=by
 intro F H a xs es vs ds Q k s e d1 d2 w q
 match ds,d2,w with
 | [x],.cons h .nil,w=>exact ⟨a,xs,_,rfl,rfl,e,by rw [d1.length]; exact w.1,q _ (.lst (xs ++ [_])) (.list (es ++ [x])) _ (d1.append (.cons h .nil)) .non w.2⟩
noncomputable def fInsert:List D -> List D -> (D -> D -> Prop) -> Prop
 | es,[.int i,x],k=>es.length < sizeLine /\ 0 <= i /\ i <= es.length /\ k (.list (es.take i.toNat ++ x :: es.drop i.toNat)) .none
 | _,_,_=>False
noncomputable def dSetIx (j:Nat) (ai:AD) (te:TD):TDS:=fun E ρ=>te ρ fun r ρ1=>match ρ1[j]? with
 | some (some _)=>dArgs [ai] ρ1 fun xs ρ2=>looksQ ρ2 xs fun ds=>match ds,ρ2[j]? with
  | [.int k],some (some s)=>match s.d,isOw s with
   | .list es,true=>∃ n,ixN es.length k = some n /\ E.nx (ρ2.set j (some (s.put (.list (es.set n r.d)))))
   | _,_=>False
  | _,_=>False
 | _=>False
theorem l_setIx {K:Fg} {j:Nat} {ai:AD} {te:TD} {σ:St} {H:Hp} {E:Ends} (h:liftS K (dSetIx j ai te) E σ H):tAsg (lift K te) (gSub (tVar j) (argT K ai) rSetL) E σ H:=by
 obtain ⟨G,F,ρ,D,R,w,n,r,b,c⟩:=h
 refine ⟨G,F,ρ,_,R,w,fun v H1 F1 x ρ1 s1 R1 r1 w1=>?_⟩
 obtain ⟨F2,s2,R2,d2⟩:=r1.frz R1
 split at w1
 ·rename_i s0 e0
  obtain ⟨u,eu⟩:=R2.bound e0
  refine ⟨u,eu,arg1 (P:=fun i H2=>rSetL u i v H2 fun H3=>E.nx σ H3) (args_ok R2 w1 fun vs H3 F3 xs ρ3 s3 R3 o3 w3=>?_)⟩
  obtain ⟨ds,ha,w3⟩:=looks_ok R3 o3 w3
  split at w3
  ·rename_i k s e
   obtain ⟨iv,rfl,hi⟩:=ha.one
   cases hi.int
   split at w3
   ·rename_i es p1 p2
    obtain ⟨m,w4,w5⟩:=w3
    obtain ⟨a,o,g1,g2,g3,g4⟩:=R3.ow j s e p2
    rw [eu] at g1; cases g1
    rw [p1] at g4
    have hl:∃ us,o = .lst us /\ DaAll K F3 us es:=by cases o <;> first | exact g4.elim | exact ⟨_,rfl,g4⟩
    obtain ⟨us,rfl,g4⟩:=hl
    refine ⟨_,rfl,a,us,k,m,rfl,rfl,g3,by rw [g4.length]; exact w4,?_⟩
    have R4:=R3.change (o':=.lst (us.set m v)) (d':=.list (es.set m x.d)) e p2 eu (g4.set (d2.mono s3) m)
    exact n σ _ F3 _ (s1.trans (s2.trans s3)) R4 w5
   ·exact w3.elim
  ·exact w3.elim
 ·exact w1.elim
noncomputable def iSeq (K:Fg) (tl:TE):TI:=fun σ H R=>tl σ H fun x H1=>∃ a,x = .ref a /\ (((∃ xs,SqL K H1 a xs) /\ R (Itl K a) H1) \/ ((∃ xs,SqT K H1 a xs) /\ R (Itt K a) H1))
noncomputable def dISeq (a:TD):TDI:=fun ρ Q=>a ρ fun r ρ1=>match r.d with
 | .list ds=>Q ds ρ1
 | .tuple ds=>Q ds ρ1
 | _=>False
theorem walks_list {K:Fg} {F:Hp} {a:Addr} {xs:List V} {ds:List D} (e:F a = some (.lst xs)) (h:DaAll K F xs ds):Walks K (Itl K a) F ds:=fun i H F1 s1 s2=>by
 have q:=SqL.of (K:=K) (s2 _ _ (s1 _ _ e))
 refine ⟨fun d ed=>?_,fun hl=>⟨xs,q,by rw [h.length]; omega⟩⟩
 obtain ⟨v,h1,h2⟩:=h.get ed
 refine ⟨⟨xs,v,q,h1⟩,fun x H' ⟨e1,e2⟩=>?_⟩
 subst e1
 have:=e2 xs q
 rw [h1] at this; cases this
 exact ⟨F1,Sub.refl _,fun _ _ z=>.inl z,s2,Sub.refl _,h2.mono s1⟩
theorem walks_tup {K:Fg} {F:Hp} {a:Addr} {xs:List V} {ds:List D} (e:F a = some (.tup xs)) (h:DaAll K F xs ds):Walks K (Itt K a) F ds:=fun i H F1 s1 s2=>by
 have q:=SqT.of (K:=K) (s2 _ _ (s1 _ _ e))
 refine ⟨fun d ed=>?_,fun hl=>⟨xs,q,by rw [h.length]; omega⟩⟩
 obtain ⟨v,h1,h2⟩:=h.get ed
 refine ⟨⟨xs,v,q,h1⟩,fun x H' ⟨e1,e2⟩=>?_⟩
 subst e1
 have:=e2 xs q
 rw [h1] at this; cases this
 exact ⟨F1,Sub.refl _,fun _ _ z=>.inl z,s2,Sub.refl _,h2.mono s1⟩
theorem l_iseq {K:Fg} {a:TD} {σ:St} {H:Hp} {R:It -> Hp -> Prop} (h:liftI K (dISeq a) σ H R):iSeq K (lift K a) σ H R:=by
 obtain ⟨G,F,ρ,Qd,Rl,w,k⟩:=h
 refine ⟨G,F,ρ,_,Rl,w,fun v H1 F1 r ρ1 s1 R1 r1 w1=>?_⟩
 obtain ⟨F2,s2,R2,d2⟩:=r1.frz R1
 split at w1
 ·rename_i ds e
  rw [e] at d2
  cases d2 with
  | lst q t=>exact ⟨_,rfl,.inl ⟨⟨_,SqL.of (R2.sub _ _ q)⟩,k _ H1 F2 ds ρ1 (s1.trans s2) R2 (walks_list q t) w1⟩⟩
 ·rename_i ds e
  rw [e] at d2
  cases d2 with
  | tup q t=>exact ⟨_,rfl,.inr ⟨⟨_,SqT.of (R2.sub _ _ q)⟩,k _ H1 F2 ds ρ1 (s1.trans s2) R2 (walks_tup q t) w1⟩⟩
 ·exact w1.elim
noncomputable def rangeD (lo:Int) (n:Nat):List D:=(List.range n).map fun (i:Nat)=>PyData.int (lo + i)
theorem walks_range {K:Fg} {F:Hp} {lo:Int} {n:Nat}:Walks K (Itr lo n) F (rangeD lo n):=fun i H F1 s1 s2=>by
 have hl:(rangeD lo n).length = n:=by simp [rangeD]
 refine ⟨fun d ed=>?_,fun h=>by rw [hl] at h; exact Nat.le_of_eq h⟩
 have hi:i < n:=by have:=lt_of_get ed; rw [hl] at this; exact this
 have e:(rangeD lo n)[i]? = some (.int (lo + i)):=by simp [rangeD,hi]
 rw [e] at ed; cases ed
 refine ⟨hi,fun x H' ⟨e1,e2⟩=>?_⟩
 subst e1 e2
 exact ⟨F1,Sub.refl _,fun _ _ z=>.inl z,s2,Sub.refl _,.int _⟩
noncomputable def dIRng1 (a:AD):TDI:=fun ρ Q=>dArgs [a] ρ fun xs ρ1=>looksQ ρ1 xs fun ds=>match ds with
 | [.int j]=>-(2 ^ 62) <= j /\ j < 2 ^ 62 /\ Q (rangeD 0 j.toNat) ρ1
 | _=>False
theorem l_rng1 {K:Fg} {a:AD} {σ:St} {H:Hp} {R:It -> Hp -> Prop} (h:liftI K (dIRng1 a) σ H R):iRng1 (tArgs ([a].map (argT K))) σ H R:=by
 obtain ⟨G,F,ρ,Qd,Rl,w,k⟩:=h
 refine args_ok Rl w fun vs H' F' xs ρ' sb R' o w1=>?_
 obtain ⟨ds,ha,w1⟩:=looks_ok R' o w1
 split at w1
 ·rename_i j
  obtain ⟨v,rfl,h1⟩:=ha.one
  cases h1.int
  exact ⟨j,rfl,w1.1,w1.2.1,k _ H' F' _ ρ' sb R' walks_range w1.2.2⟩
 ·exact w1.elim
noncomputable def SeqF (K:Fg) (F:Hp) (v:V) (ds:List D):Prop:=∃ k a xs,v = .ref a /\ (F a = some (match k with | Kd.l=>HO.lst xs | Kd.t=>HO.tup xs)) /\ DaAll K F xs ds
theorem sq_of {K:Fg} {H:Hp} {a:Addr} {xs:List V} {k:Kd} (e:H a = some (match k with | Kd.l=>HO.lst xs | Kd.t=>HO.tup xs)):Sq k K H a xs:=by
 cases k with
 | l=>exact SqL.of e
 | t=>exact SqT.of e
noncomputable def seqD:D -> Option (List D)
 | .list ds=>some ds
 | .tuple ds=>some ds
 | _=>none
theorem seqF_of {K:Fg} {F:Hp} {v:V} {d:D} {ds:List D} (h:Da K F v d) (e:seqD d = some ds):∃ k a xs,v = .ref a /\ (F a = some (match k with | Kd.l=>HO.lst xs | Kd.t=>HO.tup xs)) /\ DaAll K F xs ds:=by
 cases h with
 | lst q t=>cases e; exact ⟨.l,_,_,rfl,q,t⟩
 | tup q t=>cases e; exact ⟨.t,_,_,rfl,q,t⟩
 | non=>cases e
 | bl=>cases e
 | int=>cases e
 | str=>cases e
 | dk _ _=>cases e
 | dt _ _=>cases e
 | scr _=>cases e
 | exc _=>cases e
 | exl _ _=>cases e
 | opq _=>cases e
 | pd _ _=>cases e
 | bd _ _=>cases e
noncomputable def zipD (ds es:List D):List D:=(ds.zip es).map fun p=>PyData.tuple [p.1,p.2]
noncomputable def dIZip2 (a b:AD):TDI:=fun ρ Q=>dArgs [a,b] ρ fun xs ρ1=>match lentAny ρ1 xs with
 | false=>looksQ ρ1 xs fun ds=>match ds with
  | [x,y]=>match seqD x,seqD y with
   | some us,some ws=>Q (zipD us ws) ρ1
   | _,_=>False
  | _=>False
 | true=>False
theorem walks_zip2 {K:Fg} {F:Hp} {a b:Addr} {k1 k2:Kd} {xs ys:List V} {ds es:List D} (e1:F a = some (match k1 with | Kd.l=>HO.lst xs | Kd.t=>HO.tup xs)) (h1:DaAll K F xs ds)
  (e2:F b = some (match k2 with | Kd.l=>HO.lst ys | Kd.t=>HO.tup ys)) (h2:DaAll K F ys es):Walks K (Itz2 K k1 k2 a b) F (zipD ds es):=fun i H F1 s1 s2=>by
 have q1:Sq k1 K H a xs:=sq_of (s2 _ _ (s1 _ _ e1))
 have q2:Sq k2 K H b ys:=sq_of (s2 _ _ (s1 _ _ e2))
 refine ⟨fun d ed=>?_,fun hl=>⟨xs,ys,q1,q2,?_⟩⟩
 ·simp only [zipD,List.getElem?_map,Option.map_eq_some_iff] at ed
  obtain ⟨⟨x,y⟩,ez,rfl⟩:=ed
  rw [List.getElem?_zip_eq_some] at ez
  obtain ⟨v,g1,g2⟩:=h1.get ez.1
  obtain ⟨u,g3,g4⟩:=h2.get ez.2
  refine ⟨⟨xs,v,ys,u,q1,q2,g1,g3⟩,fun z H' ⟨T,x1,x2,hT,ex,eH,f1,f2⟩=>?_⟩
  subst ex eH
  have f1:=f1 xs q1
  have f2:=f2 ys q2
  rw [g1] at f1; cases f1
  rw [g3] at f2; cases f2
  have fT:F1 T = none:=by
   cases z:F1 T with
   | none=>rfl
   | some o=>rw [s2 _ _ z] at hT; cases hT
  refine ⟨upd F1 T (.tup [v,u]),Sub.new fT,fun c o ec=>?_,fun c o ec=>?_,Sub.new hT,.tup upd_same (.cons (g2.mono (s1.trans (Sub.new fT))) (.cons (g4.mono (s1.trans (Sub.new fT))) .nil))⟩
  ·by_cases z:c = T
   ·subst z; exact .inr hT
   ·rw [upd_ne z] at ec; exact .inl ec
  ·by_cases z:c = T
   ·subst z; rw [upd_same] at ec ⊢; exact ec
   ·rw [upd_ne z] at ec ⊢; exact s2 _ _ ec
 ·simp only [zipD,List.length_map,List.length_zip] at hl
  rw [h1.length,h2.length]
  omega
theorem l_zip2 {K:Fg} {a b:AD} {σ:St} {H:Hp} {R:It -> Hp -> Prop} (h:liftI K (dIZip2 a b) σ H R):iZip2 K (tArgs ([a,b].map (argT K))) σ H R:=by
 obtain ⟨G,F,ρ,Qd,Rl,w,k⟩:=h
 refine args_ok Rl w fun vs H' F' xs ρ' sb R' o w1=>?_
 split at w1
 ·rename_i e
  obtain ⟨ds,da,w1⟩:=noLent_looks R' e o w1
  split at w1
  ·rename_i x y
   split at w1
   ·rename_i us ws p1 p2
    cases da with
    | cons d1 t =>
     cases t with
     | cons d2 t =>
      cases t
      obtain ⟨k1,a1,us',rfl,e1,g1⟩:=seqF_of d1 p1
      obtain ⟨k2,a2,ws',rfl,e2,g2⟩:=seqF_of d2 p2
      exact ⟨k1,a1,us',k2,a2,ws',rfl,sq_of (R'.sub _ _ e1),sq_of (R'.sub _ _ e2),k _ H' F' _ ρ' sb R' (walks_zip2 e1 g1 e2 g2) w1⟩
   ·exact w1.elim
  ·exact w1.elim
 ·exact w1.elim
end L3
namespace L3
open PySem PySem.Spec L2
noncomputable def kOf:D -> Option Key
 | .int i=>some (.inl i)
 | .str x=>some (.inr x)
 | _=>none
noncomputable def ksOf:List D -> Option (List Key)
 | []=>some []
 | d :: ds=>match kOf d,ksOf ds with
  | some k,some ks=>some (k :: ks)
  | _,_=>none
noncomputable def keyT:D -> Option (List Key)
 | .tuple ds=>ksOf ds
 | _=>none
section
variable {K:Fg} {F H:Hp}
theorem At.dict {v:V} {es:List (D × D)} (s:Sub F H) (h:At K F H v (.dict es)):∃ a,v = .ref a /\ ((∃ kvs,Rd H a (.dK kvs) /\ DaKV K F kvs es) \/ (∃ kvs,Rd H a (.dT kvs) /\ DaKT K F kvs es) \/ ∃ k0 d0,es = [(k0,d0)] /\ kOf k0 = Option.none /\ keyT k0 = Option.none):=by
 rcases h with h | ⟨a,o,rfl,_,e,h⟩
 ·cases h with
  | dk q t=>exact ⟨_,rfl,.inl ⟨_,s.rd q,t⟩⟩
  | dt q t=>exact ⟨_,rfl,.inr (.inl ⟨_,s.rd q,t⟩)⟩
  | scr q=>exact ⟨_,rfl,.inr (.inr ⟨_,_,rfl,rfl,rfl⟩)⟩
  | exl q _=>exact ⟨_,rfl,.inr (.inr ⟨_,_,rfl,rfl,rfl⟩)⟩
  | exc q=>exact ⟨_,rfl,.inr (.inr ⟨_,_,rfl,rfl,rfl⟩)⟩
  | opq q=>exact ⟨_,rfl,.inr (.inr ⟨_,_,rfl,rfl,rfl⟩)⟩
  | pd q t=>exact ⟨_,rfl,.inr (.inr ⟨_,_,rfl,rfl,rfl⟩)⟩
  | bd q t=>exact ⟨_,rfl,.inr (.inr ⟨_,_,rfl,rfl,rfl⟩)⟩
 ·cases o with
  | ext φ=>obtain ⟨a',ep,xs,ps,z,z2,t⟩:=h.ext; injection z2 with z2; exact ⟨_,rfl,.inr (.inr ⟨_,_,z2,rfl,rfl⟩)⟩
  | _=>first | exact h.elim | exact ⟨_,rfl,.inl ⟨_,.inl e,h⟩⟩ | exact ⟨_,rfl,.inr (.inl ⟨_,.inl e,h⟩)⟩
end
end L3
namespace L3
open PySem PySem.Spec PyProof.Rows L2
noncomputable def notStar:Expr -> Bool
 | .Starred _ _=>false
 | _=>true
theorem starEach_of {e:Expr} {es:List Expr} {env:Env} (h:notStar e = true):starEach (e :: es) env = (false,eval e env) :: starEach es env:=by
 cases e <;> first | rfl | cases h
theorem plain_of {env:Env} {pos:Pos}:∀ {es:List Expr},es.all notStar = true -> (backTo pos (starEach es env)).any (·.1) = false:=by
 intro es
 induction es with
 | nil=>intro _; rfl
 | cons e es ih =>
  intro h
  simp only [List.all_cons,Bool.and_eq_true] at h
  rw [starEach_of h.1]
  have:=ih h.2
  simp [backTo] at this ⊢
  exact this
noncomputable def notSet:Expr -> Bool
 | .Set _ _ _=>false
 | _=>true
theorem folded_of {e:Expr} {env:Env} (h:notSet e = true) (x:Value):foldedSetIterable e env x = pure x:=by
 cases e <;> first | rfl | cases h
noncomputable def notComp:Expr -> Bool
 | .ListComp _ _ _ _=>false
 | .SetComp _ _ _ _=>false
 | .DictComp _ _ _ _ _=>false
 | _=>true
theorem swaps_of {e:Expr} {t:Option Expr} {n:Nat} {env:Env} (h:notComp e = true):swapsWith e t n env = pure false:=by
 cases e <;> first | rfl | cases h
section
variable {X:Cx} {K:Fg}
theorem peM {e:Expr} {t t':TE} (h:PE X e t) (m:∀ {σ H Q},t' σ H Q -> t σ H Q):PE X e t':=fun pins s σ H Q I w=>h pins s σ H Q I (m w)
theorem ptM {e:Expr} {t t':TT} (h:PT X e t) (m:∀ {σ H Q},t' σ H Q -> t σ H Q):PT X e t':=fun pins s σ H Q I w=>h pins s σ H Q I (m w)
theorem pwM {e:Expr} {t t':TT} (h:PW X e t) (m:∀ {σ H Q},t' σ H Q -> t σ H Q):PW X e t':=fun wh pins s σ H Q I w=>h wh pins s σ H Q I (m w)
theorem psM {e:Stmt} {t t':TS} (h:PS X e t) (m:∀ {D σ H},t' D σ H -> t D σ H):PS X e t':=fun pins s σ H D I w=>h pins s σ H D I (m w)
theorem pssM {e:List Stmt} {t t':TS} (h:PSs X e t) (m:∀ {D σ H},t' D σ H -> t D σ H):PSs X e t':=fun pins s σ H D I w=>h pins s σ H D I (m w)
theorem pgM {e:Expr} {t t':TG} (h:PG X e t) (m:∀ {v σ H Q},t' v σ H Q -> t v σ H Q):PG X e t':=by
 unfold PG at h ⊢
 intros
 exact h _ _ _ _ _ _ _ (by assumption) (by assumption) (m (by assumption))
theorem piM {g e:Expr} {t t':TI} (h:PI X g e t) (m:∀ {σ H R},t' σ H R -> t σ H R):PI X g e t':=fun pins s σ H R I w=>h pins s σ H R I (m w)
theorem pifM {es:List Expr} {t t':TT} (h:PIf X es t) (m:∀ {σ H Q},t' σ H Q -> t σ H Q):PIf X es t':=fun pins s σ H Q I w=>h pins s σ H Q I (m w)
theorem da_cons {e:Expr} {es:List Expr} {a:AD} {as:List AD} (ha:PE X e (argT K a)) (hr:PA X es (tArgs (as.map (argT K)))) (hs:starEach (e :: es) X.env = (false,eval e X.env) :: starEach es X.env:=by exact starEach_of rfl):PA X (e :: es) (tArgs ((a :: as).map (argT K))):=pa_cons ha hr hs
variable {e:Expr} {a b c:AD} {as:List AD} {td te:TD} {tc td':TTD}
theorem cv_var {i:Nat} (h:PE X e (tVar i)):PE X e (lift K (dVar i)):=peM h l_var
theorem cv_c {v:V} {d:D} (hv:∀ F,Da K F v d) (h:PE X e (tC v)):PE X e (lift K (dC d)):=peM h (l_c hv)
theorem cv2 {r:R2} {f:D -> D -> (Sl -> Prop) -> Prop} (ok:OpOk K (r2L r) (o2 f)) (h:PE X e (tOp r (argT K a) (argT K b))):PE X e (lift K (dOp [a,b] (o2 f))):=peM h fun q=>arg2 (l_op ok q)
theorem cvu {r:V -> Hp -> VK -> Prop} {f:D -> (Sl -> Prop) -> Prop} (ok:OpOk K (r1L r) (o1 f)) (h:PE X e (tUn r (argT K a))):PE X e (lift K (dOp [a] (o1 f))):=peM h fun q=>arg1 (l_op ok q)
theorem cvB {r:List V -> Hp -> VK -> Prop} {f:List D -> (Sl -> Prop) -> Prop} (ok:OpOk K r f) (h:PE X e (tCB r (tArgs (as.map (argT K))))):PE X e (lift K (dOp as f)):=peM h fun q=>l_op ok q
theorem cv_isi (T:Ki) (h:PE X e (tCB (rIsi K) (tCons (argT K a) (tCons (tC (.ty T.nm)) tNil)))):PE X e (lift K (dOp [a] (o1 (fIsi T)))):=peM h fun q=>arg1 (P:=fun x H1=>rIsi K [x,.ty T.nm] H1 _) (l_op ok_isi q)
theorem cv_tup (hl:as.length <= 1000) (h:PE X e (tTup (tArgs (as.map (argT K))))):PE X e (lift K (dOpF as fTupD)):=peM h (l_tup hl)
theorem cv_lst (hl:as.length <= 1000) (h:PE X e (tLst (tArgs (as.map (argT K))))):PE X e (lift K (dOpF as fLstD)):=peM h (l_lst hl)
theorem cv_chain {p q:Int -> Int -> Bool} (h:PE X e (tChain (rI0 fun i j=>.bl (p i j)) (rI0 fun i j=>.bl (q i j)) (argT K a) (argT K b) (argT K c))):PE X e (lift K (dChain p q a b c)):=peM h l_chain
theorem cv_and (h:PE X e (tAndV (lift K td) (lift K te))):PE X e (lift K (dAndV td te)):=peM h l_andV
theorem cv_or (h:PE X e (tOrV (lift K td) (lift K te))):PE X e (lift K (dOrV td te)):=peM h l_orV
theorem cv_not (h:PE X e (tNotV (lift K td))):PE X e (lift K (dNotV td)):=peM h l_notV
theorem cv_if (h:PE X e (tIf (liftT K tc) (lift K td) (lift K te))):PE X e (lift K (dIf tc td te)):=peM h l_if
theorem cv_fn {con:Con} {E:XK} (h:PE X e (tCall (conSp K con) [] E (tArgs (as.map (argT K))))):PE X e (lift K (dCall con as)):=peM h l_call
theorem cv_fnI {con:Con} {E:XK} {i:Nat} (h:PE X e (tCall (conSp K con) [] E (tArgs ((Sum.inl i :: as).map (argT K))))):PE X e (lift K (dCallI con i as)):=peM h l_callI
theorem cv_m {i:Nat} {r:V -> List V -> Hp -> VK -> Prop} {f:List D -> List D -> (D -> D -> Prop) -> Prop} (ok:MOk K r f) (h:PE X e (tBM K "list" r (tVar i) (tArgs (as.map (argT K))))):PE X e (lift K (dMeth i as f)):=peM h fun q=>by
 obtain ⟨a,xs,e1,sq,w⟩:=l_meth ok q
 exact ⟨_,e1,.inl ⟨rfl,xs,sq⟩,w⟩
theorem ct2 {r:R2} {f:D -> D -> (Sl -> Prop) -> Prop} (ok:OpOk K (r2L r) (o2 f)) (h:PT X e (tTest (tOp r (argT K a) (argT K b)))):PT X e (liftT K (dTst (dOp [a,b] (o2 f)))):=ptM h fun q=>l_tst (fun z=>arg2 (l_op ok z)) q
theorem ct_val (h:PT X e (tB (lift K td))):PT X e (liftT K (dTst td)):=ptM h fun q=>l_tst (fun z=>z) q
theorem ct_chain {p q:Int -> Int -> Bool} (h:PT X e (tTest (tChain (rI0 fun i j=>.bl (p i j)) (rI0 fun i j=>.bl (q i j)) (argT K a) (argT K b) (argT K c)))):PT X e (liftT K (dTst (dChain p q a b c))):=ptM h fun z=>l_tst (fun y=>l_chain y) z
theorem ct_not (h:PT X e (tNot (liftT K tc))):PT X e (liftT K (dNot tc)):=ptM h l_not
theorem cw_and (h:PW X e (tAnd (liftT K tc) (liftT K td'))):PW X e (liftT K (dAnd tc td')):=pwM h l_and
theorem cw_or (h:PW X e (tOr (liftT K tc) (liftT K td'))):PW X e (liftT K (dOr tc td')):=pwM h l_or
variable {st:Stmt} {sts:List Stmt} {t u:TDS}
theorem cs_next (h:PSs X sts tNext):PSs X sts (liftS K dNext):=pssM h l_next
theorem cs_seq (h:PSs X sts (tSeq (liftS K t) (liftS K u))):PSs X sts (liftS K (dSeq t u)):=pssM h l_seq
theorem cs_ret (h:PS X st (tRet (lift K td))):PS X st (liftS K (dRet td)):=psM h l_ret
theorem cs_retV {i:Nat} (h:PS X st (tRet (tVar i))):PS X st (liftS K (dRetV i)):=psM h l_retV
theorem cs_move {i j:Nat} (h:PS X st (tAsg (tVar j) (gName i))):PS X st (liftS K (dMove i j)):=psM h l_move
theorem cs_drop (h:PS X st (tDrop (lift K td))):PS X st (liftS K (dDrop td)):=psM h l_drop
theorem cs_if (h:PS X st (tIfS (liftT K tc) (liftS K t) (liftS K u))):PS X st (liftS K (dIfS tc t u)):=psM h l_ifS
theorem cs_set {i:Nat} (h:PS X st (tAsg (lift K td) (gName i))):PS X st (liftS K (dSet i td)):=psM h l_set
theorem cs_ix {j:Nat} (h:PS X st (tAsg (lift K td) (gSub (tVar j) (argT K a) rSetL))):PS X st (liftS K (dSetIx j a td)):=psM h l_setIx
noncomputable def dAsgG (g:TDG) (a:TD):TDS:=fun E ρ=>a ρ fun r ρ'=>g r.d ρ' E.nx
theorem l_asgG {g:TDG} {E:Ends} {σ:L2.St} {H:Hp} (h:liftS K (dAsgG g td) E σ H):tAsg (lift K td) (liftG K g) E σ H:=by
 obtain ⟨G,F,ρ,D,R,w,n,r,b,c⟩:=h
 refine ⟨G,F,ρ,_,R,w,fun v H' F' x ρ' s R' r' q=>?_⟩
 obtain ⟨F2,s2,R2,d2⟩:=r'.frz R'
 exact ⟨G,F2,ρ',x.d,_,R2,d2,q,fun σ3 ρ3 R3 w3=>n σ3 H' F2 ρ3 (s.trans s2) R3 w3⟩
theorem cs_asgG {g:TDG} (h:PS X st (tAsg (lift K td) (liftG K g))):PS X st (liftS K (dAsgG g td)):=psM h l_asgG
theorem cg_name {i:Nat} (h:PG X e (gName i)):PG X e (liftG K (dGN i)):=pgM h l_gn
theorem cg_tup {n:Nat} {gs:List TDG} (h:PG X e (gTup K n (gAll (gs.map (liftG K))))) (hn:gs.length = n:=by rfl):PG X e (liftG K (dGT gs)):=pgM h (l_gt hn)
theorem cgs_cons {es:List Expr} {g:TDG} {gs:List TDG} (h1:PG X e (liftG K g)) (h2:PGs X es (gAll (gs.map (liftG K)))) (hs:(assignEach (e :: es) X.env).map (·.2) = assign e X.env :: (assignEach es X.env).map (·.2):=by rfl):PGs X (e :: es) (gAll ((g :: gs).map (liftG K))):=pgs_cons h1 h2 hs
theorem cif_nil:PIf X [] (liftT K dYes):=pifM if_nil l_yes
variable {tg:Expr}
theorem pi_seqD {l:Expr} {tl:TE} (hK:X.K = K) (hl:PE X l tl):PI X tg l (iSeq K tl):=by
 subst hK
 intro pins s σ H R I h
 refine thn (hl pins s σ H _ I h) fun v s1 ⟨x,H1,I1,r1,q1⟩=>?_
 obtain ⟨a,e,q1⟩:=q1
 subst e
 cases r1
 rcases q1 with ⟨⟨xs,hq⟩,q⟩ | ⟨⟨xs,hq⟩,q⟩
 ·obtain ⟨its,rv,p,hz⟩:=I1.list hq
  refine wpAny_pyIter_list p.isList ?_
  refine ⟨s1.heap.objs.size,[s1.heap.objs.size],_,_,H1,rfl,I1.kept (t':=s1.toks) fun b o e=>Heap.get?_push_of_some _ e,turn_list a _,⟨_,Heap.get?_push_size _ rfl,rfl,rfl⟩,fun b hb=>?_,q⟩
  have e:b = s1.heap.objs.size:=by simpa using hb
  subst e
  exact I1.fpOk (Nat.le_refl _) (I1.hok.fresh (Nat.le_refl _))
 ·obtain ⟨its,rv,p,hz⟩:=I1.tuple hq
  refine wpAny_pyIter_tuple (show s1.heap.IsTuple a its.toArray from p) ?_
  refine ⟨s1.heap.objs.size,[s1.heap.objs.size],_,_,H1,rfl,I1.kept (t':=s1.toks) fun b o e=>Heap.get?_push_of_some _ e,turn_tuple a _,⟨_,Heap.get?_push_size _ rfl,rfl,rfl⟩,fun b hb=>?_,q⟩
  have e:b = s1.heap.objs.size:=by simpa using hb
  subst e
  exact I1.fpOk (Nat.le_refl _) (I1.hok.fresh (Nat.le_refl _))
theorem ci_seq {l:Expr} (hK:X.K = K) (hl:PE X l (lift K td)):PI X tg l (liftI K (dISeq td)):=piM (pi_seqD hK hl) l_iseq
theorem ci_rng1 {l:Expr} (h:PI X tg l (iRng1 (tArgs ([a].map (argT K))))):PI X tg l (liftI K (dIRng1 a)):=piM h l_rng1
theorem ci_zip2 {l:Expr} (h:PI X tg l (iZip2 K (tArgs ([a,b].map (argT K))))):PI X tg l (liftI K (dIZip2 a b)):=piM h l_zip2
noncomputable def CMod (_ j:Int):Prop:=0 < j
theorem op_catB:OpR X (binaryOp .Add) rCatB:=by
 intro pins s σ H x y v u Q I rx ry h
 obtain ⟨a,b,xs,ys,rfl,rfl,ha,hb,hz,q1,q2,q3⟩:=h
 have ha':SqT X.K H a xs:=SqT.of ha
 have hb':SqT X.K H b ys:=SqT.of hb
 by_cases hx:xs = []
 ·subst hx
  cases rx
  cases ry
  obtain ⟨its,r1,p1,_⟩:=I.tuple ha'
  obtain ⟨its2,r2,p2,_⟩:=I.tuple hb'
  cases r1
  exact cat_tup0 p1 p2 ⟨.ref b,H,I,rfl,q1 rfl⟩
 ·exact op_catT pins s σ H (.ref a) (.ref b) v u Q I rx ry ⟨a,b,xs,ys,rfl,rfl,ha',hb',hx,hz,fun e=>q2 hx e,fun e p hp=>q3 hx e p hp⟩
theorem op_addD:OpR X (binaryOp .Add) (rAny (rI0 fun i j=>.int (i + j)) (rAny rCatB rCat)):=op_add.or (op_catB.or op_cat)
theorem op_mulD:OpR X (binaryOp .Mult) (rAny (rI CMul fun i j=>.int (i * j)) rRep):=op_mul.or op_rep
theorem ok_sub:OpOk K (r2L (rI0 fun i j=>.int (i - j))) (o2 (fI0 fun i j=>.int (i - j))):=ok_I0 fun _ _ _=>.int _
theorem ok_fdiv:OpOk K (r2L (rI CDiv fun i j=>.int (i / j))) (o2 (fI CDiv fun i j=>.int (i / j))):=ok_I fun _ _ _=>.int _
theorem ok_mod:OpOk K (r2L (rI (fun _ j=>0 < j) fun i j=>.int (i % j))) (o2 (fI CMod fun i j=>.int (i % j))):=ok_I (C:=CMod) fun _ _ _=>.int _
theorem ok_pow:OpOk K (r2L (rI CPow fun i j=>.int (i ^ j.toNat))) (o2 (fI CPow fun i j=>.int (i ^ j.toNat))):=ok_I fun _ _ _=>.int _
theorem ok_lt:OpOk K (r2L (rI0 fun i j=>.bl (decide (i < j)))) (o2 (fI0 fun i j=>.bool (decide (i < j)))):=ok_I0 fun _ _ _=>.bl _
theorem ok_le:OpOk K (r2L (rI0 fun i j=>.bl (decide (i <= j)))) (o2 (fI0 fun i j=>.bool (decide (i <= j)))):=ok_I0 fun _ _ _=>.bl _
theorem ok_gt:OpOk K (r2L (rI0 fun i j=>.bl (decide (j < i)))) (o2 (fI0 fun i j=>.bool (decide (j < i)))):=ok_I0 fun _ _ _=>.bl _
theorem ok_ge:OpOk K (r2L (rI0 fun i j=>.bl (decide (j <= i)))) (o2 (fI0 fun i j=>.bool (decide (j <= i)))):=ok_I0 fun _ _ _=>.bl _
theorem ix_seqD (hK:X.K = K):IxR X (rAny (rIxL K) (rIxT K)):=(ix_listK hK).or (ix_tupK hK)
end
mutual
noncomputable def plainD:D -> Bool
 | .none=>true
 | .bool _=>true
 | .int _=>true
 | .str _=>true
 | .list xs=>plainAll xs
 | .tuple xs=>plainAll xs
 | .dict _=>false
noncomputable def plainAll:List D -> Bool
 | []=>true
 | x :: xs=>plainD x && plainAll xs
end
section
variable {K:Fg} {F H:Hp}
mutual
theorem Da.is (s:Sub F H):∀ {v:V} {d:D},Da K F v d -> plainD d = true -> Is K H v d
 | _,_,.non,_=>.non
 | _,_,.bl b,_=>.bl b
 | _,_,.int i,_=>.int i
 | _,_,.str x,_=>.str x
 | _,_,.lst e t,z=>.lst (SqL.of (s _ _ e)) (DaAll.is s t (by simpa [plainD] using z))
 | _,_,.tup e t,z=>.tup (SqT.of (s _ _ e)) (DaAll.is s t (by simpa [plainD] using z))
 | _,_,.dk _ _,z=>by simp [plainD] at z
 | _,_,.dt _ _,z=>by simp [plainD] at z
 | _,_,.scr _,z=>by simp [plainD,scrD] at z
 | _,_,.exl _ _,z=>by simp [plainD,excLD] at z
 | _,_,.exc _,z=>by simp [plainD,excD] at z
 | _,_,.opq _,z=>by simp [plainD,opqD] at z
 | _,_,.pd _ _,z=>by simp [plainD,pdD] at z
 | _,_,.bd _ _,z=>by simp [plainD,bdD] at z
theorem DaAll.is (s:Sub F H):∀ {xs:List V} {ds:List D},DaAll K F xs ds -> plainAll ds = true -> IsAll K H xs ds
 | _,_,.nil,_=>.nil
 | _,_,.cons a t,z=>by
  simp [plainAll] at z
  exact .cons (Da.is s a z.1) (DaAll.is s t z.2)
end
theorem At.is {v:V} {d:D} (s:Sub F H) (h:At K F H v d) (p:plainD d = true):Is K H v d:=by
 rcases h with h | ⟨a,o,rfl,_,e,h⟩
 ·exact h.is s p
 ·cases o <;> cases d <;> first | exact h.elim | (simp [plainD] at p) | skip
  ·rename_i xs ds
   exact .lst (SqL.of e) (DaAll.is s h (by simpa [plainD] using p))
end
noncomputable def fEqG (x y:D) (Q:Sl -> Prop):Prop:=plainD x = true /\ plainD y = true /\ SeqAt.shaped x = true /\ SeqAt.shaped y = true /\ SeqAt.noMix x y = true /\ Q (.fz (.bool (same x y)))
noncomputable def fNeG (x y:D) (Q:Sl -> Prop):Prop:=plainD x = true /\ plainD y = true /\ SeqAt.shaped x = true /\ SeqAt.shaped y = true /\ SeqAt.noMix x y = true /\ Q (.fz (.bool (!same x y)))
noncomputable def fEq:D -> D -> (Sl -> Prop) -> Prop
 | .int i,.int j,Q=>Q (.fz (.bool (decide (i = j))))
 | .list xs,y,Q=>fEqG (.list xs) y Q
 | .tuple xs,y,Q=>fEqG (.tuple xs) y Q
 | .str x,.str y,Q=>Q (.fz (.bool (decide (x = y))))
 | x,y,Q=>fEqG x y Q
noncomputable def fNe:D -> D -> (Sl -> Prop) -> Prop
 | .int i,.int j,Q=>Q (.fz (.bool (!decide (i = j))))
 | .list xs,y,Q=>fNeG (.list xs) y Q
 | .tuple xs,y,Q=>fNeG (.tuple xs) y Q
 | .str x,.str y,Q=>Q (.fz (.bool (!decide (x = y))))
 | x,y,Q=>fNeG x y Q
theorem ok_eq {K:Fg}:OpOk K (r2L (rAny rEq (rEqD K false))) (o2 fEq):=ok2 fun G F σ H ρ x y d e Q Qd R h1 h2 w k=>by
 have gen:fEqG d e Qd -> rAny rEq (rEqD K false) x y H Q:=fun ⟨p1,p2,p3,p4,p5,w⟩=>.inr ⟨d,e,h1.is R.sub p1,h2.is R.sub p2,p3,p4,p5,k _ H F (.fz _) (Sub.refl _) R (Da.bl _) w⟩
 unfold fEq at w
 split at w
 ·rename_i i j
  cases h1.int
  cases h2.int
  refine .inl ⟨rfl,k _ H F (.fz _) (Sub.refl _) R (Da.bl _) ?_⟩
  have e:decide (V.int i = V.int j) = decide (i = j):=by rw [dec_int,Bool.beq_eq_decide_eq]
  rw [e]; exact w
 ·exact gen w
 ·exact gen w
 ·rename_i i j
  cases h1.str
  cases h2.str
  refine .inl ⟨rfl,k _ H F (.fz _) (Sub.refl _) R (Da.bl _) ?_⟩
  have e:decide (V.str i = V.str j) = decide (i = j):=by rw [dec_str,Bool.beq_eq_decide_eq]
  rw [e]; exact w
 ·exact gen w
theorem ok_ne {K:Fg}:OpOk K (r2L (rAny rNe (rEqD K true))) (o2 fNe):=ok2 fun G F σ H ρ x y d e Q Qd R h1 h2 w k=>by
 have gen:fNeG d e Qd -> rAny rNe (rEqD K true) x y H Q:=fun ⟨p1,p2,p3,p4,p5,w⟩=>.inr ⟨d,e,h1.is R.sub p1,h2.is R.sub p2,p3,p4,p5,k _ H F (.fz _) (Sub.refl _) R (Da.bl _) w⟩
 unfold fNe at w
 split at w
 ·rename_i i j
  cases h1.int
  cases h2.int
  refine .inl ⟨rfl,k _ H F (.fz _) (Sub.refl _) R (Da.bl _) ?_⟩
  have e:decide (V.int i = V.int j) = decide (i = j):=by rw [dec_int,Bool.beq_eq_decide_eq]
  rw [e]; exact w
 ·exact gen w
 ·exact gen w
 ·rename_i i j
  cases h1.str
  cases h2.str
  refine .inl ⟨rfl,k _ H F (.fz _) (Sub.refl _) R (Da.bl _) ?_⟩
  have e:decide (V.str i = V.str j) = decide (i = j):=by rw [dec_str,Bool.beq_eq_decide_eq]
  rw [e]; exact w
 ·exact gen w
theorem op_eqE {X:Cx} {K:Fg} (hK:X.K = K) (hu:X.A.units + 64 < cLine):OpR X (compareOp .Eq) (rAny rEq (rEqD K false)):=op_eq.or (op_eqDK hK hu)
theorem op_neE {X:Cx} {K:Fg} (hK:X.K = K) (hu:X.A.units + 64 < cLine):OpR X (compareOp .NotEq) (rAny rNe (rEqD K true)):=op_ne.or (op_neDK hK hu)
section
variable {P:Program} {w:World} {K:Fg} {mg:Str -> Option Value} {base:Heap}
theorem dfn {x qual:Str} {st:Stmt} {f:Addr} {fd:FuncData} {N ps:List Str} {k:Nat} {con:Con} {ts:TDS} (F:Fun K x qual st f fd) (S:FnScope N ps (defScope st))
  (hb:∀ (cdv:Value) (A:Around) (outer:List Env) (s:Shared) (H:Hp) (E:XK),Room k (A.deeper (envOfC qual (defScope st) s.heap.objs.size f cdv)) -> PSs (cxOf CX0 P w K mg base N qual (defScope st) f cdv A outer s H E).nox (defBody st) (liftS K ts))
  (hl:∀ args Qd,con args Qd -> args.length = ps.length) (hc:∀ args Qd,con args Qd -> (∀ s ∈ args,∀ d,s ≠ .ow d) /\ ts (endsOf args Qd) (startE N.length args)):FnOk P w K mg base CX0 (k + 1) f fd ps (conSp K con):=by
 refine F.ok S (fun vs H Q E h=>?_) (fun cdv A outer s H vs Q E hr h=>⟨_,hb cdv A outer s H E hr,l_def hc h⟩)
 obtain ⟨G,F',args,Qd,R,w',_⟩:=h
 have h1:=hl args Qd w'
 have h2:=R.len
 rw [List.length_map,List.length_map] at h2
 rw [h2,h1]
end
end L3
namespace L3
noncomputable def noOw:List Sl -> Bool
 | []=>true
 | .ow _ :: _=>false
 | _ :: as=>noOw as
theorem noOw_of:∀ {as:List Sl},noOw as = true -> ∀ s ∈ as,∀ d,s ≠ .ow d
 | .fz _ :: as,h,s,hs,d,z=>by
  rcases List.mem_cons.mp hs with e | e
  ·subst e; cases z
  ·exact noOw_of (as:=as) h s e d z
 | .io _ :: as,h,s,hs,d,z=>by
  rcases List.mem_cons.mp hs with e | e
  ·subst e; cases z
  ·exact noOw_of (as:=as) h s e d z
end L3
namespace L3
open PySem PySem.Spec PyProof.Rows L2
noncomputable def clean1 (ρ:Ev) (i:Nat):Ev:=match ρ[i]? with
 | some (some (.io _))=>ρ
 | some _=>ρ.set i none
 | none=>ρ
noncomputable def clean (ks:List Nat) (ρ:Ev):Ev:=match ks with
 | []=>ρ
 | i :: r=>clean r (clean1 ρ i)
section
variable {K:Fg} {G:Gh} {F H:Hp} {σ:L2.St} {ρ:Ev}
theorem Rel.drop (R:Rel K G F σ H ρ) {i:Nat} (hn:∀ d,ρ[i]? ≠ some (some (Sl.io d))):Rel K G F σ H (ρ.set i none):=by
 refine ⟨by rw [List.length_set]; exact R.len,R.sub,R.sub0,R.fn,R.keep,fun j d e=>?_,fun j t e wt=>?_,fun j d b e eb=>?_,fun j b e=>?_,fun j d e=>?_,fun j k t u b e1 w1 e2 w2 e3 e4=>?_⟩
 ·rcases get_set e with ⟨rfl,z⟩ | ⟨n,z⟩
  ·cases z
  ·exact R.fz j d z
 ·rcases get_set e with ⟨rfl,z⟩ | ⟨n,z⟩
  ·cases z
  ·exact R.ow j t z wt
 ·rcases get_set e with ⟨rfl,z⟩ | ⟨n,z⟩
  ·cases z
  ·exact R.new j d b z eb
 ·obtain ⟨d',e1,e2⟩:=R.io j b e
  have n:i ≠ j:=fun z=>by subst z; exact hn _ e1
  exact ⟨d',by rw [List.getElem?_set_ne n]; exact e1,e2⟩
 ·rcases get_set e with ⟨rfl,z⟩ | ⟨n,z⟩
  ·cases z
  ·exact R.ioi j d z
 ·rcases get_set e1 with ⟨rfl,z⟩ | ⟨n,z⟩
  ·cases z
  ·rcases get_set e2 with ⟨rfl,z'⟩ | ⟨n',z'⟩
   ·cases z'
   ·exact R.ap j k t u b z w1 z' w2 e3 e4
theorem Rel.clean1 (R:Rel K G F σ H ρ) (i:Nat):Rel K G F σ H (clean1 ρ i):=by
 unfold L3.clean1
 split
 ·exact R
 ·rename_i e1 e2
  exact R.drop fun d z=>by rw [e2] at z; cases z; exact e1 _ rfl
 ·exact R
theorem Rel.clean (ks:List Nat):∀ {ρ:Ev},Rel K G F σ H ρ -> Rel K G F σ H (clean ks ρ):=by
 induction ks with
 | nil=>intro ρ R; exact R
 | cons i r ih=>intro ρ R; exact ih (R.clean1 i)
end
noncomputable def dLoopC (ks:List Nat) (g:TDG) (tb:TDS) (E:DE):List D -> Ev -> Prop
 | [],ρ=>E.nx ρ
 | d :: ds,ρ=>g d ρ fun ρ'=>tb { nx:=fun ρ2=>dLoopC ks g tb E ds (clean ks ρ2),rt:=E.rt,bk:=fun ρ2=>E.nx (clean ks ρ2),ct:=fun ρ2=>dLoopC ks g tb E ds (clean ks ρ2) } ρ'
noncomputable def dForC (ks:List Nat) (ti:TDI) (g:TDG) (tb:TDS):TDS:=fun E ρ=>ti ρ fun ds ρ'=>dLoopC ks g tb E ds (clean ks ρ')
theorem l_forC {K:Fg} {ks:List Nat} {ti:TDI} {g:TDG} {tb:TDS} {E:Ends} {σ:L2.St} {H:Hp} (h:liftS K (dForC ks ti g tb) E σ H):tFor (liftI K ti) (liftG K g) (liftS K tb) E σ H:=by
 obtain ⟨G,F,ρ,D,R,w,n,r,b,c⟩:=h
 refine ⟨G,F,ρ,_,R,w,fun J H1 F1 ds ρ1 s1 R1 wk w1=>?_⟩
 refine ⟨fun i m σ H=>m = ds.length - i /\ i <= ds.length /\ ∃ F' ρ',Sub F1 F' /\ Rel K G F' σ H ρ' /\ dLoopC ks g tb D (ds.drop i) ρ',⟨ds.length,rfl,Nat.zero_le _,F1,_,Sub.refl _,R1.clean ks,w1⟩,?_⟩
 rintro i m σ H ⟨rfl,hi,F',ρ',s',R',w'⟩
 obtain ⟨hgo,hst⟩:=wk i H F' s' R'.sub
 cases e:ds[i]? with
 | none =>
  have hl:ds.length <= i:=List.getElem?_eq_none_iff.mp e
  refine .inl ⟨hst (by omega),?_⟩
  rw [List.drop_of_length_le hl] at w'
  exact n σ H F' ρ' (s1.trans s') R' w'
 | some d =>
  obtain ⟨go,yl⟩:=hgo d e
  have hl:=lt_of_get e
  rw [drop_get e] at w'
  refine .inr ⟨go,fun σ2 H2=>∃ F2 ρ2,Sub F1 F2 /\ Rel K G F2 σ2 H2 ρ2 /\ dLoopC ks g tb D (ds.drop (i + 1)) ρ2,fun σ2 H2 ⟨F2,ρ2,z1,z2,z3⟩=>⟨ds.length - (i + 1),by omega,rfl,hl,F2,ρ2,z1,z2,z3⟩,fun x H2 y=>?_⟩
  obtain ⟨F2,t1,t2,t3,t4,t5⟩:=yl x H2 y
  have R2:=R'.turn t1 t2 t3 t4
  refine ⟨G,F2,ρ',d,_,R2,t5,w',fun σ3 ρ3 R3 w3=>?_⟩
  refine ⟨G,F2,ρ3,_,R3,w3,fun σ4 H4 F4 ρ4 s4 R4 q=>?_,fun v σ4 H4 F4 x4 ρ4 s4 R4 r4 q=>?_,fun σ4 H4 F4 ρ4 s4 R4 q=>?_,fun σ4 H4 F4 ρ4 s4 R4 q=>?_⟩
  ·exact ⟨F4,_,s'.trans (t1.trans s4),R4.clean ks,q⟩
  ·exact r v σ4 H4 F4 x4 ρ4 (s1.trans (s'.trans (t1.trans s4))) R4 r4 q
  ·exact n σ4 H4 F4 _ (s1.trans (s'.trans (t1.trans s4))) (R4.clean ks) q
  ·exact ⟨F4,_,s'.trans (t1.trans s4),R4.clean ks,q⟩
theorem cs_forC {X:Cx} {K:Fg} {st:Stmt} {t:TDS} (ks:List Nat) {ti:TDI} {g:TDG} (h:PS X st (tFor (liftI K ti) (liftG K g) (liftS K t))):PS X st (liftS K (dForC ks ti g t)):=psM h l_forC
theorem loopC {ks:List Nat} {g:TDG} {tb:TDS} {E:DE} (J:List D -> Ev -> Prop)
  (hs:∀ d ds ρ,J (d :: ds) ρ -> ∀ N:Ev -> Prop,(∀ ρ2,J ds ρ2 -> N ρ2) -> g d ρ fun ρ'=>tb { nx:=fun ρ2=>N (clean ks ρ2),rt:=E.rt,bk:=fun ρ2=>E.nx (clean ks ρ2),ct:=fun ρ2=>N (clean ks ρ2) } ρ')
  (hd:∀ ρ,J [] ρ -> E.nx ρ):∀ {ds:List D} {ρ:Ev},J ds ρ -> dLoopC ks g tb E ds ρ
 | [],ρ,h=>hd ρ h
 | d :: ds,ρ,h=>hs d ds ρ h _ fun ρ2 h2=>loopC J hs hd h2
noncomputable def dCompLC (n:Nat) (g:TDG) (tc:TTD) (te:TD):List D -> List D -> Ev -> (List D -> Ev -> Prop) -> Prop
 | [],acc,τ,Q=>Q acc τ
 | d :: ds,acc,τ,Q=>g d τ fun τ1=>tc τ1 fun b τ2=>if b = true then te τ2 fun r τ3=>dCompLC n g tc te ds (acc ++ [r.d]) (clean (List.range n) τ3) Q else dCompLC n g tc te ds acc (clean (List.range n) τ2) Q
noncomputable def dCompC (ti:TDI) (own:List Str) (fr:List Nat) (g:TDG) (tc:TTD) (te:TD):TD:=fun ρ Q=>ti ρ fun ds ρ1=>ds.length <= sizeLine /\ dCompLC own.length g tc te ds [] (innerE own fr ρ1) fun ys τ=>Q (.ow (.list ys)) (wbGo fr (τ.drop own.length) 0 ρ1)
theorem l_compC {K:Fg} {ti:TDI} {own:List Str} {fr:List Nat} {g:TDG} {tc:TTD} {te:TD} (nd:fr.Nodup) {σ:L2.St} {H:Hp} {Q:VK} (h:lift K (dCompC ti own fr g tc te) σ H Q):tCompW (liftI K ti) own fr (liftG K g) (liftT K tc) (lift K te) σ H Q:=by
 obtain ⟨G,F,ρ,Qd,R,w,k⟩:=h
 refine ⟨G,F,ρ,_,R,w,fun J H1 F1 ds ρ1 s1 R1 wk ⟨hz,w1⟩=>?_⟩
 have Ri:=R1.inner (own:=own) nd
 refine ⟨fun i m ys τ H=>m = ds.length - i /\ i <= ds.length /\ ∃ F' ρ' acc,Rel K (ghC own fr F1 H1 σ ρ1) F' τ H ρ' /\ DaAll K F' ys acc /\ acc.length <= i /\ dCompLC own.length g tc te (ds.drop i) acc ρ' (fun ys τ=>Qd (.ow (.list ys)) (wbGo fr (τ.drop own.length) 0 ρ1)),
   ⟨ds.length,rfl,Nat.zero_le _,F1,_,[],Ri,.nil,Nat.zero_le _,w1⟩,?_⟩
 rintro i m ys τ H' ⟨rfl,hi,F',ρ',acc,R',da,hl,w'⟩
 obtain ⟨hgo,hst⟩:=wk i H' F' R'.sub0 R'.sub
 cases e:ds[i]? with
 | none =>
  have hl':ds.length <= i:=List.getElem?_eq_none_iff.mp e
  refine .inl ⟨hst (by omega),fun Dd hD=>?_⟩
  rw [List.drop_of_length_le hl'] at w'
  have Ro:=R1.outer R' nd
  obtain ⟨Rn,rn⟩:=Ro.newOw (o:=.lst ys) (d:=.list acc) hD da
  exact k _ _ F' _ _ (s1.trans R'.sub0) Rn rn w'
 | some d =>
  obtain ⟨go,yl⟩:=hgo d e
  have hlt:=lt_of_get e
  rw [drop_get e] at w'
  refine .inr ⟨go,by rw [da.length]; omega,fun ys2 τ2 H2=>∃ F2 ρ2 acc2,Rel K (ghC own fr F1 H1 σ ρ1) F2 τ2 H2 ρ2 /\ DaAll K F2 ys2 acc2 /\ acc2.length <= i + 1 /\ dCompLC own.length g tc te (ds.drop (i + 1)) acc2 ρ2 (fun ys τ=>Qd (.ow (.list ys)) (wbGo fr (τ.drop own.length) 0 ρ1)),
    fun ys2 τ2 H2 ⟨F2,ρ2,acc2,z1,z2,z3,z4⟩=>⟨ds.length - (i + 1),by omega,rfl,hlt,F2,ρ2,acc2,z1,z2,z3,z4⟩,fun x H2 y=>?_⟩
  obtain ⟨F2,t1,t2,t3,t4,t5⟩:=yl x H2 y
  have R2:=R'.turn t1 t2 t3 t4
  refine ⟨_,F2,ρ',d,_,R2,t5,w',fun τ3 ρ3 R3 w3=>?_⟩
  refine ⟨_,F2,ρ3,_,R3,w3,fun b H4 F4 ρ4 s4 R4 w4=>?_⟩
  cases b with
  | false=>exact ⟨F4,_,acc,R4.clean _,da.mono (t1.trans s4),by omega,w4⟩
  | true =>
   refine ⟨_,F4,ρ4,_,R4,w4,fun v H5 F5 r ρ5 s5 R5 r5 w5=>?_⟩
   obtain ⟨F6,s6,R6,d6⟩:=r5.frz R5
   exact ⟨F6,_,acc ++ [r.d],R6.clean _,(da.mono (t1.trans (s4.trans (s5.trans s6)))).append (.cons d6 .nil),by simp; omega,w5⟩
section
variable {X:Cx} {K:Fg} {e:Expr} {st:Stmt} {ti:TDI} {own:List Str} {fr:List Nat} {g:TDG} {tc:TTD} {te:TD}
theorem cv_compC (nd:fr.Nodup) (h:PE X e (tCompW (liftI K ti) own fr (liftG K g) (liftT K tc) (lift K te))):PE X e (lift K (dCompC ti own fr g tc te)):=peM h (l_compC nd)
theorem cs_setCC {i:Nat} (nd:fr.Nodup) (h:PS X st (tAsg (tCompW (liftI K ti) own fr (liftG K g) (liftT K tc) (lift K te)) (gName i))):PS X st (liftS K (dSet i (dCompC ti own fr g tc te))):=psM h fun q=>l_compC nd (l_set q)
end
theorem compC {n:Nat} {g:TDG} {tc:TTD} {te:TD} {Q:List D -> Ev -> Prop} (J:List D -> List D -> Ev -> Prop)
  (hs:∀ d ds acc τ,J (d :: ds) acc τ -> ∀ N:List D -> Ev -> Prop,(∀ acc2 τ2,J ds acc2 τ2 -> N acc2 τ2) -> g d τ fun τ1=>tc τ1 fun b τ2=>if b = true then te τ2 fun r τ3=>N (acc ++ [r.d]) (clean (List.range n) τ3) else N acc (clean (List.range n) τ2))
  (hd:∀ acc τ,J [] acc τ -> Q acc τ):∀ {ds acc:List D} {τ:Ev},J ds acc τ -> dCompLC n g tc te ds acc τ Q
 | [],acc,τ,h=>hd acc τ h
 | d :: ds,acc,τ,h=>hs d ds acc τ h _ fun acc2 τ2 h2=>compC J hs hd h2
theorem compN {n:Nat} {g:TDG} {te:TD} {Q:List D -> Ev -> Prop} (J:List D -> List D -> Ev -> Prop)
  (hs:∀ d ds acc τ,J (d :: ds) acc τ -> ∀ N:List D -> Ev -> Prop,(∀ acc2 τ2,J ds acc2 τ2 -> N acc2 τ2) -> g d τ fun τ1=>te τ1 fun r τ3=>N (acc ++ [r.d]) (clean (List.range n) τ3))
  (hd:∀ acc τ,J [] acc τ -> Q acc τ) {ds acc:List D} {τ:Ev} (h:J ds acc τ):dCompLC n g dYes te ds acc τ Q :=
 compC J (fun d ds acc τ h N hN=>by
   have q:=hs d ds acc τ h N hN
   have e:(fun τ1=>te τ1 fun r τ3=>N (acc ++ [r.d]) (clean (List.range n) τ3)) = fun τ1=>dYes τ1 fun b τ2=>if b = true then te τ2 (fun r τ3=>N (acc ++ [r.d]) (clean (List.range n) τ3)) else N acc (clean (List.range n) τ2):=by
     funext τ1
     show _ = (if true = true then te τ1 (fun r τ3=>N (acc ++ [r.d]) (clean (List.range n) τ3)) else N acc (clean (List.range n) τ1))
     rw [if_pos rfl]
   rw [<- e]
   exact q) hd h
theorem mapC {n:Nat} {g:TDG} {te:TD} {Q:List D -> Ev -> Prop} (f:D -> D) {τ:Ev} {ds:List D}
  (hs:∀ d ∈ ds,∀ N:D -> Ev -> Prop,N (f d) τ -> g d τ fun τ1=>te τ1 fun r τ3=>N r.d (clean (List.range n) τ3))
  (hd:Q (ds.map f) τ):dCompLC n g dYes te ds [] τ Q:=by
 refine compN (fun rest acc τ'=>τ' = τ /\ ∃ pre,ds = pre ++ rest /\ acc = pre.map f) ?_ ?_ ⟨rfl,[],rfl,rfl⟩
 ·rintro d ds' acc τ' ⟨rfl,pre,e,rfl⟩ N hN
  exact hs d (by rw [e]; simp) (fun x τ3=>N (pre.map f ++ [x]) τ3) (hN _ _ ⟨rfl,pre ++ [d],by rw [e]; simp,by simp⟩)
 ·rintro acc τ' ⟨rfl,pre,e,rfl⟩
  rw [List.append_nil] at e
  subst e
  exact hd
theorem filC {n:Nat} {g:TDG} {tc:TTD} {te:TD} {Q:List D -> Ev -> Prop} (p:D -> Bool) (f:D -> D) {τ:Ev} {ds:List D}
  (hs:∀ d ∈ ds,∀ (N:D -> Ev -> Prop) (M:Ev -> Prop),(p d = true -> N (f d) τ) -> (p d = false -> M τ) -> g d τ fun τ1=>tc τ1 fun b τ2=>if b = true then te τ2 fun r τ3=>N r.d (clean (List.range n) τ3) else M (clean (List.range n) τ2))
  (hd:Q ((ds.filter p).map f) τ):dCompLC n g tc te ds [] τ Q:=by
 refine compC (fun rest acc τ'=>τ' = τ /\ ∃ pre,ds = pre ++ rest /\ acc = (pre.filter p).map f) ?_ ?_ ⟨rfl,[],rfl,rfl⟩
 ·rintro d ds' acc τ' ⟨rfl,pre,e,rfl⟩ N hN
  exact hs d (by rw [e]; simp) (fun x τ3=>N ((pre.filter p).map f ++ [x]) τ3) (fun τ3=>N ((pre.filter p).map f) τ3) (fun hp=>hN _ _ ⟨rfl,pre ++ [d],by rw [e]; simp,by simp [hp]⟩)
   (fun hp=>hN _ _ ⟨rfl,pre ++ [d],by rw [e]; simp,by simp [hp]⟩)
 ·rintro acc τ' ⟨rfl,pre,e,rfl⟩
  rw [List.append_nil] at e
  subst e
  exact hd
end L3
namespace L3
open PySem PySem.Spec PyProof.Rows L2
noncomputable def rRepr (K:Fg):List V -> Hp -> VK -> Prop:=fun xs H Q=>∃ (x:V) (d:PyData),xs = [x] /\ Is K H x d /\ d.showable = true /\ d.hasDict = false /\ d.depth + 1 <= 64 /\ d.shown.length <= sizeLine /\ Q (.str d.shown) H
theorem call_reprK {X:Cx} {K:Fg} {k:Nat} (hK:X.K = K) (hr:Room k X.A):CallR X (.builtin "repr") (rRepr K):=by
 subst hK
 intro pins s σ H xs us Q I r h
 obtain ⟨x,d,rfl,hd,hs,hn,hz,hl,q⟩:=h
 obtain ⟨u,rfl,ru⟩:=vals1 r
 obtain ⟨as,ra⟩:=hd.reads I ru
 have hu:=hr.units
 cases hd with
 | non=>cases ru; exact PySem.P.repr_of_none ⟨.str _,H,I.tok _,⟨_,rfl⟩,q⟩
 | bl b=>cases ru; exact PySem.P.repr_of_bool ⟨.str _,H,I.tok _,⟨_,rfl⟩,by cases b <;> exact q⟩
 | int i =>
  obtain ⟨t,rfl⟩:=ru
  exact PySem.P.repr_of_int (by simpa [PyData.showable] using hs) ⟨.str _,H,I.tok _,⟨_,rfl⟩,q⟩
 | str x =>
  obtain ⟨t,rfl⟩:=ru
  exact PySem.P.repr_of_str ⟨.str _,H,I.tok _,⟨_,rfl⟩,q⟩ hl
 | lst _ _ =>
  cases ru
  exact repr_of_reads' ra hs (fun z=>by rw [hn] at z; cases z) hr.gd (by omega) (fun _ _ e=>e) (fun h' u tk hk=>⟨.str _,H,I.kept hk,⟨u,rfl⟩,q⟩) hl
 | tup _ _ =>
  cases ru
  exact repr_of_reads' ra hs (fun z=>by rw [hn] at z; cases z) hr.gd (by omega) (fun _ _ e=>e) (fun h' u tk hk=>⟨.str _,H,I.kept hk,⟨u,rfl⟩,q⟩) hl
noncomputable def fRepr (d:D) (Q:Sl -> Prop):Prop:=plainD d = true /\ d.showable = true /\ d.depth + 1 <= 64 /\ d.shown.length <= sizeLine /\ Q (.fz (.str d.shown))
mutual
theorem plain_noDict:∀ {d:D},plainD d = true -> d.hasDict = false
 | .none,_=>rfl
 | .bool _,_=>rfl
 | .int _,_=>rfl
 | .str _,_=>rfl
 | .list xs,h=>by
  have:=plainAll_noDict (xs:=xs) (by simpa [plainD] using h)
  simpa [PyData.hasDict] using this
 | .tuple xs,h=>by
  have:=plainAll_noDict (xs:=xs) (by simpa [plainD] using h)
  simpa [PyData.hasDict] using this
 | .dict _,h=>by simp [plainD] at h
theorem plainAll_noDict:∀ {xs:List D},plainAll xs = true -> PyData.hasDictAll xs = false
 | [],_=>rfl
 | x :: xs,h=>by
  simp [plainAll] at h
  simp [PyData.hasDictAll,plain_noDict h.1,plainAll_noDict h.2]
end
theorem ok_repr {K:Fg}:OpOk K (rRepr K) (o1 fRepr):=ok1 fun G F σ H ρ x d Q Qd R h1 w k=>by
 obtain ⟨p1,p2,p3,p4,w⟩:=w
 exact ⟨x,d,rfl,h1.is R.sub p1,p2,plain_noDict p1,p3,p4,k _ H F (.fz _) (Sub.refl _) R (Da.str _) w⟩
end L3
namespace L3
open PySem PySem.Spec PyProof.Rows L2
structure WE (X:Cx) (e:Expr) (t:TE):Prop where
 h:PE X e t
structure WA (X:Cx) (es:List Expr) (t:TA):Prop where
 h:PA X es t
structure WT (X:Cx) (e:Expr) (t:TT):Prop where
 h:PT X e t
structure WW (X:Cx) (e:Expr) (t:TT):Prop where
 h:PW X e t
structure WS (X:Cx) (s:Stmt) (t:TS):Prop where
 h:PS X s t
structure WSs (X:Cx) (s:List Stmt) (t:TS):Prop where
 h:PSs X s t
structure WG (X:Cx) (e:Expr) (t:TG):Prop where
 h:PG X e t
structure WGs (X:Cx) (es:List Expr) (t:TGs):Prop where
 h:PGs X es t
structure WI (X:Cx) (g e:Expr) (t:TI):Prop where
 h:PI X g e t
structure WIf (X:Cx) (es:List Expr) (t:TT):Prop where
 h:PIf X es t
section
variable {X:Cx} {K:Fg} {e e1 e2 e3:Expr} {es:List Expr} {a b c:AD} {as:List AD} {td te tf:TD} {tc tc':TTD} {st:Stmt} {sts:List Stmt} {t u:TDS} {p pos pos' p2 apos cpos tpos:Pos} {x:Str} {tg:Expr}
theorem wn (i:Nat) (hN:X.N[i]? = some x:=by rfl) (hv:Vis X.env.scope x:=by first | exact Or.inl rfl | exact Or.inr (Or.inl rfl) | exact Or.inr (Or.inr rfl)) (hd:(x == ("__debug__":Str)) = false:=by decide)
  (hcd:(x == ("__classdict__":Str)) = false:=by decide):WE X (.Name x pos) (argT K (.inl i)):=⟨pe_var hN hv hd hcd⟩
theorem wv (i:Nat) (hN:X.N[i]? = some x:=by rfl) (hv:Vis X.env.scope x:=by first | exact Or.inl rfl | exact Or.inr (Or.inl rfl) | exact Or.inr (Or.inr rfl)) (hd:(x == ("__debug__":Str)) = false:=by decide)
  (hcd:(x == ("__classdict__":Str)) = false:=by decide):WE X (.Name x pos) (lift K (dVar i)):=⟨cv_var (pe_var hN hv hd hcd)⟩
theorem wx (h:WE X e (lift K td)):WE X e (argT K (.inr td)):=⟨h.h⟩
theorem wa_nil:WA X [] (tArgs (([]:List AD).map (argT K))):=⟨pa_nil⟩
theorem wa_cons (ha:WE X e (argT K a)) (hr:WA X es (tArgs (as.map (argT K)))) (hs:notStar e = true:=by rfl):WA X (e :: es) (tArgs ((a :: as).map (argT K))):=⟨da_cons ha.h hr.h (starEach_of hs)⟩
theorem w_int {i:Int} {k:Nat}:WE X (.Constant (.int i) k pos) (lift K (dC (.int i))):=⟨cv_c (fun _=>.int _) pe_int⟩
theorem w_bl {b:Bool} {k:Nat}:WE X (.Constant (.bool b) k pos) (lift K (dC (.bool b))):=⟨cv_c (fun _=>.bl _) pe_bl⟩
theorem w_non {k:Nat}:WE X (.Constant .none k pos) (lift K (dC .none)):=⟨cv_c (fun _=>.non) pe_non⟩
theorem w_str {z:Str} {k:Nat}:WE X (.Constant (.str z) k pos) (lift K (dC (.str z))):=⟨cv_c (fun _=>.str _) pe_str⟩
theorem w_bin {op:Operator} {r:R2} {f:D -> D -> (Sl -> Prop) -> Prop} (ok:OpOk K (r2L r) (o2 f)) (ho:OpR X (binaryOp op) r) (ha:WE X e1 (argT K a)) (hb:WE X e2 (argT K b)):WE X (.BinOp e1 op e2 pos) (lift K (dOp [a,b] (o2 f))):=⟨cv2 ok (pe_op ho ha.h hb.h)⟩
theorem w_neg (ha:WE X e1 (argT K a)):WE X (.UnaryOp .USub e1 pos) (lift K (dOp [a] (o1 fNeg))):=⟨cvu ok_neg (pe_un un_neg ha.h)⟩
theorem w_cmp {op:CmpOp} {r:R2} {f:D -> D -> (Sl -> Prop) -> Prop} (ok:OpOk K (r2L r) (o2 f)) (ho:OpR X (compareOp op) r) (ha:WE X e1 (argT K a)) (hb:WE X e2 (argT K b)) (hm:op ≠ .In:=by decide) (hm2:op ≠ .NotIn:=by decide):WE X (.Compare e1 [op] [e2] pos) (lift K (dOp [a,b] (o2 f))):=⟨cv2 ok (pe_cmpR ho ha.h hb.h (nomark _ hm hm2))⟩
theorem w_chain {op op':CmpOp} {p q:Int -> Int -> Bool} (ho:OpR X (compareOp op) (rI0 fun i j=>.bl (p i j))) (ho':OpR X (compareOp op') (rI0 fun i j=>.bl (q i j))) (ha:WE X e1 (argT K a)) (hb:WE X e2 (argT K b)) (hc:WE X e3 (argT K c))
  (hm:lastMarks [op,op'] [e2,e3] = false:=by with_unfolding_all rfl):WE X (.Compare e1 [op,op'] [e2,e3] pos) (lift K (dChain p q a b c)):=⟨cv_chain (pe_chain ho ho' ha.h hb.h hc.h hm)⟩
theorem w_one {op:BoolOp} {tr:TE} (h:WE X e tr):WE X (.BoolOp op [e] pos) tr:=⟨pe_one h.h⟩
theorem w_and {rest:List Expr} (ha:WE X e1 (lift K td)) (hb:WE X (.BoolOp .And (e2 :: rest) pos) (lift K te)):WE X (.BoolOp .And (e1 :: e2 :: rest) pos) (lift K (dAndV td te)):=⟨cv_and (pe_and ha.h hb.h)⟩
theorem w_or {rest:List Expr} (ha:WE X e1 (lift K td)) (hb:WE X (.BoolOp .Or (e2 :: rest) pos) (lift K te)):WE X (.BoolOp .Or (e1 :: e2 :: rest) pos) (lift K (dOrV td te)):=⟨cv_or (pe_or ha.h hb.h)⟩
theorem w_not (ha:WE X e1 (lift K td)):WE X (.UnaryOp .Not e1 pos) (lift K (dNotV td)):=⟨cv_not (pe_not ha.h)⟩
theorem w_ifE (hc:WT X e1 (liftT K tc)) (ha:WE X e2 (lift K td)) (hb:WE X e3 (lift K te)):WE X (.IfExp e1 e2 e3 pos) (lift K (dIf tc td te)):=⟨cv_if (pe_ifExp hc.h ha.h hb.h)⟩
theorem w_fn {k:Nat} {ps:List Str} {con:Con} (C:Cal X.prog X.w X.K X.mg X.base k x ps (conSp K con)) (hr:Room k X.A) (ha:WA X (e :: es) (tArgs (as.map (argT K)))) (hg:Gl X x:=by rfl) (hdb:(x == ("__debug__":Str)) = false:=by decide)
  (he:notStar e = true:=by rfl) (hpl:es.all notStar = true:=by rfl):WE X (.Call (.Name x p) (e :: es) [] pos) (lift K (dCall con as)):=⟨cv_fn (pe_fn C hr ha.h hg hdb (starEach_of he) (plain_of hpl))⟩
theorem w_fnI {k i:Nat} {ps:List Str} {con:Con} (C:Cal X.prog X.w X.K X.mg X.base k x ps (conSp K con)) (hr:Room k X.A) (ha:WA X (e :: es) (tArgs ((Sum.inl i :: as).map (argT K)))) (hg:Gl X x:=by rfl) (hdb:(x == ("__debug__":Str)) = false:=by decide)
  (he:notStar e = true:=by rfl) (hpl:es.all notStar = true:=by rfl):WE X (.Call (.Name x p) (e :: es) [] pos) (lift K (dCallI con i as)):=⟨cv_fnI (pe_fn C hr ha.h hg hdb (starEach_of he) (plain_of hpl))⟩
theorem w_callB {id:String} {r:List V -> Hp -> VK -> Prop} {f:List D -> (Sl -> Prop) -> Prop} (ok:OpOk K r f) (hc:CallR X (.builtin id) r) (hm:X.mg x = none) (hv:bootBuiltins x = some (.builtin id)) (ha:WA X (e :: es) (tArgs (as.map (argT K)))) (hg:Gl X x:=by rfl) (hn:x ≠ "__name__":=by decide) (hdb:(x == ("__debug__":Str)) = false:=by decide)
  (he:notStar e = true:=by rfl) (hpl:es.all notStar = true:=by rfl):WE X (.Call (.Name x p) (e :: es) [] pos) (lift K (dOp as f)):=⟨cvB ok (pe_callB hc hg hm hv ha.h hn hdb (starEach_of he) (plain_of hpl))⟩
theorem w_callT {T:String} {r:List V -> Hp -> VK -> Prop} {f:List D -> (Sl -> Prop) -> Prop} (ok:OpOk K r f) (hc:CallR X (.type T) r) (hm:X.mg x = none) (hv:bootBuiltins x = some (.type T)) (ha:WA X (e :: es) (tArgs (as.map (argT K)))) (hg:Gl X x:=by rfl) (hn:x ≠ "__name__":=by decide) (hdb:(x == ("__debug__":Str)) = false:=by decide)
  (he:notStar e = true:=by rfl) (hpl:es.all notStar = true:=by rfl):WE X (.Call (.Name x p) (e :: es) [] pos) (lift K (dOp as f)):=⟨cvB ok (pe_callTy hc hg hm hv ha.h hn hdb (starEach_of he) (plain_of hpl))⟩
theorem w_isi (T:Ki) (hK:X.K = K) (hm:X.mg "isinstance" = none) {y:Str} (hm2:X.mg y = none) (hv2:bootBuiltins y = some (.type T.nm)) (ha:WE X e1 (argT K a)) (hg:Gl X "isinstance":=by rfl) (hg2:Gl X y:=by rfl) (hy:y ≠ "__name__":=by decide) (hy2:(y == ("__debug__":Str)) = false:=by decide) (he:notStar e1 = true:=by rfl) :
  WE X (.Call (.Name "isinstance" p) [e1,.Name y p2] [] pos) (lift K (dOp [a] (o1 (fIsi T)))):=⟨cv_isi T (pe_callB (call_isiK hK) hg hm boot_isinstance (pa_cons ha.h (pa_cons (pe_bltn hg2 hm2 hv2 (v:=.ty T.nm) rfl hy hy2) pa_nil (starEach_of rfl)) (starEach_of he)) (by decide) (by decide) (starEach_of he) (plain_of rfl))⟩
theorem w_ix (hK:X.K = K) (ha:WE X e1 (argT K a)) (hb:WE X e2 (argT K b)) (hs:PlainIx e2:=by exact fun _ _=>rfl):WE X (.Subscript e1 e2 pos) (lift K (dOp [a,b] (o2 fIx))):=⟨cv2 ok_ix (pe_ix (ix_seqD hK) ha.h hb.h hs)⟩
theorem w_tup {k:Nat} (h:WA X es (tArgs (as.map (argT K)))) (hl:as.length <= 1000:=by decide):WE X (.Tuple es k pos) (lift K (dOpF as fTupD)):=⟨cv_tup hl (pe_tup h.h)⟩
theorem w_lst (h:WA X es (tArgs (as.map (argT K)))) (hl:as.length <= 1000:=by decide):WE X (.List es pos) (lift K (dOpF as fLstD)):=⟨cv_lst hl (pe_lst h.h)⟩
theorem w_comp {elt iter:Expr} {ifs:List Expr} {sc:Scope} {own:List Str} {fr:List Nat} {ti:TDI} {g:TDG} (hc:X.calm = true) (S:compOk X.env.scope X.N fr sc = true) (hi:WI X tg iter (liftI K ti)) (hg:∀ C s H ex,WG (cxComp X own fr sc C s H ex) tg (liftG K g))
  (hif:∀ C s H ex,WIf (cxComp X own fr sc C s H ex) ifs (liftT K tc)) (he:∀ C s H ex,WE (cxComp X own fr sc C s H ex) elt (lift K te)) (nd:fr.Nodup:=by decide) (hs:notSet iter = true:=by rfl):WE X (.ListComp elt [⟨tg,iter,ifs,0⟩] sc pos) (lift K (dCompC ti own fr g tc te)) :=
 ⟨cv_compC nd (pe_compW hc (compSc_of S) hi.h (fun C s H ex=>(hg C s H ex).h) (fun C s H ex=>(hif C s H ex).h) (fun C s H ex=>(he C s H ex).h) (folded_of hs))⟩
theorem w_m {name:Str} {id:String} {i:Nat} {r:V -> List V -> Hp -> VK -> Prop} {f:List D -> List D -> (D -> D -> Prop) -> Prop} (ok:MOk K r f) (hK:X.K = K) (slot:Slot "list" name id) (hty:typeOf (.builtin id) = pure (.type "method_descriptor")) (hm:MtR X id r) (ho:WE X (.Name x p) (argT K (.inl i))) (ha:WA X (e :: es) (tArgs (as.map (argT K))))
  (hbase:attributeBase (.Name x p) name X.env (eval (.Name x p) X.env) = eval (.Name x p) X.env:=by rfl)
  (hfew:((backTo cpos (starEach (e :: es) X.env)).all (fun x=>!x.1) && (backToKw cpos (keywordEach [] X.env)).all (fun x=>x.1.isSome) && decide ((e :: es).length + ([]:List Keyword).length + (if ([]:List Keyword).isEmpty then 0 else 1) < 30)) = true:=by rfl)
  (hline:(apos.endLine == cpos.line) = true:=by rfl) (he:notStar e = true:=by rfl) (hpl:es.all notStar = true:=by rfl):WE X (.Call (.Attribute (.Name x p) name apos) (e :: es) [] cpos) (lift K (dMeth i as f)):=by
 subst hK
 exact ⟨cv_m ok (pe_bm PySem.F.plainAttrs_list slot hty hm ho.h ha.h hbase hfew hline (starEach_of he) (plain_of hpl))⟩
theorem t_cmp {op:CmpOp} {r:R2} {f:D -> D -> (Sl -> Prop) -> Prop} (ok:OpOk K (r2L r) (o2 f)) (ho:OpR X (compareOp op) r) (ha:WE X e1 (argT K a)) (hb:WE X e2 (argT K b)) (hm:op ≠ .In:=by decide) (hm2:op ≠ .NotIn:=by decide):WT X (.Compare e1 [op] [e2] pos) (liftT K (dTst (dOp [a,b] (o2 f)))):=⟨ct2 ok (pt_cmpR ho ha.h hb.h (nomark _ hm hm2))⟩
theorem t_chain {op op':CmpOp} {p q:Int -> Int -> Bool} (ho:OpR X (compareOp op) (rI0 fun i j=>.bl (p i j))) (ho':OpR X (compareOp op') (rI0 fun i j=>.bl (q i j))) (ha:WE X e1 (argT K a)) (hb:WE X e2 (argT K b)) (hc:WE X e3 (argT K c))
  (hm:lastMarks [op,op'] [e2,e3] = false:=by with_unfolding_all rfl):WT X (.Compare e1 [op,op'] [e2,e3] pos) (liftT K (dTst (dChain p q a b c))):=⟨ct_chain (pt_chain ho ho' ha.h hb.h hc.h hm)⟩
theorem t_not (h:WT X e (liftT K tc)):WT X (.UnaryOp .Not e pos) (liftT K (dNot tc)):=⟨ct_not (pt_not h.h)⟩
theorem t_and1 (h:WT X e (liftT K tc)):WW X (.BoolOp .And [e] pos) (liftT K tc):=⟨pw_and1 h.h⟩
theorem t_or1 (h:WT X e (liftT K tc)):WW X (.BoolOp .Or [e] pos) (liftT K tc):=⟨pw_or1 h.h⟩
theorem t_and {rest:List Expr} (ha:WT X e1 (liftT K tc)) (hb:WW X (.BoolOp .And (e2 :: rest) pos) (liftT K tc')):WW X (.BoolOp .And (e1 :: e2 :: rest) pos) (liftT K (dAnd tc tc')):=⟨cw_and (pw_and ha.h hb.h)⟩
theorem t_or {rest:List Expr} (ha:WT X e1 (liftT K tc)) (hb:WW X (.BoolOp .Or (e2 :: rest) pos) (liftT K tc')):WW X (.BoolOp .Or (e1 :: e2 :: rest) pos) (liftT K (dOr tc tc')):=⟨cw_or (pw_or ha.h hb.h)⟩
theorem t_w {tt:TT} (h:WW X e tt):WT X e tt:=⟨h.h.pt⟩
theorem t_val (h:WE X e (lift K td)) (he:∀ whole,isTrue e X.env whole = (do let v <- whole; standAt e.pos; holding [v] (truthy v)):=by intro _; rfl):WT X e (liftT K (dTst td)):=⟨ct_val (pt_val h.h he)⟩
theorem g_name {i:Nat} (hN:X.N.Nodup) (hi:X.N[i]? = some x) (hx:Loc X.env.scope x) (hf:X.fn x = true \/ X.env.scope.names.lookup x = some .local:=by first | exact .inl rfl | exact .inr rfl | assumption):WG X (.Name x pos) (liftG K (dGN i)):=⟨cg_name (pg_name hN hi hx hf)⟩
theorem gs_nil:WGs X [] (gAll (([]:List TDG).map (liftG K))):=⟨pgs_nil⟩
theorem gs_cons {g:TDG} {gs:List TDG} (h1:WG X e (liftG K g)) (h2:WGs X es (gAll (gs.map (liftG K)))) (hs:(assignEach (e :: es) X.env).map (·.2) = assign e X.env :: (assignEach es X.env).map (·.2):=by rfl):WGs X (e :: es) (gAll ((g :: gs).map (liftG K))):=⟨cgs_cons h1.h h2.h hs⟩
theorem g_tup {gs:List TDG} {k:Nat} (hK:X.K = K) (hc:X.calm = true) (hh:WGs X es (gAll (gs.map (liftG K)))) (hn:(assignEach es X.env).length = gs.length:=by rfl) (hst:(assignEach es X.env).findIdx? (·.1) = none:=by rfl):WG X (.Tuple es k pos) (liftG K (dGT gs)):=⟨cg_tup (pg_tupK hK hc hh.h hn hst) rfl⟩
theorem if0:WIf X [] (liftT K dYes):=⟨cif_nil⟩
theorem if1 (h:WT X e (liftT K tc)):WIf X [e] (liftT K tc):=⟨if_one h.h⟩
theorem i_seq (hK:X.K = K) (hl:WE X e (lift K td)):WI X tg e (liftI K (dISeq td)):=⟨ci_seq hK hl.h⟩
theorem i_rng1 (hm:X.mg "range" = none) (ha:WA X [e1] (tArgs ([a].map (argT K)))) (hg:Gl X "range":=by rfl) (he:notStar e1 = true:=by rfl):WI X tg (.Call (.Name "range" p) [e1] [] pos) (liftI K (dIRng1 a)):=⟨ci_rng1 (pi_range1 hg hm ha.h (by rw [starEach_of he]; rfl))⟩
theorem i_zip2 {ts:List Expr} {kk:Nat} (hK:X.K = K) (hm:X.mg "zip" = none) (ha:WA X [e1,e2] (tArgs ([a,b].map (argT K)))) (hg:Gl X "zip":=by rfl) (he:notStar e1 = true:=by rfl) (hpl:[e2].all notStar = true:=by rfl):WI X (.Tuple ts kk tpos) (.Call (.Name "zip" p) [e1,e2] [] pos) (liftI K (dIZip2 a b)):=⟨ci_zip2 (pi_zip2K hK hg hm ha.h (starEach_of he) (plain_of hpl))⟩
theorem s_nil:WSs X [] (liftS K dNext):=⟨cs_next pss_nil⟩
theorem s_one {tr:TS} (h:WS X st tr):WSs X [st] tr:=⟨pss_one h.h⟩
theorem s_cons (h:WS X st (liftS K t)) (h2:WSs X sts (liftS K u)):WSs X (st :: sts) (liftS K (dSeq t u)):=⟨cs_seq (pss_cons h.h h2.h)⟩
theorem s_ret (h:WE X e (lift K td)):WS X (.Return (some e) pos) (liftS K (dRet td)):=⟨cs_ret (ps_ret h.h)⟩
theorem s_retV {i:Nat} (h:WE X e (argT K (.inl i))):WS X (.Return (some e) pos) (liftS K (dRetV i)):=⟨cs_retV (ps_ret h.h)⟩
theorem s_expr (h:WE X e (lift K td)) (hs:notComp e = true:=by rfl):WS X (.Expr e pos) (liftS K (dDrop td)):=⟨cs_drop (ps_expr h.h (swaps_of hs))⟩
theorem s_if {sa sb:List Stmt} (hc:WT X e (liftT K tc)) (ha:WSs X sa (liftS K t)) (hb:WSs X sb (liftS K u)):WS X (.If e sa sb pos) (liftS K (dIfS tc t u)):=⟨cs_if (ps_if hc.h ha.h hb.h)⟩
theorem s_for {iter:Expr} {body:List Stmt} (ks:List Nat) {ti:TDI} {g:TDG} (hp:PassesOwn (model X.prog X.w) X.A X.env X.xe) (hc:X.calm = true) (hi:WI X tg iter (liftI K ti)) (hg:WG X tg (liftG K g)) (hb:WSs X body (liftS K t)) (hs:notSet iter = true:=by rfl):WS X (.For tg iter body [] pos) (liftS K (dForC ks ti g t)):=⟨cs_forC ks (ps_for hp hc hi.h hg.h hb.h (folded_of hs))⟩
theorem s_set {i:Nat} (hN:X.N.Nodup) (hi:X.N[i]? = some x) (hx:Loc X.env.scope x) (he:WE X e (lift K td)) (hs:notComp e = true:=by rfl) (hf:X.fn x = true \/ X.env.scope.names.lookup x = some .local:=by first | exact .inl rfl | exact .inr rfl | assumption):WS X (.Assign [.Name x pos'] e pos) (liftS K (dSet i td)):=⟨cs_set (ps_set hN hi hx he.h (swaps_of hs) hf)⟩
theorem s_move {i j:Nat} (hN:X.N.Nodup) (hi:X.N[i]? = some x) (hx:Loc X.env.scope x) (he:WE X e (argT K (.inl j))) (hs:notComp e = true:=by rfl) (hf:X.fn x = true \/ X.env.scope.names.lookup x = some .local:=by first | exact .inl rfl | exact .inr rfl | assumption):WS X (.Assign [.Name x pos'] e pos) (liftS K (dMove i j)):=⟨cs_move (ps_set hN hi hx he.h (swaps_of hs) hf)⟩
theorem s_setC {elt iter:Expr} {ifs:List Expr} {sc:Scope} {own:List Str} {fr:List Nat} {ti:TDI} {g:TDG} {i:Nat} (hN:X.N.Nodup) (hy:X.N[i]? = some x) (hl:X.env.scope.names.lookup x = some .local) (hc:X.calm = true) (S:compOk X.env.scope X.N fr sc = true) (hi:WI X tg iter (liftI K ti)) (hg:∀ C s H ex,WG (cxComp X own fr sc C s H ex) tg (liftG K g))
  (hif:∀ C s H ex,WIf (cxComp X own fr sc C s H ex) ifs (liftT K tc)) (he:∀ C s H ex,WE (cxComp X own fr sc C s H ex) elt (lift K te)) (nd:fr.Nodup:=by decide) (hs:notSet iter = true:=by rfl) (hsw:swapsWith (.ListComp elt [⟨tg,iter,ifs,0⟩] sc p) (some (.Name x pos')) pos.line X.env = pure true:=by rfl) :
  WS X (.Assign [.Name x pos'] (.ListComp elt [⟨tg,iter,ifs,0⟩] sc p) pos) (liftS K (dSet i (dCompC ti own fr g tc te))) :=
 ⟨cs_setCC nd (ps_setCompW hN hy hl hc (compSc_of S) hi.h (fun C s H ex=>(hg C s H ex).h) (fun C s H ex=>(hif C s H ex).h) (fun C s H ex=>(he C s H ex).h) hsw (folded_of hs))⟩
theorem s_ix {j:Nat} (he:WE X e (lift K td)) (ho:WE X e1 (argT K (.inl j))) (hi:WE X e2 (argT K a)) (hs:swapsWithSole [.Subscript e1 e2 pos'] e pos.line X.env = pure false:=by rfl) (hw:swappedStores [.Subscript e1 e2 pos'] e X.env = pure none:=by rfl)
  (ha:∀ v,assign (.Subscript e1 e2 pos') X.env v = (do
    let ov <- holding [v] (eval e1 X.env)
    let iv <- holding [v,ov] (eval e2 X.env)
    standAt pos'
    holding [v,ov,iv] (setItem ov iv v)
    release [v,ov,iv] []):=by intro _; rfl) (h1:(assignEach [.Subscript e1 e2 pos'] X.env).map (·.2) = [assign (.Subscript e1 e2 pos') X.env]:=by rfl):WS X (.Assign [.Subscript e1 e2 pos'] e pos) (liftS K (dSetIx j a td)):=⟨cs_ix (ps_asg he.h (pg_sub ho.h hi.h set_list ha) hs hw h1)⟩
theorem s_asgG {g:TDG} (he:WE X e (lift K td)) (hg:WG X tg (liftG K g)) (hs:swapsWithSole [tg] e pos.line X.env = pure false:=by rfl) (hw:swappedStores [tg] e X.env = pure none:=by rfl) (h1:(assignEach [tg] X.env).map (·.2) = [assign tg X.env]:=by rfl):WS X (.Assign [tg] e pos) (liftS K (dAsgG g td)):=⟨cs_asgG (ps_asg he.h hg.h hs hw h1)⟩
end
section
variable {P:Program} {w:World} {K:Fg} {mg:Str -> Option Value} {base:Heap}
theorem wfn {x qual:Str} {st:Stmt} {f:Addr} {fd:FuncData} {N ps:List Str} {k:Nat} {con:Con} {ts:TDS} (F:Fun K x qual st f fd) (S:FnScope N ps (defScope st))
  (hb:∀ (cdv:Value) (A:Around) (outer:List Env) (s:Shared) (H:Hp) (E:XK),Room k (A.deeper (envOfC qual (defScope st) s.heap.objs.size f cdv)) -> WSs (cxOf CX0 P w K mg base N qual (defScope st) f cdv A outer s H E).nox (defBody st) (liftS K ts))
  (hl:∀ args Qd,con args Qd -> args.length = ps.length) (hc:∀ args Qd,con args Qd -> (∀ s ∈ args,∀ d,s ≠ .ow d) /\ ts (endsOf args Qd) (startE N.length args)):FnOk P w K mg base CX0 (k + 1) f fd ps (conSp K con) :=
 dfn F S (fun cdv A outer s H E hr=>(hb cdv A outer s H E hr).h) hl hc
end
end L3
namespace L3
open PySem PySem.Spec L2
mutual
theorem noMix_self:∀ d:D,plainD d = true -> SeqAt.noMix d d = true
 | .none,_=>by simp [SeqAt.noMix]
 | .bool _,_=>by simp [SeqAt.noMix]
 | .int _,_=>by simp [SeqAt.noMix]
 | .str _,_=>by simp [SeqAt.noMix]
 | .list xs,h=>by simp [SeqAt.noMix]; exact noMixAll_self xs (by simpa [plainD] using h)
 | .tuple xs,h=>by simp [SeqAt.noMix]; exact noMixAll_self xs (by simpa [plainD] using h)
 | .dict _,h=>by simp [plainD] at h
theorem noMixAll_self:∀ xs:List D,plainAll xs = true -> SeqAt.noMixAll xs xs = true
 | [],_=>by simp [SeqAt.noMixAll]
 | x :: xs,h=>by
  simp [plainAll] at h
  simp [SeqAt.noMixAll]
  exact ⟨noMix_self x h.1,noMixAll_self xs h.2⟩
end
structure Nice (n:Nat) (d:D):Prop where
 p:plainD d = true
 c:d.canLay0 = true
 d:d.depth <= n
theorem Nice.int (n:Nat) (i:Int):Nice n (.int i):=⟨rfl,by simp [PyData.canLay0],by simp [PyData.depth]⟩
theorem nice_all {n:Nat}:∀ {l:List D},(∀ d ∈ l,Nice n d) -> plainAll l = true /\ PyData.canLayAll0 l = true /\ PyData.depthAll l <= n
 | [],_=>⟨rfl,by simp [PyData.canLayAll0],by simp [PyData.depthAll]⟩
 | x :: l,h=>by
  have h1:=h x List.mem_cons_self
  have h2:=nice_all (l:=l) fun d hd=>h d (List.mem_cons_of_mem _ hd)
  refine ⟨by simp [plainAll,h1.p,h2.1],by simp [PyData.canLayAll0,h1.c,h2.2.1],?_⟩
  have:=h1.d
  have:=h2.2.2
  simp [PyData.depthAll]
  omega
theorem Nice.list {n:Nat} {l:List D} (h:∀ d ∈ l,Nice n d):Nice (n + 1) (.list l):=by
 obtain ⟨a,b,c⟩:=nice_all h
 exact ⟨by simp [plainD,a],by simp [PyData.canLay0,b],by simp [PyData.depth]; omega⟩
theorem Nice.tuple {n:Nat} {l:List D} (h:∀ d ∈ l,Nice n d):Nice (n + 1) (.tuple l):=by
 obtain ⟨a,b,c⟩:=nice_all h
 exact ⟨by simp [plainD,a],by simp [PyData.canLay0,b],by simp [PyData.depth]; omega⟩
theorem Nice.tup (l:List Int):Nice 1 (.tuple (l.map PyData.int)):=.tuple fun d hd=>by
 obtain ⟨i,_,rfl⟩:=List.mem_map.mp hd
 exact .int 0 i
theorem Nice.sh {n:Nat} {d:D} (h:Nice n d) (k:n <= 64):SeqAt.shaped d = true:=by
 have:=h.d
 unfold SeqAt.shaped
 rw [h.c]
 simp
 omega
end L3
namespace L2
open PySem PySem.Spec PyProof.Rows
noncomputable def rIsi2 (K:PySem.W.Frag):List V -> Hp -> VK -> Prop:=fun xs H Q=>∃ (x:V) (k:Ki) (T:Ki),xs = [x,.ty T.nm] /\ (KiOf K H x k \/ ∃ a,x = .ref a /\ k = .dct /\ IsD H a) /\ Q (.bl (k.sub T)) H
theorem call_isi2 {X:Cx}:CallR X (.builtin "isinstance") (rIsi2 X.K):=by
 intro pins s σ H xs us Q I r h
 obtain ⟨x,k,T,rfl,hk,q⟩:=h
 rcases hk with hk | ⟨a,rfl,rfl,hd⟩
 ·exact call_isi pins s σ H _ us Q I r ⟨x,k,T,rfl,hk,q⟩
 ·obtain ⟨u,w',rfl,ru,rw'⟩:=vals2 r
  obtain rfl:w' = .type T.nm:=rw'
  cases ru
  have ht:s.TypeIs (.ref a) Ki.dct.nm:=(isD_at I hd).1
  cases hs:Ki.dct.sub T with
  | true =>
   rw [hs] at q
   exact call_isinstance (isinstance_true (Tx:=Ki.dct.nm) (ki_meta T) (by rw [ki_sub,hs])) ⟨ht,.bl true,H,I,rfl,q⟩
  | false =>
   rw [hs] at q
   have hsub:isSubtype (.type Ki.dct.nm) (.type T.nm) = pure false:=by rw [ki_sub,hs]
   have hne:=ki_ne Ki.dct T hs
   have fin:EP X pins σ Q (.bool false) { s with toks:=s.toks + 1 }:=⟨.bl false,H,I.tok _,rfl,q⟩
   exact call_isinstance (isinstance_false_dict hne (ki_meta T) hsub) ⟨ht,fin⟩
inductive PrsT (H:Hp):List (V × V) -> List (List Key × V) -> Prop
 | nil:PrsT H [] []
 | cons {b ks v ps kvs}:H b = some (.tup (ks.map kV)) -> PrsT H ps kvs -> PrsT H ((.ref b,v) :: ps) ((ks,v) :: kvs)
section
variable {X:Cx} {pins:List (Addr × Obj)} {σ:St} {a:Addr} {E:Value -> Shared -> Prop}
end
end L2
namespace L3
open PySem PySem.Spec PyProof.Rows L2
noncomputable def notScr:List (D × D) -> Bool
 | (.none,_) :: _=>false
 | (.bool _,_) :: _=>false
 | _=>true
noncomputable def fIsiA (T:Ki):D -> (Sl -> Prop) -> Prop
 | .dict es,Q=>notScr es = true /\ Q (.fz (.bool (Ki.dct.sub T)))
 | d,Q=>Q (.fz (.bool ((kiD d).sub T)))
theorem At.isD {K:Fg} {F H:Hp} {v:V} {es:List (D × D)} (s:Sub F H) (h:At K F H v (.dict es)) (hn:notScr es = true):∃ a,v = .ref a /\ IsD H a:=by
 rcases h with h | ⟨a,o,rfl,_,e,h⟩
 ·cases h with
  | dk r t=>exact ⟨_,rfl,.inl ⟨_,s.rd r⟩⟩
  | dt r t=>exact ⟨_,rfl,.inr ⟨_,s.rd r⟩⟩
  | scr q=>simp [notScr] at hn
  | exc q=>simp [notScr] at hn
  | exl q _=>simp [notScr] at hn
  | opq q=>simp [notScr] at hn
  | pd q t=>simp [notScr] at hn
  | bd q t=>simp [notScr] at hn
 ·cases o with
  | ext φ=>obtain ⟨a',ep,xs,ps,z,z2,t⟩:=h.ext; injection z2 with z2; rw [z2] at hn; simp [notScr] at hn
  | _=>first | exact h.elim | exact ⟨_,rfl,.inl ⟨_,.inl e⟩⟩ | exact ⟨_,rfl,.inr ⟨_,.inl e⟩⟩
theorem ok_isiA {K:Fg} {T:Ki}:OpOk K (fun vs H Q=>∃ x,vs = [x] /\ rIsi2 K [x,.ty T.nm] H Q) (o1 (fIsiA T)):=ok1 fun G F σ H ρ x d Q Qd R h1 w k=>by
 have go:∀ (ki:Ki),KiOf K H x ki -> Qd (.fz (.bool (ki.sub T))) -> ∃ x',[x] = [x'] /\ rIsi2 K [x',.ty T.nm] H Q:=fun ki h w=>⟨x,rfl,x,ki,T,rfl,.inl h,k _ H F (.fz _) (Sub.refl _) R (Da.bl _) w⟩
 match d,h1,w with
 | .none,h1,w=>cases h1.none; exact go .non rfl w
 | .bool b,h1,w=>cases h1.bool; exact go .bl rfl w
 | .int i,h1,w=>cases h1.int; exact go .int rfl w
 | .str z,h1,w=>cases h1.str; exact go .str rfl w
 | .list ds,h1,w =>
  obtain ⟨a,us,rfl,e1,d1⟩:=h1.list R.sub
  exact go .lst (.inl ⟨rfl,us,SqL.of e1⟩) w
 | .tuple ds,h1,w =>
  obtain ⟨a,us,rfl,_,e1,d1⟩:=h1.tuple R.sub
  exact go .tup (.inr (.inl ⟨rfl,us,SqT.of e1⟩)) w
 | .dict es,h1,w =>
  obtain ⟨a,rfl,hd⟩:=h1.isD R.sub w.1
  exact ⟨_,rfl,_,.dct,T,rfl,.inr ⟨a,rfl,rfl,hd⟩,k _ H F (.fz _) (Sub.refl _) R (Da.bl _) w.2⟩
noncomputable def rSlHi (K:Fg):R2:=fun x y H Q=>∃ j,y = .int j /\ rSlT K x none (some j) H Q
noncomputable def rSlLo (K:Fg):R2:=fun x y H Q=>∃ j,y = .int j /\ rSlT K x (some j) none H Q
noncomputable def fSlHi:D -> D -> (Sl -> Prop) -> Prop
 | .tuple ds,.int j,Q=>(if j < 0 then 1 <= ds.length else j < ds.length) /\ Q (.fz (.tuple (ds.take (if j < 0 then (j + ds.length).toNat else j.toNat))))
 | _,_,_=>False
noncomputable def fSlLo:D -> D -> (Sl -> Prop) -> Prop
 | .tuple ds,.int j,Q=>0 < j /\ 1 <= ds.length /\ Q (.fz (.tuple (ds.drop j.toNat)))
 | _,_,_=>False
theorem ok_slHi {K:Fg}:OpOk K (r2L (rSlHi K)) (o2 fSlHi):=ok2 fun G F σ H ρ x y d e Q Qd R h1 h2 w k=>by
 match d,e,h1,h2,w with
 | .tuple ds,.int j,h1,h2,w =>
  cases h2.int
  obtain ⟨a,us,rfl,f1,e1,d1⟩:=h1.tuple R.sub
  have hl:=d1.length
  have hs:HT.sIx us.length us.length (some j) = if j < 0 then (j + ds.length).toNat else j.toNat:=by
   show (if j < 0 then (j + (us.length:Int)).toNat else min j.toNat us.length) = _
   have:=w.1
   split at this <;> split <;> omega
  refine ⟨j,rfl,a,us,rfl,SqT.of e1,fun z=>?_,fun p hp=>?_⟩
  ·have z2:=z.2
   rw [hs] at z2
   have:=w.1
   split at this <;> split at z2 <;> omega
  ·have e3:cutV us none (some j) = us.take (if j < 0 then (j + ds.length).toNat else j.toNat):=by
    unfold cutV
    rw [hs]
    rfl
   rw [e3]
   obtain ⟨sb,R',dd⟩:=R.newTup hp (d1.take (if j < 0 then (j + ds.length).toNat else j.toNat))
   exact k _ _ _ (.fz _) sb R' dd w.2
theorem ok_slLo {K:Fg}:OpOk K (r2L (rSlLo K)) (o2 fSlLo):=ok2 fun G F σ H ρ x y d e Q Qd R h1 h2 w k=>by
 match d,e,h1,h2,w with
 | .tuple ds,.int j,h1,h2,w =>
  cases h2.int
  obtain ⟨a,us,rfl,f1,e1,d1⟩:=h1.tuple R.sub
  have hl:=d1.length
  obtain ⟨w1,w2,w3⟩:=w
  have hs:HT.sIx us.length 0 (some j) = min j.toNat us.length:=by
   show (if j < 0 then (j + (us.length:Int)).toNat else min j.toNat us.length) = _
   rw [if_neg (by omega)]
  refine ⟨j,rfl,a,us,rfl,SqT.of e1,fun z=>?_,fun p hp=>?_⟩
  ·have z1:=z.1
   rw [hs] at z1
   omega
  ·have e3:cutV us (some j) none = us.drop j.toNat:=by
    unfold cutV
    rw [hs]
    show (us.drop (min j.toNat us.length)).take (us.length - min j.toNat us.length) = _
    rw [List.take_of_length_le (by rw [List.length_drop]; omega)]
    by_cases h:j.toNat <= us.length
    ·rw [Nat.min_eq_left h]
    ·rw [List.drop_of_length_le (by omega),List.drop_of_length_le (by omega)]
   rw [e3]
   obtain ⟨sb,R',dd⟩:=R.newTup hp (d1.drop j.toNat)
   exact k _ _ _ (.fz _) sb R' dd w3
noncomputable def dDNew:TD:=fun ρ Q=>Q (.ow (.dict [])) ρ
theorem l_dnew {K:Fg} {σ:L2.St} {H:Hp} {Q:VK} (h:lift K dDNew σ H Q):tDNewT σ H Q:=by
 obtain ⟨G,F,ρ,Qd,R,w,k⟩:=h
 intro p hp
 obtain ⟨R',r'⟩:=R.newOw (o:=.dT []) (d:=.dict []) hp DaKT.nil
 exact k _ _ F _ ρ (Sub.refl _) R' r' w
section
variable {X:Cx} {K:Fg} {e e1 e2:Expr} {a b:AD} {ta tb:TD} {st:Stmt} {p pos p2 pos' px py pt:Pos} {x y:Str}
theorem w_isiA (T:Ki) (hK:X.K = K) (hm:X.mg "isinstance" = none) {y:Str} (hm2:X.mg y = none) (hv2:bootBuiltins y = some (.type T.nm)) (ha:WE X e1 (argT K a)) (hg:Gl X "isinstance":=by rfl) (hg2:Gl X y:=by rfl) (hy:y ≠ "__name__":=by decide) (hy2:(y == ("__debug__":Str)) = false:=by decide) (he:notStar e1 = true:=by rfl) :
  WE X (.Call (.Name "isinstance" p) [e1,.Name y p2] [] pos) (lift K (dOp [a] (o1 (fIsiA T)))):=by
 subst hK
 exact ⟨peM (pe_callB call_isi2 hg hm boot_isinstance (pa_cons ha.h (pa_cons (pe_bltn hg2 hm2 hv2 (v:=.ty T.nm) rfl hy hy2) pa_nil (starEach_of rfl)) (starEach_of he)) (by decide) (by decide) (starEach_of he) (plain_of rfl)) fun q=>arg1 (P:=fun x H1=>rIsi2 X.K [x,.ty T.nm] H1 _) (l_op ok_isiA q)⟩
theorem w_slHi (hK:X.K = K) (ha:WE X e1 (argT K a)) (hb:WE X e2 (argT K b)):WE X (.Subscript e1 (.Slice none (some e2) none p2) pos) (lift K (dOp [a,b] (o2 fSlHi))):=by
 subst hK
 exact ⟨peM (pe_slice sl_tup ha.h po_none (po_some hb.h)) fun q=>arg2 (P:=fun x y H=>rSlHi X.K x y H _) (l_op ok_slHi q)⟩
theorem w_slLo (hK:X.K = K) (ha:WE X e1 (argT K a)) (hb:WE X e2 (argT K b)):WE X (.Subscript e1 (.Slice (some e2) none none p2) pos) (lift K (dOp [a,b] (o2 fSlLo))):=by
 subst hK
 exact ⟨peM (pe_slice sl_tup ha.h (po_some hb.h) po_none) fun q=>arg2 (P:=fun x y H=>rSlLo X.K x y H _) (l_op ok_slLo q)⟩
theorem w_dnew:WE X (.Dict [] [] pos) (lift K dDNew):=⟨peM pe_dnewT fun q=>l_dnew q⟩
end
end L3
namespace L2
open PySem PySem.Spec PyProof.Rows
section
variable {X:Cx}
end
end L2
namespace L3
open PySem PySem.Spec PyProof.Rows L2
section
variable {X:Cx} {K:Fg} {x:Str} {pos:Pos}
theorem w_gint {n:Int} (hm:∃ t,X.mg x = some (.int n t)) (hg:Gl X x:=by rfl) (hd:(x == ("__debug__":Str)) = false:=by decide):WE X (.Name x pos) (lift K (dC (.int n))):=by
 obtain ⟨t,hm⟩:=hm
 exact ⟨cv_c (fun _=>.int _) (pe_glob hg hm ⟨t,rfl⟩ hd)⟩
end
end L3
namespace L3
open PySem PySem.Spec PyProof.Rows L2
theorem len_ofString (s:String):(Str.ofString s).length = s.length:=by
 rw [Str.ofString_eq_toList]
 simp only [Str.length,List.size_toArray,List.length_map]
 first | rfl | exact String.length_toList | exact String.length_toList _ | simp
theorem shown_int {i:Int} {k:Nat} (hk:0 < k) (h:i.natAbs < 10 ^ k):(PyData.int i).shown.length <= k + 1:=by
 show (Str.ofString (toString i)).length <= k + 1
 rw [len_ofString]
 cases i with
 | ofNat n =>
  show (Nat.repr n).length <= k + 1
  have:=(Nat.length_repr_le_iff (n:=n) hk).mpr h
  omega
 | negSucc m =>
  show ("-" ++ Nat.repr (m + 1)).length <= k + 1
  have h1:m + 1 < 10 ^ k:=by simpa using h
  have:=(Nat.length_repr_le_iff (n:=m + 1) hk).mpr h1
  rw [String.length_append]
  have e:("-":String).length = 1:=by decide
  omega
theorem join_len (sep:Str) (b:Nat):∀ ts:List Str,(∀ t ∈ ts,t.length <= b) -> (Str.join sep ts).length <= ts.length * (b + sep.length)
 | [],_=>by simp [Str.join,Str.length,Str.empty]
 | [x],h=>by
  have:=h x List.mem_cons_self
  show x.length <= _
  simp
  omega
 | x :: y :: r,h=>by
  have h1:=h x List.mem_cons_self
  have h2:=join_len sep b (y :: r) fun t ht=>h t (List.mem_cons_of_mem _ ht)
  show (x ++ sep ++ Str.join sep (y :: r)).length <= _
  rw [Str.length_append,Str.length_append,List.length_cons,Nat.succ_mul]
  omega
theorem shownAll_map:∀ l:List D,PyData.shownAll l = l.map PyData.shown
 | []=>rfl
 | x :: l=>by simp [PyData.shownAll,shownAll_map l]
theorem shown_tuple {b:Nat} {l:List D} (h:∀ d ∈ l,d.shown.length <= b):(PyData.tuple l).shown.length <= l.length * (b + 2) + 3:=by
 show (tupleText (PyData.shownAll l)).length <= _
 rw [shownAll_map]
 have hj:=join_len (Str.ofString ", ") b (l.map PyData.shown) fun t ht=>by
  obtain ⟨d,hd,rfl⟩:=List.mem_map.mp ht
  exact h d hd
 rw [List.length_map,len_ofString] at hj
 have e2:(", ":String).length = 2:=by decide
 rw [e2] at hj
 unfold tupleText
 rw [Str.length_append,Str.length_append,len_ofString,len_ofString]
 have e1:("(":String).length = 1:=by decide
 have e3:(if (((l.map PyData.shown).length == 1) = true) then ",)" else ")":String).length <= 2:=by split <;> decide
 omega
theorem showableAll_of:∀ {l:List D},(∀ d ∈ l,d.showable = true) -> PyData.showableAll l = true
 | [],_=>rfl
 | x :: l,h=>by
  simp [PyData.showableAll,h x List.mem_cons_self]
  exact showableAll_of fun d hd=>h d (List.mem_cons_of_mem _ hd)
theorem showable_int {i:Int} {k:Nat} (h:i.natAbs < 2 ^ k) (hk:k <= 1920):(PyData.int i).showable = true:=by
 show decide (i.natAbs.log2 < 1920) = true
 refine decide_eq_true ?_
 by_cases h0:i.natAbs = 0
 ·rw [h0]; decide
 ·exact Nat.lt_of_lt_of_le ((Nat.log2_lt h0).mpr h) hk
end L3
namespace L3
open PySem PySem.Spec PyProof.Rows L2
noncomputable def fSlHiL:D -> D -> (Sl -> Prop) -> Prop
 | .list ds,.int j,Q=>Q (.ow (.list (ds.take (if j < 0 then (j + ds.length).toNat else j.toNat))))
 | _,_,_=>False
noncomputable def fStr:D -> (Sl -> Prop) -> Prop
 | .int i,Q=>i.natAbs.log2 < 1920 /\ Q (.fz (.str (toString i)))
 | _,_=>False
theorem ok_strI {K:Fg}:OpOk K (fun xs H Q=>∃ i,xs = [V.int i] /\ i.natAbs.log2 < 1920 /\ Q (V.str (toString i)) H) (o1 fStr):=ok1 fun G F σ H ρ x d Q Qd R h1 w k=>by
 match d,h1,w with
 | .int i,h1,w=>cases h1.int; exact ⟨i,rfl,w.1,k _ H F (.fz _) (Sub.refl _) R (Da.str _) w.2⟩
section
variable {X:Cx} {K:Fg} {e1 e2:Expr} {a b:AD} {pos p2:Pos}
end
end L3
namespace L3
open PySem PySem.Spec PyProof.Rows L2
section
variable {X:Cx} {K:Fg} {e1 e2:Expr} {a b:AD} {pos:Pos}
theorem op_inK (hK:X.K = K):OpR X (compareOp .In) (rIn K false):=by subst hK; exact op_in_seq
end
end L3
namespace L2
open PySem PySem.Spec PyProof.Rows
noncomputable abbrev mroV:List Value:=[.type "ValueError",.type "Exception",.type "BaseException",.type "object"]
noncomputable abbrev ExcC (K:PySem.W.Frag) (C:Addr):Prop:=PySem.W.excIn K C mroV "ValueError.__new__" = true
theorem exc_obj {K:PySem.W.Frag} {h:Heap} {C:Addr} (X:K.In h) (q:ExcC K C):∃ bm N nm qn bs hd sn sub ab col dd k0 k1 k2 k3 k5 mN,K.lookup C = some (excClassObj nm qn C N bs bm hd sn sub ab col dd k0 k1 k2 k3 k5 "ValueError.__new__") /\ h.Ns N mN /\ mN "__init__" = none /\ OwnTail h mroV bm:=by
 unfold ExcC PySem.W.excIn at q
 split at q
 ·rename_i dd cd sl ho
  split at q
  ·rename_i C' bm k0 k1 k2 k3 i k5 e1 e2
   simp only [Bool.and_eq_true,beq_iff_eq,Bool.not_eq_true'] at q
   obtain ⟨⟨⟨⟨⟨z1,z2⟩,z3⟩,z4⟩,z5⟩,z6⟩:=q
   cases cd with
   | mk nm bs mro ns qn hd sn sub ab col del =>
    simp only at e1 z3 z5 z6
    subst e1 z1 z2 z3
    cases sl with
    | mk l =>
     simp only at e2
     subst e2
     exact ⟨bm,ns,nm,qn,bs,hd,sn,sub,ab,col,dd,k0,k1,k2,k3,k5,_,ho,.of_isNs (PySem.W.isNs_of_in X z5),PySem.W.nsMap_none_of_in X z5 z6,PySem.W.tail_of_in X z4⟩
  ·cases q
 ·cases q
section
variable {P:Program} {w:World} {H:Hp} {h:Heap} {a:Addr} {o:HO}
theorem ObjOk.ob (x:ObjOk P w H h a o):∃ u,h.get? a = some u:=by
 cases o with
 | lst xs=>obtain ⟨_,_,_,_,e⟩:=x; exact ⟨_,e⟩
 | tup xs=>obtain ⟨_,_,_,_,e,_⟩:=x; exact ⟨_,e⟩
 | dK kvs=>obtain ⟨_,_,_,_,o,_,_,e,_⟩:=x; exact ⟨_,e⟩
 | dT kvs=>obtain ⟨_,_,_,_,o,_,_,e,_⟩:=x; exact ⟨_,e⟩
 | set S n=>obtain ⟨o,_,_,_,e,_⟩:=x; exact ⟨_,e⟩
 | ins C dx fs=>obtain ⟨_,_,_,e,_⟩:=x; exact ⟨_,e⟩
 | own y=>exact x
 | xd fs=>obtain ⟨_,⟨_,_,_,e,_⟩,_⟩:=x; exact ⟨_,e⟩
 | rng lo hi=>obtain ⟨_,_,_,e⟩:=x; exact ⟨_,e⟩
 | frz ob u=>obtain ⟨e,_⟩:=x; exact ⟨_,e⟩
 | tbl ps=>exact ⟨_,(show h.get? a = some _ from x)⟩
 | met f y=>exact ⟨_,(show h.get? a = some _ from x)⟩
 | ext φ=>exact x.2.1
theorem HOk.gone (x:HOk P w H h) (e:h.get? a = none):H a = none:=by
 cases q:H a with
 | none=>rfl
 | some u=>obtain ⟨ob,z⟩:=(x a u q).ob; rw [e] at z; cases z
end
noncomputable def FlewAt (h:Heap) (a T:Addr) (C:Value):Prop:=∃ oe vs oT ts a0,h.get? a = some oe /\ (oe.cls = C /\ vs[0]? = some a0) /\ oe.data = .fields vs /\ vs[1]? = some (.ref T) /\ T ≠ a /\ h.get? T = some oT /\ oT.data = .fields ts /\ ts[3]? = some .none
noncomputable def CXE (P:Program) (w:World):CXT:=fun outer H s E e s'=>∃ (a T:Addr) (C:Value) (H':Hp),e = .ref a /\ s'.os = s.os /\ AllBare s'.gens /\ Un (frs outer) [] H H' s.heap s'.heap /\ HOk P w H' s'.heap /\
 s.heap.get? a = none /\ s.heap.get? T = none /\ H' a = none /\ H' T = none /\ FlewAt s'.heap a T C /\ E C none H'
section
variable {X:Cx} {pins:List (Addr × Obj)} {σ:St} {H:Hp} {s:Shared}
end
end L2
namespace L2
open PySem PySem.Spec PyProof.Rows
section
variable {M:Model} {A:Around} {E:Value -> Shared -> Prop}
variable {nm q:Str} {C N:Addr} {bs bm:List Value} {hdct:Bool} {sn:List Str} {sub:List Value} {ab:Bool} {col:Option Bool} {dd:Option Addr} {k0 k1 k2 k3 k5:Option Value} {newId:String}
variable {nm' q':Str} {B N':Addr} {bs' bm':List Value} {hdct':Bool} {sn':List Str} {sub':List Value} {ab':Bool} {col':Option Bool} {dd':Option Addr} {l0 l1 l2 l3 l5:Option Value} {newId':String}
theorem excMatches_ref {h:Heap} {g:Array GenState} {d:Drawn} {t:Nat} {os:OsState} {e:Addr} {oe:Obj} {b:Bool} {Q:Bool -> Shared -> Prop}
  (hC:h.get? C = some (excClassObj nm q C N bs bm hdct sn sub ab col dd k0 k1 k2 k3 k5 newId)) (hB:h.get? B = some (excClassObj nm' q' B N' bs' bm' hdct' sn' sub' ab' col' dd' l0 l1 l2 l3 l5 newId'))
  (he:h.get? e = some oe) (hcls:oe.cls = .ref C) (hbase:bm'.contains (.type "BaseException") = true) (hb:(Value.ref C :: bm).contains (.ref B) = b)
  (hq:Q b ⟨h,g,d,t,os⟩):wpAny M A (excMatches (.ref e) (.ref B)) Q E ⟨h,g,d,t,os⟩:=by
 have hcB:(Value.ref B :: bm').contains (.type "BaseException") = true:=by rw [List.contains_cons,hbase,Bool.or_true]
 have f:=tc_notTuple
 unfold excMatches
 repeat (first | (with_reducible refine wpAny_loadPart_at he ?_; rw [hcls]) | with_reducible refine wpAny_loadPart_at hB ?_ | (with_reducible refine wpAny_isSubtype_exc hB ?_; rw [hcB]) | (with_reducible refine wpAny_isSubtype_exc hC ?_; rw [hb]) | wp_step)
 cases b <;> (wp_walk; exact hq)
end
end L2
namespace L2
open PySem PySem.Spec PyProof.Rows
noncomputable def subIn (K:PySem.W.Frag) (C B:Addr):Bool:=match K.lookup C with
 | some ⟨_,_,.cls cd,_⟩=>cd.mro.contains (.ref B)
 | _=>false
section
variable {X:Cx} {pins:List (Addr × Obj)} {σ:St} {H H':Hp} {s s':Shared} {a T:Addr}
theorem Inv.back (I:Inv X pins σ H s) (un:Un (frs X.stack) [] H H' s.heap s'.heap) (hok:HOk X.prog X.w H' s'.heap) (bare:AllBare s'.gens) (os:s'.os = s.os) (fa:s.heap.get? a = none) (fT:s.heap.get? T = none) (na:H' a = none) (nT:H' T = none) {h5:Heap}
  (k:∀ b o,s'.heap.get? b = some o -> b ≠ a -> b ≠ T -> b ∉ frs X.stack -> h5.get? b = some o) (up:∀ b o,s'.heap.get? b = some o -> b ∈ frs X.stack -> ∃ sl,h5.get? b = some { o with slots:=sl }) :
  Inv X pins σ H' { s' with heap:=h5 }:=by
 have ne:∀ {b o},s.heap.get? b = some o -> b ≠ a /\ b ≠ T:=fun {b o} e=>⟨fun z=>(by rw [z,fa] at e; cases e),fun z=>(by rw [z,fT] at e; cases e)⟩
 have frf:∀ b ∈ frs X.stack,H' b = none:=fun b hb=>by
  obtain ⟨_,o,e,_⟩:=I.stack.mem hb
  exact un.free b o e (I.stkFree b hb) (by simp)
 refine I.call' (s':={ s' with heap:=h5 }) (ch:=[]) os ⟨fun b o e n nb _=>?_,fun b o e n hb _=>?_,un.free,fun b o e _=>?_,un.tups,un.frzs,un.tbls⟩ (fun b u y=>?_) bare (fun b z=>(by cases z))
 ·exact k b o (un.keep b o e n nb (by simp)) (ne e).1 (ne e).2 nb
 ·obtain ⟨sl,e1⟩:=un.slot b o e n hb (by simp)
  obtain ⟨sl2,e2⟩:=up b _ e1 hb
  exact ⟨sl2,e2⟩
 ·obtain ⟨o1,e1⟩:=un.there b o e (by simp)
  by_cases hb:b ∈ frs X.stack
  ·obtain ⟨sl2,e2⟩:=up b _ e1 hb
   exact ⟨_,e2⟩
  ·exact ⟨_,k b _ e1 (ne e).1 (ne e).2 hb⟩
 ·have good:∀ c v,H' c = some v -> c ≠ a /\ c ≠ T /\ c ∉ frs X.stack:=fun c v q=>⟨fun z=>(by rw [z,na] at q; cases q),fun z=>(by rw [z,nT] at q; cases q),fun z=>(by rw [frf c z] at q; cases q)⟩
  refine (hok b u y).stay (fun c v hc z=>?_) (fun _ z=>z) fun _ _ z=>z
  obtain ⟨g1,g2,g3⟩:c ≠ a /\ c ≠ T /\ c ∉ frs X.stack:=by
   rcases hc with rfl | hc
   ·exact good c u y
   ·exact good c _ hc
  exact k c v z g1 g2 g3
noncomputable abbrev Cx.mk2 (X:Cx) (v:Option Value):Cx:={ X with A:=X.A.mark v,calm:=false,xe:=fun _ _=>False }
theorem Inv.mk2 (I:Inv X pins σ H s) (v:Option Value):Inv (X.mk2 v) pins σ H s :=
 ⟨⟨I.ok.mod,I.ok.kind,I.ok.glob,I.ok.blt,I.ok.above,I.ok.inj,I.ok.has,I.ok.cab,fun z=>(by cases z),I.ok.frames,I.ok.stk,I.ok.exf,I.ok.bs,I.ok.bsz,I.ok.noex,I.ok.exfs,I.ok.funs,I.ok.frf⟩,I.os,I.bare,I.base,I.loc,I.cell,I.free,I.freeC,I.pin,I.hok,I.len⟩
theorem Inv.un2 {v:Option Value} (hd:X.calm = true -> X.A.handled = none) (I:Inv (X.mk2 v) pins σ H s):Inv X pins σ H s :=
 ⟨⟨I.ok.mod,I.ok.kind,I.ok.glob,I.ok.blt,I.ok.above,I.ok.inj,I.ok.has,I.ok.cab,hd,I.ok.frames,I.ok.stk,I.ok.exf,I.ok.bs,I.ok.bsz,I.ok.noex,I.ok.exfs,I.ok.funs,I.ok.frf⟩,I.os,I.bare,I.base,I.loc,I.cell,I.free,I.freeC,I.pin,I.hok,I.len⟩
theorem Inv.goes {M:Model} {A:Around} {E:Value -> Shared -> Prop} {i:Nat} {n:Str} {pos:Pos} {Q:Unit -> Shared -> Prop} (I:Inv X pins σ H s) (hN:X.N.Nodup) (hi:X.N[i]? = some n) (hl:X.env.kindOf n = some .local)
  (q:∀ s',Inv X pins (σ.set i none) H s' -> Q () s'):wpAny M A (do bindName X.env n .none; unbindBehindTheSuite X.env n pos) Q E s:=by
 obtain ⟨m,hn,hL⟩:=id I.loc
 obtain ⟨oL,_,_,hoL,_⟩:=id hn
 have hcls:(X.env.scope.kind == .class || (X.env.scope.kind == .module && X.env.locals != X.env.globals)) = false:=by rw [I.ok.kind]; rfl
 refine wpAny_nameGoes_keeps hl hn hcls fun h' v hn' hs=>q _ ?_
 have neL:∀ b o,X.s₀.heap.get? b = some o -> b ≠ X.env.locals:=fun b o e=>Nat.ne_of_lt (Nat.lt_of_lt_of_le (Heap.lt_size e) I.ok.above)
 refine ⟨I.ok,I.os,I.bare,⟨fun b o e n hb hx=>(hs.2 b (neL b o e)).trans (I.base.keep b o e n hb hx),fun b o e n hb hx=>?_,I.base.free,fun b o e hx=>?_,I.base.tups,I.base.frzs,I.base.tbls⟩,⟨_,hn',fun j y v' e1 e2 e3=>?_⟩,fun y c e=>?_,I.free,I.freeC,fun p hp=>?_,fun b u e=>?_,by simpa using I.len⟩
 ·obtain ⟨sl,e1⟩:=I.base.slot b o e n hb hx
  exact ⟨sl,(hs.2 b (neL b o e)).trans e1⟩
 ·obtain ⟨o',e1⟩:=I.base.there b o e hx
  exact ⟨o',(hs.2 b (neL b o e)).trans e1⟩
 ·by_cases hj:j = i
  ·subst hj
   rw [List.getElem?_set] at e2
   split at e2
   ·split at e2 <;> cases e2
   ·contradiction
  ·rw [List.getElem?_set_ne (Ne.symm hj)] at e2
   obtain ⟨u',r',z⟩:=hL j y v' e1 e2 e3
   refine ⟨u',r',?_⟩
   rcases z with ⟨k,e⟩ | ⟨k,c,e,z⟩
   ·refine .inl ⟨k,?_⟩
    have:y ≠ n:=fun e=>hj (nodup_ix hN e1 (e ▸ hi))
    simp [this,e]
   ·exact .inr ⟨k,c,e,z.sameBut hs (I.cne y c e)⟩
 ·obtain ⟨w',z⟩:=I.cell y c e
  exact ⟨w',z.sameBut hs (I.cne y c e)⟩
 ·obtain ⟨e,n,ne,nf,d⟩:=I.pin p hp
  exact ⟨(hs.2 p.1 ne).trans e,n,ne,nf,d⟩
 ·refine (I.hok b u e).stay (fun c w' hc z=>(hs.2 c ?_).trans z) (fun _ z=>z) fun _ _ z=>z
  rintro rfl
  rcases hc with rfl | hc
  ·rw [I.free] at e; cases e
  ·rw [I.free] at hc; cases hc
theorem Inv.track {o:HO} (I:Inv X pins σ H s) (na:H a = none) (f0:X.s₀.heap.get? a = none) (nl:a ≠ X.env.locals) (nc:∀ x c,X.env.cells.lookup x = some c -> c ≠ a) (np:∀ p ∈ X.pn ++ pins,p.1 ≠ a) (new:ObjOk X.prog X.w (upd H a o) s.heap a o):Inv X pins σ (upd H a o) s:=by
 have ne:∀ {b u},H b = some u -> b ≠ a:=fun e=>ne_of_none e na
 refine ⟨I.ok,I.os,I.bare,⟨I.base.keep,I.base.slot,fun b u e n hx=>?_,I.base.there,fun b xs e=>?_,fun b u v e=>?_,fun b ps e=>?_⟩,I.loc,I.cell,by rw [upd_ne (Ne.symm nl)]; exact I.free,fun x c e=>by rw [upd_ne (nc x c e)]; exact I.freeC x c e,fun p hp=>?_,fun b u e=>?_,I.len⟩
 ·rw [upd_ne fun z=>(by rw [z,f0] at e; cases e)]
  exact I.base.free b u e n hx
 ·have:=I.base.tups b xs e
  rw [upd_ne (ne this)]
  exact this
 ·have:=I.base.frzs b u v e
  rw [upd_ne (ne this)]
  exact this
 ·obtain ⟨more,this⟩:=I.base.tbls b ps e
  exact ⟨more,by rw [upd_ne (ne this)]; exact this⟩
 ·obtain ⟨e,n,r⟩:=I.pin p hp
  exact ⟨e,by rw [upd_ne (np p hp)]; exact n,r⟩
 ·by_cases hb:b = a
  ·subst hb
   rw [upd_same] at e
   cases e
   exact new
  ·rw [upd_ne hb] at e
   exact (I.hok b u e).stay (fun _ _ _ z=>z) (fun c z=>by rw [upd_ne (ne z)]; exact z) fun c xs z=>by rw [upd_ne (ne z)]; exact z
theorem sub_of {K:PySem.W.Frag} {C B N:Addr} {nm qn:Str} {bs bm:List Value} {hd:Bool} {sn:List Str} {sub:List Value} {ab:Bool} {col:Option Bool} {dd:Option Addr} {k0 k1 k2 k3 k5:Option Value} {i:String} (h:K.lookup C = some (excClassObj nm qn C N bs bm hd sn sub ab col dd k0 k1 k2 k3 k5 i)):(Value.ref C :: bm).contains (.ref B) = subIn K C B:=by
 unfold subIn
 rw [h]
end
end L2
namespace L2
open PySem PySem.Spec PyProof.Rows
noncomputable def qTail (K:PySem.W.Frag) (n:Str):List Value -> Bool
 | []=>mroV == []
 | v :: r=>(v :: r) == mroV || match v with
  | .ref A=>(match K.lookup A with
    | some ⟨_,_,.cls cd,_⟩=>PySem.W.nsOkIn K cd.ns && (PySem.W.nsIn K cd.ns n == some none) && qTail K n r
    | _=>false)
  | _=>false
noncomputable def qIn (K:PySem.W.Frag) (C:Addr) (n:Str):Bool:=match K.lookup C with
 | some ⟨_,_,.cls cd,_⟩=>(match cd.mro with
   | _ :: bm=>qTail K n bm && PySem.W.nsOkIn K cd.ns && (PySem.W.nsIn K cd.ns n == some none)
   | _=>false)
 | _=>false
structure ExcQ (K:PySem.W.Frag) (C:Addr):Prop where
 c:ExcC K C
 q1:qIn K C "__getattribute__" = true
 q2:qIn K C "__getattr__" = true
 q3:qIn K C "__class__" = true
section
variable {M:Model} {A:Around} {E:Value -> Shared -> Prop} {h:Heap} {g:Array GenState} {d:Drawn} {t:Nat} {os:OsState} {K:PySem.W.Frag}
theorem along_q {n:Str} {y:Option Value} {Q:Option Value -> Shared -> Prop} (X:K.In h) (hv:lookupAlong mroV n = pure y) (q:Q y ⟨h,g,d,t,os⟩):∀ {l:List Value},qTail K n l = true -> wpAny M A (lookupAlong l n) Q E ⟨h,g,d,t,os⟩
 | [],e=>by cases e
 | v :: r,e=>by
  unfold qTail at e
  rcases Bool.or_eq_true_iff.mp e with z | z
  ·rw [beq_iff_eq.mp z,hv]
   exact wpAny_pure q
  ·split at z
   ·split at z
    ·rename_i ho
     simp only [Bool.and_eq_true,beq_iff_eq] at z
     rw [lookupAlong_cons]
     refine wpAny_bind (wpAny_classOwn_cls (X _ _ ho) (.of_isNs (PySem.W.isNs_of_in X z.1.1)) ?_)
     rw [PySem.W.nsMap_none_of_in X z.1.1 z.1.2]
     exact along_q X hv q z.2
    ·cases z
   ·cases z
theorem sub_q {C:Addr} {v:Value} {b:Bool} {Q:Bool -> Shared -> Prop} (X:K.In h) {N:Addr} {nm qn:Str} {bs bm:List Value} {hd:Bool} {sn:List Str} {sub:List Value} {ab:Bool} {col:Option Bool} {dd:Option Addr} {k0 k1 k2 k3 k5:Option Value} {i:String} (e1:K.lookup C = some (excClassObj nm qn C N bs bm hd sn sub ab col dd k0 k1 k2 k3 k5 i)) (hb:(Value.ref C :: bm).contains v = b) (q:Q b ⟨h,g,d,t,os⟩) :
  wpAny M A (isSubtype (.ref C) v) Q E ⟨h,g,d,t,os⟩:=wpAny_isSubtype_exc (X _ _ e1) (by rw [hb]; exact q)
end
theorem lkV_class:typeLookup (.type "ValueError") "__class__" = pure (some (.builtin "object.__class__")):=by rw [typeLookup_type,builtinLookup_eq_fast]; kernel_rfl
section
variable {prog:Program} {w:World} {A:Around} {E:Value -> Shared -> Prop} {h:Heap} {g:Array GenState} {d:Drawn} {t:Nat} {os:OsState} {K:PySem.W.Frag} {a C:Addr} {o:Obj}
end
end L2
namespace L2
open PySem PySem.Spec PyProof.Rows
noncomputable def clsIn (K:PySem.W.Frag) (D:Addr):Bool:=match K.lookup D with
 | some ⟨.type "type",_,.cls _,_⟩=>true
 | _=>false
theorem cls_obj {K:PySem.W.Frag} {D:Addr} (q:clsIn K D = true):∃ dd cd sl,K.lookup D = some ⟨.type "type",dd,.cls cd,sl⟩:=by
 unfold clsIn at q
 split at q
 ·rename_i ho
  exact ⟨_,_,_,ho⟩
 ·cases q
theorem type_sub:isSubtype (.type "type") (.type "type") = pure true:=by rw [isSubtype_type]; kernel_rfl
theorem typeOf_V:typeOf (.type "ValueError") = pure (.type "type"):=by kernel_rfl
section
variable {prog:Program} {w:World} {A:Around} {E:Value -> Shared -> Prop} {h:Heap} {g:Array GenState} {d:Drawn} {t:Nat} {os:OsState} {K:PySem.W.Frag} {a C D:Addr} {o:Obj} {b:Bool}
end
end L2
namespace L2
open PySem PySem.Spec PyProof.Rows
section
variable {prog:Program} {w:World} {A:Around} {E:Value -> Shared -> Prop} {h:Heap} {g:Array GenState} {d:Drawn} {t:Nat} {os:OsState} {K:PySem.W.Frag} {a C D:Addr} {o:Obj} {b:Bool}
theorem nestT {tp:Addr} {cs:List Value} {vs:List Bool} {n:Nat} {oT:Obj} {tk:Tok} {P:Shared -> Prop} (hP:∀ s tk,P s -> P { s with toks:=tk }) {Q:Fin -> Shared -> Prop} (hx:h.get? a = some o) (hc:o.cls = .ref C) (ne:C ≠ tp)
  (hT:h.get? tp = some oT) (hTc:oT.cls = .type "tuple") (hTd:oT.data = .seq cs.toArray n) (ha:AnswersAll P (.ref a) cs vs) (hs:P ⟨h,g,d,t,os⟩) (q:∀ tk',Q (.done (.ret (.bool (vs.any id)))) ⟨h,g,d,tk',os⟩) :
  wpAny (model prog w) A (Builtin.«isinstance.nested» ⟨[.ref a,.ref tp,.int 0 tk],[]⟩) Q E ⟨h,g,d,t,os⟩:=by
 have tt:(⟨h,g,d,t,os⟩:Shared).TypeIs (.ref tp) "tuple":=⟨_,hT,hTc⟩
 have r1:=PySem.F.isi_sub_tuple
 have ee:(Value.ref C == Value.ref tp) = false:=by simp [ne]
 obtain ⟨c0,d0,data0,sl0⟩:=oT
 simp only at hTc hTd
 subst hTc hTd
 repeat (any_goals (first | assumption | (with_reducible refine wpAny_loadPart_at hx ?_; rw [hc]) | wp_step))
 refine wpAny_arrayLoop ?_
 simp only [Option.getD_some,List.toList_toArray]
 refine isinstance_items (dep:=0) hP cs vs _ _ ha hs fun tk'=>?_
 cases hv:vs.any id with
 | true =>
  rw [if_pos rfl]
  have:=q tk'
  rw [hv] at this
  repeat (any_goals (first | assumption | wp_step))
 | false =>
  rw [if_neg (by decide)]
  have:=q tk'
  rw [hv] at this
  repeat (any_goals (first | assumption | wp_step))
end
section
variable {X:Cx}
end
end L2
namespace L2
open PySem PySem.Spec PyProof.Rows
structure CalX (P:Program) (w:World) (K:PySem.W.Frag) (mg:Str -> Option Value) (base:Heap) (k:Nat) (x:Str) (ps:List Str) (sp:Sp):Prop where
 ex:∃ (f:Addr) (fd:FuncData),FnOk P w K mg base (CXE P w) k f fd ps sp /\ mg x = some (.ref f) /\ PySem.W.keepIn K (.ref f) = true /\ Binds K fd ps []
section
variable {X:Cx} {k iE iC:Nat} {f n b c y:Str} {ps:List Str} {sp:Sp} {t:TA} {B:Addr} {e1:Expr} {es:List Expr} {p cpos pb pn pc p3 hpos apos pos py:Pos}
noncomputable abbrev hdl (b n c:Str) (pb pn pc p3 hpos:Pos):ExceptHandler:=.ExceptHandler (some (.Name b pb)) (some n) [.Assign [.Name c pc] (.Name n pn) p3] hpos
structure Tr (X:Cx) (b n c:Str) (pn pc p3:Pos) (iE iC:Nat) (B:Addr):Prop where
 hst:X.stack = X.env :: X.outer
 hfr:X.env.frame = some X.env.locals
 hex:X.ex = []
 hN:X.N.Nodup
 hiE:X.N[iE]? = some n
 hlE:X.env.scope.names.lookup n = some .local
 hiC:X.N[iC]? = some c
 hlC:X.env.scope.names.lookup c = some .local
 hgb:Gl X b
 hmb:X.mg b = some (.ref B)
 hB:ExcC X.K B
 hs3:swapsWith (.Name n pn) (some (.Name c pc)) p3.line X.env = pure false
 hdb:(b == ("__debug__":Str)) = false
 hd1:(n == ("__debug__":Str)) = false
 hd2:(n == ("__classdict__":Str)) = false
end
end L2
namespace L2
open PySem PySem.Spec PyProof.Rows
theorem PS.nox {X:Cx} {st:Stmt} {t:TS} (h:PS X.nox st t):PS X st t:=fun pins s σ H D I hw=>wpAny_mono (h pins s σ H D (I.wish _) hw) (fun _ _ q=>q.unwish) fun _ _ z=>False.elim z
noncomputable def PR (X:Cx) (sts:List Stmt) (E:XK) (C:Addr) (t:TS):Prop:=∀ (pins:List (Addr × Obj)) (s:Shared) (σ:St) (H:Hp) (D D':Ends),Inv X pins σ H s -> t D σ H -> (∀ σ H,D.nx σ H -> E (.ref C) none H) -> (∀ v H,¬ D.rt v H) -> (∀ σ H,¬ D.bk σ H) -> (∀ σ H,¬ D.ct σ H) ->
 wpAny (model X.prog X.w) X.A (execs sts X.env) (SP X pins D') X.xe s
end L2
namespace L3
open PySem PySem.Spec PyProof.Rows L2
noncomputable abbrev ConX:=List Sl -> Addr -> Prop
theorem Rel.off {K:Fg} {G:Gh} {F H:Hp} {σ σ':L2.St} {ρ:Ev} {i:Nat} (R:Rel K G F σ H ρ) (h:ρ[i]? = some none) (hl:σ'.length = σ.length) (hs:∀ j,j ≠ i -> σ'[j]? = σ[j]?):Rel K G F σ' H ρ:=by
 have ne:∀ {j s},ρ[j]? = some (some s) -> j ≠ i:=fun {j s} e z=>by rw [z,h] at e; cases e
 refine ⟨by rw [hl]; exact R.len,R.sub,R.sub0,R.fn,R.keep,fun j d e=>?_,fun j s e w=>?_,fun j d a e eb=>?_,fun j a e=>?_,R.ioi,fun j k s t a e1 w1 e2 w2 e3 e4=>?_⟩
 ·rw [hs j (ne e)]; exact R.fz j d e
 ·rw [hs j (ne e)]; exact R.ow j s e w
 ·rw [hs j (ne e)] at eb; exact R.new j d a e eb
 ·obtain ⟨d,e1,e2⟩:=R.io j a e
  exact ⟨d,e1,by rw [hs j (ne e1)]; exact e2⟩
 ·rw [hs j (ne e1)] at e3
  rw [hs k (ne e2)] at e4
  exact R.ap j k s t a e1 w1 e2 w2 e3 e4
structure WR (X:Cx) (sts:List Stmt) (E:XK) (C:Addr) (t:TS):Prop where
 h:PR X sts E C t
section
variable {X:Cx} {K:Fg} {st:Stmt} {rest:List Stmt} {E:XK} {C:Addr} {t u:TDS} {tc:TTD} {c:Expr} {x tx:Str} {k:Nat} {np cpos rpos pos p2:Pos}
end
section
variable {P:Program} {w:World} {K:PySem.W.Frag} {mg:Str -> Option Value} {base:Heap}
end
end L3
namespace L3
open PySem PySem.Spec PyProof.Rows L2
noncomputable def cA (mg:Str -> Option Value) (x:Str):Addr:=match mg x with
 | some (.ref a)=>a
 | _=>0
theorem cA_of {mg:Str -> Option Value} {x:Str} {a:Addr} (h:mg x = some (.ref a)):cA mg x = a:=by unfold cA; rw [h]
theorem cA_mg {mg:Str -> Option Value} {x:Str} {a:Addr} (h:mg x = some (.ref a)):mg x = some (.ref (cA mg x)):=by rw [cA_of h]; exact h
theorem kv_nb {K:Fg} {F:Hp} {kvs:List (Key × V)} {es:List (D × D)} (h:DaKV K F kvs es) {b:Bool} {d:D} {r:List (D × D)} (e:es = (.bool b,d) :: r):False:=by
 cases h with
 | nil=>cases e
 | @cons k _ _ _ _ _ _=>cases k <;> cases e
theorem kt_nb {K:Fg} {F:Hp} {kvs:List (List Key × V)} {es:List (D × D)} (h:DaKT K F kvs es) {b:Bool} {d:D} {r:List (D × D)} (e:es = (.bool b,d) :: r):False:=by
 cases h <;> cases e
noncomputable def isN:D -> Bool
 | .none=>true
 | _=>false
noncomputable def fIsN (neg:Bool):D -> D -> (Sl -> Prop) -> Prop
 | x,.none,Q=>Q (.fz (.bool (if neg then !isN x else isN x)))
 | _,_,_=>False
theorem isN_of {K:Fg} {F H:Hp} {v:V} {d:D} (s:Sub F H) (h:At K F H v d):decide (v = .non) = isN d:=by
 cases d with
 | none=>cases h.none; rfl
 | bool b=>cases h.bool; rfl
 | int i=>cases h.int; rfl
 | str x=>cases h.str; rfl
 | list ds=>obtain ⟨a,_,rfl,_⟩:=h.list s; rfl
 | tuple ds=>obtain ⟨a,_,rfl,_⟩:=h.tuple s; rfl
 | dict es=>obtain ⟨a,rfl,_⟩:=h.dict s; rfl
theorem ok_isN {K:Fg}:OpOk K (r2L fun x y H Q=>y = .non /\ Q (.bl (decide (x = .non))) H) (o2 (fIsN false)):=ok2 fun G F σ H ρ x y d e Q Qd R h1 h2 w k=>by
 cases e <;> first | exact w.elim | skip
 cases h2.none
 have w:Qd (.fz (.bool (isN d))):=w
 rw [<- isN_of R.sub h1] at w
 exact ⟨rfl,k _ H F (.fz _) (Sub.refl _) R (Da.bl _) w⟩
theorem ok_notN {K:Fg}:OpOk K (r2L fun x y H Q=>y = .non /\ Q (.bl (!decide (x = .non))) H) (o2 (fIsN true)):=ok2 fun G F σ H ρ x y d e Q Qd R h1 h2 w k=>by
 cases e <;> first | exact w.elim | skip
 cases h2.none
 have w:Qd (.fz (.bool (!isN d))):=w
 rw [<- isN_of R.sub h1] at w
 exact ⟨rfl,k _ H F (.fz _) (Sub.refl _) R (Da.bl _) w⟩
structure WC (X:Cx) (es:List Expr) (Bs:List Addr):Prop where
 h:PA X es (fun _ H Q=>Q (Bs.map V.ref) H)
section
variable {X:Cx} {K:Fg} {e1:Expr} {es:List Expr} {a:AD} {as:List AD} {B:Addr} {Bs:List Addr} {y f n b c:Str} {p pos p2 p3 p4 pb pn pc hpos cpos apos py:Pos} {k iE iC:Nat} {ps:List Str} {con:ConX} {t:TDS}
theorem wc_nil:WC X [] []:=⟨pa_nil⟩
theorem wc_cons (hm:X.mg y = some (.ref B)) (h:WC X es Bs) (hg:Gl X y:=by rfl) (hd:(y == ("__debug__":Str)) = false:=by decide):WC X (.Name y p :: es) (B :: Bs) :=
 ⟨pa_cons (pe_glob hg hm (v:=.ref B) rfl hd) h.h (starEach_of rfl)⟩
end
end L3
namespace L2
open PySem PySem.Spec PyProof.Rows
end L2
namespace L3
open PySem PySem.Spec PyProof.Rows L2
theorem cutS {t u:TDS} {E:DE} {ρ:Ev} (J:Ev -> Prop) (h1:∀ N:Ev -> Prop,(∀ ρ',J ρ' -> N ρ') -> t { nx:=N,rt:=E.rt,bk:=E.bk,ct:=E.ct } ρ) (h2:∀ ρ',J ρ' -> u E ρ'):dSeq t u E ρ:=h1 _ h2
theorem gnC {i:Nat} {d:D} {ρ:Ev} {Q:Ev -> Prop} (h:dGN i d ρ Q = Q (ρ.set i (some (.fz d)))) (w:Q (ρ.set i (some (.fz d)))):dGN i d ρ Q:=by rw [h]; exact w
end L3
namespace L2
open PySem PySem.Spec PyProof.Rows
theorem vals_strs:∀ {ts:List Str} {us:List Value},Vals (ts.map V.str) us -> ∃ l:List (Str × Tok),us = strValues l /\ l.map (·.1) = ts
 | [],_,r=>by rw [List.map_nil] at r; cases r; exact ⟨[],rfl,rfl⟩
 | t :: ts,_,r=>by
  rw [List.map_cons] at r
  cases r with
  | cons h r =>
   obtain ⟨k,rfl⟩:=h
   obtain ⟨l,rfl,e⟩:=vals_strs r
   exact ⟨(t,k) :: l,rfl,by rw [List.map_cons,e]⟩
theorem strs_vals:∀ l:List (Str × Tok),Vals ((l.map (·.1)).map V.str) (strValues l)
 | []=>.nil
 | p :: l=>.cons ⟨p.2,rfl⟩ (strs_vals l)
noncomputable def rJoin (K:PySem.W.Frag):V -> List V -> Hp -> VK -> Prop:=fun x vs H Q=>∃ (sep:Str) (a:Addr) (ts:List Str),x = .str sep /\ vs = [.ref a] /\ SqL K H a (ts.map V.str) /\ JoinOk sep ts = true /\ Q (.str (Txt.join sep ts)) H
theorem mt_join {X:Cx}:MtR X "str.join" (rJoin X.K):=by
 intro pins s σ H x vs v us Q I rx rv h
 obtain ⟨sep,a,ts,rfl,rfl,hq,hok,q⟩:=h
 obtain ⟨t,rfl⟩:=rx
 obtain ⟨u,rfl,ru⟩:=rv.one
 cases ru
 obtain ⟨its,r,pl,_⟩:=I.list hq
 obtain ⟨l,rfl,e⟩:=vals_strs r
 exact SC.join pl.isList e hok fun t' k=>⟨.str _,H,I.tok _,⟨_,rfl⟩,q⟩
noncomputable def rStarts:V -> List V -> Hp -> VK -> Prop:=fun x vs H Q=>∃ (t y:Str),x = .str t /\ vs = [.str y] /\ Q (.bl (Txt.startswith t y)) H
theorem mt_starts {X:Cx}:MtR X "str.startswith" rStarts:=by
 intro pins s σ H x vs v us Q I rx rv h
 obtain ⟨t,y,rfl,rfl,q⟩:=h
 obtain ⟨k,rfl⟩:=rx
 obtain ⟨u,rfl,ru⟩:=rv.one
 obtain ⟨k2,rfl⟩:=ru
 exact SC.startswith ⟨.bl _,H,I,rfl,q⟩
theorem parts_len (x:Str):∀ (os:List Nat) (k:Nat),(Builtin.Str.partsBetween x os k).length = os.length + 1:=by
 intro os k
 unfold Builtin.Str.partsBetween
 simp
noncomputable def rSplit:V -> List V -> Hp -> VK -> Prop:=fun x vs H Q=>∃ (t y:Str),x = .str t /\ vs = [.str y] /\ (y.length == 0) = false /\ t.length + 2 <= sizeLine /\ ∀ l,H l = none -> Q (.ref l) (upd H l (.lst ((Txt.split t y).map V.str)))
theorem mt_split {X:Cx}:MtR X "str.split" rSplit:=by
 intro pins s σ H x vs v us Q I rx rv h
 obtain ⟨x,y,rfl,rfl,hy,hz,q⟩:=h
 obtain ⟨t,rfl⟩:=rx
 obtain ⟨u,rfl,ru⟩:=rv.one
 obtain ⟨u,rfl⟩:=ru
 have hp:(Builtin.Str.partsBetween x (Builtin.Str.occurrences x y 0 x.length (x.length + 1)) y.length).length <= sizeLine:=by
  have h1:=StrLaws.occ_length_le x y 0 x.length (x.length + 1)
  rw [parts_len]
  omega
 have fin:∀ (l:List (Str × Tok)) (k:Nat),l.map (·.1) = Txt.split x y -> l.length <= sizeLine -> EP X pins σ Q (.ref s.heap.objs.size) { s with toks:=k,heap:=s.heap.push { cls:=.type "list",data:=.seq (strValues l).toArray } }:=fun l k e hl=>by
  have el:((Txt.split x y).map V.str).length = l.length:=by rw [<- e,List.length_map,List.length_map]
  refine ⟨.ref s.heap.objs.size,_,I.laid (t':=k) (o:=.lst ((Txt.split x y).map V.str)) (fun b o e=>Heap.get?_push_of_some _ e) (Nat.le_refl _) ⟨by rw [el]; exact hl,strValues l,_,?_,Heap.get?_push_size _ rfl⟩,rfl,q _ (I.hok.fresh (Nat.le_refl _))⟩
  rw [<- e]
  exact strs_vals l
 cases h1:(decide (x.length < y.length) || decide (Builtin.Str.strKind x < Builtin.Str.strKind y))
 ·cases h2:(Builtin.Str.occurrences x y 0 x.length (x.length + 1)).isEmpty
  ·refine call_meets F.slot_str_split (typeIs_str s x t) F.entry_str_split (F.args_str_split_2 _ _) (meets_str_split_sep x y t u h1 hy h2 (by omega) hp) ?_
   rw [strsFrom_eq]
   have e:(numbered s.toks (Builtin.Str.partsBetween x (Builtin.Str.occurrences x y 0 x.length (x.length + 1)) y.length)).map (·.1) = Txt.split x y:=by
    rw [numbered_texts]
    unfold Txt.split
    rw [h1,h2]
    rfl
   refine fin _ _ e ?_
   have:=congrArg List.length e
   rw [List.length_map] at this
   rw [this]
   unfold Txt.split
   rw [h1,h2]
   exact hp
  ·exact call_meets F.slot_str_split (typeIs_str s x t) F.entry_str_split (F.args_str_split_2 _ _) (meets_str_split_not_found x y t u h1 hy h2) (fin [(x,t)] s.toks (by unfold Txt.split; rw [h1,h2]; rfl) (by show 1 <= _; omega))
 ·exact call_meets F.slot_str_split (typeIs_str s x t) F.entry_str_split (F.args_str_split_2 _ _) (meets_str_split_cannot_occur x y t u h1) (fin [(x,t)] s.toks (by unfold Txt.split; rw [h1]; rfl) (by show 1 <= _; omega))
theorem call_intS {X:Cx}:CallR X (.type "int") (fun xs H Q=>∃ (x:Str) (n:Int),xs = [.str x] /\ intText? x = some n /\ x.length <= 640 /\ Q (.int n) H):=by
 intro pins s σ H xs us Q I r h
 obtain ⟨x,n,rfl,hn,hl,q⟩:=h
 obtain ⟨u,rfl,t,rfl⟩:=vals1 r
 exact PySem.W.KIN.call_text hn hl ⟨.int n,H,I.tok _,⟨_,rfl⟩,q⟩
end L2
namespace L3
open PySem PySem.Spec PyProof.Rows L2
noncomputable def unS:D -> Str
 | .str x=>x
 | _=>Str.empty
noncomputable def fJoin (sep:Str):D -> (Sl -> Prop) -> Prop
 | .list ds,Q=>∃ ts:List Str,ds = ts.map PyData.str /\ JoinOk sep ts = true /\ Q (.fz (.str (Txt.join sep ts)))
 | _,_=>False
theorem DaAll.strs {K:Fg} {F:Hp}:∀ {ts:List Str} {us:List V},DaAll K F us (ts.map PyData.str) -> us = ts.map V.str
 | [],_,h=>by rw [List.map_nil] at h; cases h; rfl
 | t :: ts,_,h=>by
  rw [List.map_cons] at h
  cases h with
  | cons h r=>cases h; rw [DaAll.strs r]; rfl
theorem strs_da {K:Fg} {F:Hp}:∀ ts:List Str,DaAll K F (ts.map V.str) (ts.map PyData.str)
 | []=>.nil
 | _ :: ts=>.cons (.str _) (strs_da ts)
theorem ok_join {K:Fg} (sep:Str):OpOk K (r1L fun y H Q=>rJoin K (.str sep) [y] H Q) (o1 (fJoin sep)):=ok1 fun G F σ H ρ x d Q Qd R h1 w k=>by
 match d,h1,w with
 | .list ds,h1,⟨ts,e,hok,w⟩ =>
  subst e
  obtain ⟨a,us,rfl,e1,d1⟩:=h1.list R.sub
  have:=d1.strs
  subst this
  exact ⟨_,rfl,sep,a,ts,rfl,rfl,SqL.of e1,hok,k _ H F (.fz _) (Sub.refl _) R (Da.str _) w⟩
noncomputable def fSplit (y:Str):D -> (Sl -> Prop) -> Prop
 | .str x,Q=>(y.length == 0) = false /\ x.length + 2 <= sizeLine /\ Q (.ow (.list ((Txt.split x y).map PyData.str)))
 | _,_=>False
theorem ok_split {K:Fg} (y:Str):OpOk K (r1L fun x H Q=>tyV K "str" x H /\ rSplit x [.str y] H Q) (o1 (fSplit y)):=ok1 fun G F σ H ρ x d Q Qd R h1 w k=>by
 match d,h1,w with
 | .str t,h1,⟨h2,h3,w⟩ =>
  cases h1.str
  refine ⟨_,rfl,rfl,t,y,rfl,rfl,h2,h3,fun l hl=>?_⟩
  obtain ⟨R',r'⟩:=R.newOw (o:=.lst ((Txt.split t y).map V.str)) (d:=.list ((Txt.split t y).map PyData.str)) hl (strs_da _)
  exact k _ _ F _ (Sub.refl _) R' r' w
noncomputable def fStarts (y:Str):D -> (Sl -> Prop) -> Prop
 | .str x,Q=>Q (.fz (.bool (Txt.startswith x y)))
 | _,_=>False
theorem ok_starts {K:Fg} (y:Str):OpOk K (r1L fun x H Q=>tyV K "str" x H /\ rStarts x [.str y] H Q) (o1 (fStarts y)):=ok1 fun G F σ H ρ x d Q Qd R h1 w k=>by
 match d,h1,w with
 | .str t,h1,w=>cases h1.str; exact ⟨_,rfl,rfl,t,y,rfl,rfl,k _ H F (.fz _) (Sub.refl _) R (Da.bl _) w⟩
noncomputable def fAddS:D -> D -> (Sl -> Prop) -> Prop
 | .str x,.str y,Q=>x.length + y.length <= sizeLine /\ Q (.fz (.str (x ++ y)))
 | _,_,_=>False
theorem ok_addS {K:Fg}:OpOk K (r2L fun x y H Q=>∃ i j,x = V.str i /\ y = V.str j /\ i.length + j.length <= sizeLine /\ Q (V.str (i ++ j)) H) (o2 fAddS):=ok2 fun G F σ H ρ x y d e Q Qd R h1 h2 w k=>by
 match d,e,h1,h2,w with
 | .str i,.str j,h1,h2,⟨h3,w⟩=>cases h1.str; cases h2.str; exact ⟨i,j,rfl,rfl,h3,k _ H F (.fz _) (Sub.refl _) R (Da.str _) w⟩
noncomputable def fInS:D -> D -> (Sl -> Prop) -> Prop
 | .str x,.str y,Q=>Q (.fz (.bool (!(Builtin.Str.occurrences y x 0 y.length 1).isEmpty)))
 | _,_,_=>False
theorem ok_inS {K:Fg}:OpOk K (r2L fun x y H Q=>∃ i j,x = V.str i /\ y = V.str j /\ Q (V.bl (!(Builtin.Str.occurrences j i 0 j.length 1).isEmpty)) H) (o2 fInS):=ok2 fun G F σ H ρ x y d e Q Qd R h1 h2 w k=>by
 match d,e,h1,h2,w with
 | .str i,.str j,h1,h2,w=>cases h1.str; cases h2.str; exact ⟨i,j,rfl,rfl,k _ H F (.fz _) (Sub.refl _) R (Da.bl _) w⟩
noncomputable def fLenS:D -> (Sl -> Prop) -> Prop
 | .str x,Q=>x.length <= sizeLine /\ Q (.fz (.int x.length))
 | _,_=>False
theorem ok_lenS {K:Fg}:OpOk K (fun xs H Q=>∃ z,xs = [V.str z] /\ z.length <= sizeLine /\ Q (V.int z.length) H) (o1 fLenS):=ok1 fun G F σ H ρ x d Q Qd R h1 w k=>by
 match d,h1,w with
 | .str i,h1,⟨h2,w⟩=>cases h1.str; exact ⟨i,rfl,h2,k _ H F (.fz _) (Sub.refl _) R (Da.int _) w⟩
noncomputable def fIntS:D -> (Sl -> Prop) -> Prop
 | .str x,Q=>∃ n:Int,intText? x = some n /\ x.length <= 640 /\ Q (.fz (.int n))
 | _,_=>False
theorem ok_intS {K:Fg}:OpOk K (fun xs H Q=>∃ (x:Str) (n:Int),xs = [V.str x] /\ intText? x = some n /\ x.length <= 640 /\ Q (V.int n) H) (o1 fIntS):=ok1 fun G F σ H ρ x d Q Qd R h1 w k=>by
 match d,h1,w with
 | .str i,h1,⟨n,h2,h3,w⟩=>cases h1.str; exact ⟨i,n,rfl,h2,h3,k _ H F (.fz _) (Sub.refl _) R (Da.int _) w⟩
noncomputable def fIxS:D -> D -> (Sl -> Prop) -> Prop
 | .str x,.int i,Q=>∃ c,x.length <= sizeLine /\ atI x.cps.toList i = some c /\ Q (.fz (.str ⟨#[c]⟩))
 | _,_,_=>False
theorem ok_ixS {K:Fg}:OpOk K (r2L rIxS) (o2 fIxS):=ok2 fun G F σ H ρ x y d e Q Qd R h1 h2 w k=>by
 match d,e,h1,h2,w with
 | .str z,.int i,h1,h2,⟨c,h3,h4,w⟩=>cases h1.str; cases h2.int; exact ⟨z,i,c,rfl,rfl,h3,h4,k _ H F (.fz _) (Sub.refl _) R (Da.str _) w⟩
section
variable {X:Cx} {K:Fg} {e e1 e2:Expr} {a b:AD} {pos p apos cpos:Pos} {z:Str} {kk:Nat}
theorem w_join (hK:X.K = K) (ha:WE X e (argT K a))
  (hbase:attributeBase (.Constant (.str z) kk p) "join" X.env (eval (.Constant (.str z) kk p) X.env) = eval (.Constant (.str z) kk p) X.env:=by rfl)
  (hfew:((backTo cpos (starEach [e] X.env)).all (fun x=>!x.1) && (backToKw cpos (keywordEach [] X.env)).all (fun x=>x.1.isSome) && decide ([e].length + ([]:List Keyword).length + (if ([]:List Keyword).isEmpty then 0 else 1) < 30)) = true:=by rfl)
  (hline:(apos.endLine == cpos.line) = true:=by rfl) (he:notStar e = true:=by rfl):WE X (.Call (.Attribute (.Constant (.str z) kk p) "join" apos) [e] [] cpos) (lift K (dOp [a] (o1 (fJoin z)))):=by
 subst hK
 exact ⟨cvu (ok_join z) (peM (pe_bm PySem.F.plainAttrs_str PySem.F.slot_str_join PySem.F.type_str_join mt_join pe_str (pa_cons ha.h pa_nil (starEach_of he)) hbase hfew hline (starEach_of he) rfl) fun q=>⟨rfl,q⟩)⟩
theorem w_split {y:Str} {k2:Nat} {p2:Pos} (hK:X.K = K) (ha:WE X e (argT K a))
  (hbase:attributeBase e "split" X.env (eval e X.env) = eval e X.env:=by rfl)
  (hfew:((backTo cpos (starEach [.Constant (.str y) k2 p2] X.env)).all (fun x=>!x.1) && (backToKw cpos (keywordEach [] X.env)).all (fun x=>x.1.isSome) && decide ([Expr.Constant (.str y) k2 p2].length + ([]:List Keyword).length + (if ([]:List Keyword).isEmpty then 0 else 1) < 30)) = true:=by rfl)
  (hline:(apos.endLine == cpos.line) = true:=by rfl):WE X (.Call (.Attribute e "split" apos) [.Constant (.str y) k2 p2] [] cpos) (lift K (dOp [a] (o1 (fSplit y)))):=by
 subst hK
 exact ⟨cvu (ok_split y) (peM (pe_bm PySem.F.plainAttrs_str PySem.F.slot_str_split PySem.F.type_str_split mt_split ha.h (pa_cons pe_str pa_nil (starEach_of rfl)) hbase hfew hline (starEach_of rfl) rfl) fun q=>q)⟩
theorem w_starts {y:Str} {k2:Nat} {p2:Pos} (hK:X.K = K) (ha:WE X e (argT K a))
  (hbase:attributeBase e "startswith" X.env (eval e X.env) = eval e X.env:=by rfl)
  (hfew:((backTo cpos (starEach [.Constant (.str y) k2 p2] X.env)).all (fun x=>!x.1) && (backToKw cpos (keywordEach [] X.env)).all (fun x=>x.1.isSome) && decide ([Expr.Constant (.str y) k2 p2].length + ([]:List Keyword).length + (if ([]:List Keyword).isEmpty then 0 else 1) < 30)) = true:=by rfl)
  (hline:(apos.endLine == cpos.line) = true:=by rfl):WE X (.Call (.Attribute e "startswith" apos) [.Constant (.str y) k2 p2] [] cpos) (lift K (dOp [a] (o1 (fStarts y)))):=by
 subst hK
 exact ⟨cvu (ok_starts y) (peM (pe_bm PySem.F.plainAttrs_str PySem.F.slot_str_startswith PySem.F.type_str_startswith mt_starts ha.h (pa_cons pe_str pa_nil (starEach_of rfl)) hbase hfew hline (starEach_of rfl) rfl) fun q=>q)⟩
theorem w_inS (ha:WE X e1 (argT K a)) (hb:WE X e2 (argT K b)) (hm:behindInMarks .In e2 = false:=by rfl):WE X (.Compare e1 [.In] [e2] pos) (lift K (dOp [a,b] (o2 fInS))):=⟨cv2 ok_inS (pe_cmpR op_in_str ha.h hb.h hm)⟩
theorem w_ixS (ha:WE X e1 (argT K a)) (hb:WE X e2 (argT K b)) (hs:PlainIx e2:=by exact fun _ _=>rfl):WE X (.Subscript e1 e2 pos) (lift K (dOp [a,b] (o2 fIxS))):=⟨cv2 ok_ixS (pe_ix ix_str ha.h hb.h hs)⟩
end
end L3
namespace L2
open PySem PySem.Spec PyProof.Rows
noncomputable def Its (x:Str):It:=⟨fun i _=>i < x.cps.size,fun i H v H'=>H' = H /\ ∃ c,x.cps[i]? = some c /\ v = .str ⟨#[c]⟩,fun i _=>i = x.cps.size⟩
theorem turn_str {P:Program} {w:World} {K:PySem.W.Frag} {tg:Expr} (n:String) (hn:["enumerate","zip","dict_itemiterator","dict_reverseitemiterator","odict_iterator","itertools.zip_longest","itertools.pairwise"].contains n = false) (x:Str) (t:Tok) (it:Addr)
  (W:∀ A:Around,A.handled = none -> PySem.Walks P w A it [it] [it] x.cps.size (SignAt x) (fun i h=>h.IsStrIter it n x t i))
  (S:∀ (A:Around) (i:Nat) (s:Shared) (Q:Value -> Shared -> Prop) (E:Value -> Shared -> Prop),s.heap.IsStrIter it n x t i -> Q (.ref it) s -> wpAny (model P w) A (pyIter (.ref it)) Q E s):Turn P w K tg (Its x) [it] it (fun i h=>h.IsStrIter it n x t i) where
 mem:=by simp
 obj:=fun i h st b hb=>by
  have e:b = it:=by simpa using hb
  subst e
  obtain ⟨o,e,c,d⟩:=st
  exact ⟨o,e,fun v z=>by rw [d] at z; cases z⟩
 keep:=fun i h h' st k=>by
  obtain ⟨o,e,r⟩:=st
  exact ⟨o,k it (by simp) o e,r⟩
 item:=by
  intro X hP hw hK hc i pins s σ H E I hf st hg
  subst hP hw hK
  obtain ⟨f0,f1,f2,f3,f4,f5⟩:=hf it (by simp)
  refine (W _ (I.ok.hd hc)).item i s _ _ hg st fun v h' tk hv st' kk=>?_
  obtain ⟨c,u,hx,rfl⟩:=hv
  have I1:Inv X pins σ H { s with heap:=h',toks:=tk }:=I.turned (fun b o hb e=>kk b o (by simpa using hb) e) f0 f1 f3 f4 f5
  obtain ⟨o,e,hc',hd⟩:=id st'
  exact ⟨_,rfl,go_of (s:={ s with heap:=h',toks:=tk }) e hc' hd hn ⟨.str ⟨#[c]⟩,H,I1,⟨u,rfl⟩,⟨rfl,c,hx,rfl⟩,st',fun b hb=>(hf b hb).1⟩⟩
 done:=by
  intro X hP hw hK hc i pins s σ H E I hf st hg
  subst hP hw hK
  obtain ⟨f0,f1,f2,f3,f4,f5⟩:=hf it (by simp)
  have hg:i = x.cps.size:=hg
  subst hg
  exact (W _ (I.ok.hd hc)).done s _ _ st fun h' tk kk=>⟨rfl,I.turned (fun b o hb e=>kk b o (by simpa using hb) e) f0 f1 f3 f4 f5⟩
 self:=fun A i s Q E st h=>S A i s Q E st h
section
variable {X:Cx} {tg:Expr}
noncomputable def iStr (tl:TE):TI:=fun σ H R=>tl σ H fun x H1=>∃ t,x = .str t /\ R (Its t) H1
theorem pi_str {l:Expr} {tl:TE} (hl:PE X l tl):PI X tg l (iStr tl):=by
 intro pins s σ H R I h
 refine thn (hl pins s σ H _ I h) fun v s1 ⟨x,H1,I1,r1,q1⟩=>?_
 obtain ⟨t,rfl,q⟩:=q1
 obtain ⟨k,rfl⟩:=r1
 have fp:∀ b ∈ [s1.heap.objs.size],FpOk X pins H1 b:=fun b hb=>by
  have e:b = s1.heap.objs.size:=by simpa using hb
  subst e
  exact I1.fpOk (Nat.le_refl _) (I1.hok.fresh (Nat.le_refl _))
 cases ha:t.cps.all (· < 128)
 ·exact wpAny_pyIter_wide ha ⟨s1.heap.objs.size,[s1.heap.objs.size],_,_,H1,rfl,I1.kept (t':=s1.toks) fun b o e=>Heap.get?_push_of_some _ e,turn_str "str_iterator" (by decide) t k _ (fun A hA=>Walks.strWide hA _ t k) (fun _ _ _ _ _ st h=>wpAny_pyIter_striter_wide st h),⟨_,Heap.get?_push_size _ rfl,rfl,rfl⟩,fp,q⟩
 ·exact wpAny_pyIter_ascii ha ⟨s1.heap.objs.size,[s1.heap.objs.size],_,_,H1,rfl,I1.kept (t':=s1.toks) fun b o e=>Heap.get?_push_of_some _ e,turn_str "str_ascii_iterator" (by decide) t k _ (fun A hA=>Walks.strAscii hA _ t k) (fun _ _ _ _ _ st h=>wpAny_pyIter_striter_ascii st h),⟨_,Heap.get?_push_size _ rfl,rfl,rfl⟩,fp,q⟩
noncomputable def rSlS:V -> Option Int -> Option Int -> Hp -> VK -> Prop:=fun x lo hi H Q=>∃ t:Str,x = .str t /\ t.length <= sizeLine /\ Q (.str (Txt.slice t lo hi)) H
theorem part_is {v:Value} {o:Option Int} (h:IsPart v o):∃ p:Option (Int × Tok),v = partValue p /\ p.map (·.1) = o:=by
 cases h with
 | none=>exact ⟨none,rfl,rfl⟩
 | int i t=>exact ⟨some (_,_),rfl,rfl⟩
theorem sl_str:SlR X rSlS:=by
 intro pins s σ H x v vl vu lo hi sl Q I rx hs pl pu h
 obtain ⟨t,rfl,hz,q⟩:=h
 obtain ⟨k,rfl⟩:=rx
 obtain ⟨p1,rfl,rfl⟩:=part_is pl
 obtain ⟨p2,rfl,rfl⟩:=part_is pu
 exact ⟨"str",_,F.slot_str_getitem.lookup,typeIs_str _ _ _,wpAny_getItem_str_slice (l:=p1) (u:=p2) (st:=none) hs rfl (post_val_or_str ⟨Nat.le_trans (Txt.slice_le t _ _) hz,fun t' k=>⟨.str _,H,I.tok _,⟨_,rfl⟩,q⟩⟩)⟩
end
end L2
namespace L2
open PySem PySem.Spec PyProof.Rows
noncomputable def cnt3 (lo hi st:Int):Nat:=(Builtin.Range.rangeSize lo hi st).toNat
section
variable {X:Cx} {tg:Expr}
end
end L2
namespace L3
open PySem PySem.Spec PyProof.Rows L2
noncomputable def sgnD (x:Str):List D:=x.cps.toList.map fun c=>PyData.str ⟨#[c]⟩
noncomputable def dIStr (a:TD):TDI:=fun ρ Q=>a ρ fun r ρ1=>match r.d with
 | .str x=>Q (sgnD x) ρ1
 | _=>False
theorem walks_str {K:Fg} {F:Hp} {x:Str}:Walks K (Its x) F (sgnD x):=fun i H F1 s1 s2=>by
 have hl:(sgnD x).length = x.cps.size:=by simp [sgnD]
 refine ⟨fun d ed=>?_,fun h=>by rw [hl] at h; exact h.symm⟩
 have hi:i < x.cps.size:=by have:=lt_of_get ed; rw [hl] at this; exact this
 have e:(sgnD x)[i]? = some (.str ⟨#[x.cps[i]]⟩):=by simp [sgnD,hi]
 rw [e] at ed; cases ed
 refine ⟨hi,fun v H' ⟨e1,c,e2,e3⟩=>?_⟩
 subst e1 e3
 have:c = x.cps[i]:=by simpa [hi] using e2.symm
 subst this
 exact ⟨F1,Sub.refl _,fun _ _ z=>.inl z,s2,Sub.refl _,.str _⟩
theorem l_istr {K:Fg} {a:TD} {σ:L2.St} {H:Hp} {R:It -> Hp -> Prop} (h:liftI K (dIStr a) σ H R):iStr (lift K a) σ H R:=by
 obtain ⟨G,F,ρ,Qd,Rl,w,k⟩:=h
 refine ⟨G,F,ρ,_,Rl,w,fun v H1 F1 r ρ1 s1 R1 r1 w1=>?_⟩
 obtain ⟨F2,s2,R2,d2⟩:=r1.frz R1
 split at w1
 ·rename_i x e
  rw [e] at d2
  cases d2 with
  | str=>exact ⟨x,rfl,k _ H1 F2 _ ρ1 (s1.trans s2) R2 walks_str w1⟩
 ·exact w1.elim
noncomputable def rng3D (lo st:Int) (n:Nat):List D:=(List.range n).map fun (i:Nat)=>PyData.int (lo + i * st)
noncomputable def dIRng3 (a b c:AD):TDI:=fun ρ Q=>dArgs [a,b,c] ρ fun xs ρ1=>looksQ ρ1 xs fun ds=>match ds with
 | [.int i,.int j,.int k]=>(-(2 ^ 60) <= i /\ i < 2 ^ 60 /\ -(2 ^ 60) <= j /\ j < 2 ^ 60 /\ 1 <= k /\ k < 2 ^ 30) /\ Q (rng3D i k (cnt3 i j k)) ρ1
 | _=>False
noncomputable def fSlS:D -> D -> (Sl -> Prop) -> Prop
 | .str x,.int i,Q=>x.length <= sizeLine /\ Q (.fz (.str (Txt.slice x (some i) none)))
 | _,_,_=>False
theorem ok_slS {K:Fg}:OpOk K (r2L fun x y H Q=>∃ i,y = V.int i /\ rSlS x (some i) none H Q) (o2 fSlS):=ok2 fun G F σ H ρ x y d e Q Qd R h1 h2 w k=>by
 match d,e,h1,h2,w with
 | .str z,.int i,h1,h2,⟨h3,w⟩=>cases h1.str; cases h2.int; exact ⟨i,rfl,z,rfl,h3,k _ H F (.fz _) (Sub.refl _) R (Da.str _) w⟩
section
variable {X:Cx} {K:Fg} {tg e e1 e2 e3:Expr} {a b c:AD} {td:TD} {pos p p2:Pos}
theorem w_gstr {x z:Str} (hm:∃ t,X.mg x = some (.str z t)) (hg:Gl X x:=by rfl) (hd:(x == ("__debug__":Str)) = false:=by decide):WE X (.Name x pos) (lift K (dC (.str z))):=by
 obtain ⟨t,e⟩:=hm
 exact ⟨cv_c (fun _=>.str _) (pe_glob hg e ⟨t,rfl⟩ hd)⟩
theorem i_str (hl:WE X e (lift K td)):WI X tg e (liftI K (dIStr td)):=⟨piM (pi_str hl.h) l_istr⟩
theorem w_slS (ha:WE X e1 (argT K a)) (hb:WE X e2 (argT K b)):WE X (.Subscript e1 (.Slice (some e2) none none p2) pos) (lift K (dOp [a,b] (o2 fSlS))):=⟨peM (pe_slice sl_str ha.h (po_some hb.h) po_none) fun q=>arg2 (P:=fun x y H=>∃ i,y = V.int i /\ rSlS x (some i) none H _) (l_op ok_slS q)⟩
end
end L3
namespace TX
open PySem PySem.NumText PyProof.Rows
noncomputable def jn (c:Nat):List (List Nat) -> List Nat
 | []=>[]
 | [a]=>a
 | a :: b :: r=>a ++ c :: jn c (b :: r)
theorem join_jn (c:Nat):∀ ps:List Str,(Str.join ⟨#[c]⟩ ps).cps.toList = jn c (ps.map fun p=>p.cps.toList)
 | []=>rfl
 | [a]=>rfl
 | a :: b :: r=>by
  have ih:=join_jn c (b :: r)
  show ((a ++ (⟨#[c]⟩:Str)) ++ Str.join ⟨#[c]⟩ (b :: r)).cps.toList = _
  rw [Str.cps_append,Str.cps_append,Array.toList_append,Array.toList_append,ih]
  simp [jn]
theorem cut_eq {c:Nat}:∀ {a b X Y:List Nat},c ∉ a -> c ∉ b -> a ++ c :: X = b ++ c :: Y -> a = b /\ X = Y
 | [],[],X,Y,_,_,e=>by simpa using e
 | [],y :: b,X,Y,_,h,e=>by
  injection e with e1 e2
  exact absurd (by rw [e1]; exact List.mem_cons_self ..) h
 | x :: a,[],X,Y,h,_,e=>by
  injection e with e1 e2
  exact absurd (by rw [e1]; exact List.mem_cons_self ..) h
 | x :: a,y :: b,X,Y,h1,h2,e=>by
  injection e with e1 e2
  obtain ⟨e3,e4⟩:=cut_eq (fun z=>h1 (List.mem_cons_of_mem _ z)) (fun z=>h2 (List.mem_cons_of_mem _ z)) e2
  exact ⟨by rw [e1,e3],e4⟩
theorem jn_inj {c:Nat}:∀ {ps qs:List (List Nat)},ps ≠ [] -> qs ≠ [] -> (∀ p ∈ ps,c ∉ p) -> (∀ p ∈ qs,c ∉ p) -> jn c ps = jn c qs -> ps = qs
 | [],_,h,_,_,_,_=>absurd rfl h
 | _,[],_,h,_,_,_=>absurd rfl h
 | [a],[b],_,_,_,_,e=>by rw [show a = b from e]
 | [a],b :: b' :: r,_,_,h,_,e=>by
  have e:a = b ++ c :: jn c (b' :: r):=e
  exact absurd (by rw [e]; simp) (h a (List.mem_cons_self ..))
 | a :: a' :: r,[b],_,_,_,h,e=>by
  have e:a ++ c :: jn c (a' :: r) = b:=e
  exact absurd (by rw [<- e]; simp) (h b (List.mem_cons_self ..))
 | a :: a' :: r,b :: b' :: q,_,_,h1,h2,e=>by
  obtain ⟨e1,e2⟩:=cut_eq (h1 a (List.mem_cons_self ..)) (h2 b (List.mem_cons_self ..)) e
  rw [e1,jn_inj (by simp) (by simp) (fun p hp=>h1 p (List.mem_cons_of_mem _ hp)) (fun p hp=>h2 p (List.mem_cons_of_mem _ hp)) e2]
theorem split_ne (x y:Str):Txt.split x y ≠ []:=by
 unfold Txt.split
 split
 ·simp
 ·split
  ·simp
  ·intro z
   have:=congrArg List.length z
   rw [L2.parts_len] at this
   cases this
theorem str_inj {l q:List Str} (h:(l.map fun p=>p.cps.toList) = q.map fun p=>p.cps.toList):l = q :=
 List.map_inj_right (fun a b e=>Str.ext' (Array.toList_inj.mp e)) |>.mp h
theorem split_join {c:Nat} {ps:List Str} (h:ps ≠ []) (hf:∀ p ∈ ps,c ∉ p.cps.toList):Txt.split (Txt.join ⟨#[c]⟩ ps) ⟨#[c]⟩ = ps:=by
 have e:Txt.join ⟨#[c]⟩ ps = Str.join ⟨#[c]⟩ ps:=StrLaws.glued_eq_join _ _
 have h1:=StrLaws.join_split (Str.join ⟨#[c]⟩ ps) ⟨#[c]⟩
 have h2:=StrLaws.split_free (Str.join ⟨#[c]⟩ ps) c
 rw [e]
 refine str_inj (jn_inj (c:=c) ?_ ?_ ?_ ?_ ?_)
 ·intro z
  exact split_ne _ _ (List.map_eq_nil_iff.mp z)
 ·intro z
  exact h (List.map_eq_nil_iff.mp z)
 ·intro p hp
  obtain ⟨q,hq,rfl⟩:=List.mem_map.mp hp
  exact h2 q hq
 ·intro p hp
  obtain ⟨q,hq,rfl⟩:=List.mem_map.mp hp
  exact hf q hq
 ·rw [<- join_jn,<- join_jn,h1]
noncomputable abbrev tx (n:Int):Str:=Str.ofString (toString n)
noncomputable def dg (m:Nat):List Nat:=(Nat.toDigits 10 m).map Char.toNat
theorem tx_pos (m:Nat):(tx (m:Int)).cps.toList = dg m:=PySem.W.KIN.signs_num m
theorem tx_neg (m:Nat):(tx (Int.negSucc m)).cps.toList = 45 :: dg (m + 1):=by
 have h:=PySem.W.KIN.signs_num (m + 1)
 rw [signs_ofString] at h ⊢
 have e:toString (Int.negSucc m) = "-" ++ toString ((m + 1:Nat):Int):=rfl
 rw [e,String.toList_append,List.map_append,h]
 rfl
theorem tx_list (n:Int):(tx n).cps.toList = if n < 0 then 45 :: dg n.natAbs else dg n.natAbs:=by
 cases n with
 | ofNat m =>
  rw [if_neg (by have:=Int.natCast_nonneg m; simp)]
  exact tx_pos m
 | negSucc m =>
  rw [if_pos (Int.negSucc_lt_zero m)]
  exact tx_neg m
theorem dg_all (m:Nat):AllDigits (dg m):=by
 intro c hc
 obtain ⟨ch,hch,e⟩:=List.mem_map.mp hc
 have r:=digit_range (Nat.isDigit_of_mem_toDigits (by decide) (by decide) hch)
 rw [<- e]
 exact r
theorem dg_ne (m:Nat):dg m ≠ []:=fun z=>Nat.toDigits_ne_nil (List.map_eq_nil_iff.mp z)
theorem dg_len {m k:Nat} (hk:0 < k) (h:m < 10 ^ k):(dg m).length <= k:=by
 rw [dg,List.length_map]
 exact (Nat.length_toDigits_le_iff (by decide) hk).mpr h
theorem dg_head (m:Nat):0 < m -> (dg m)[0]? ≠ some 48:=by
 induction m using Nat.strongRecOn with
 | _ m ih =>
  intro hm
  by_cases h:m < 10
  ·rw [dg,Nat.toDigits_of_lt_base h]
   have:∀ k:Nat,k < 10 -> 0 < k -> ([Nat.digitChar k].map Char.toNat)[0]? ≠ some 48:=by decide
   exact this m h hm
  ·have i:=ih (m / 10) (by omega) (by omega)
   rw [dg,Nat.toDigits_of_base_le (by decide) (by omega),List.map_append]
   have hne:=dg_ne (m / 10)
   rw [dg] at i hne
   rw [List.getElem?_append_left (by exact List.length_pos_iff.mpr hne)]
   exact i
theorem tx_len {n:Int} {k:Nat} (hk:0 < k) (h:n.natAbs < 10 ^ k):(tx n).length <= k + 1:=by
 have e:(tx n).length = (tx n).cps.toList.length:=by simp [Str.length]
 have:=dg_len hk h
 rw [e,tx_list]
 split
 ·rw [List.length_cons]; omega
 ·omega
theorem reads {n:Int} (h:n.natAbs < 10 ^ 600):intText? (tx n) = some n:=by
 have hl:=tx_len (by decide) h
 cases n with
 | ofNat m =>
  have e:=intText_digits (x:=tx (Int.ofNat m)) (by show AllDigits (tx (m:Int)).cps.toList; rw [tx_pos]; exact dg_all m) (by show (tx (m:Int)).cps.toList ≠ []; rw [tx_pos]; exact dg_ne m) (by omega)
  rw [e]
  show some ((digitsVal (tx (m:Int)).cps.toList:Nat):Int) = some (m:Int)
  rw [tx_pos]
  exact congrArg (fun x:Nat=>some (x:Int)) (PySem.W.KIN.val_back m)
 | negSucc m =>
  rw [intText_neg (tx_neg m) (dg_all (m + 1)) (dg_ne (m + 1)) (by omega)]
  have:=PySem.W.KIN.val_back (m + 1)
  rw [show digitsVal (dg (m + 1)) = m + 1 from this]
  rfl
theorem tx_signs (n:Int):∀ c ∈ (tx n).cps.toList,c = 45 \/ (48 <= c /\ c <= 57):=by
 intro c hc
 rw [tx_list] at hc
 split at hc
 ·rcases List.mem_cons.mp hc with rfl | hc
  ·exact .inl rfl
  ·exact .inr (dg_all _ c hc)
 ·exact .inr (dg_all _ c hc)
noncomputable def fg (n:Int):Str:=⟨(dg n.natAbs).toArray⟩
theorem fg_list (n:Int):(fg n).cps.toList = dg n.natAbs:=by simp [fg]
theorem fg_len (n:Int):(fg n).length = (dg n.natAbs).length:=by simp [fg,Str.length]
theorem tx_fg {n:Int} (h:¬ n < 0):tx n = fg n:=by
 have e:=tx_list n
 rw [if_neg h,<- fg_list] at e
 exact Str.ext' (Array.toList_inj.mp e)
theorem minus_is:(Str.ofString "-") = ⟨#[45]⟩:=by rfl
theorem starts_tx (n:Int):Txt.startswith (tx n) (Str.ofString "-") = decide (n < 0):=by
 rw [minus_is]
 have k:=StrLaws.subAt_one (tx n) 45 0
 rw [tx_list] at k
 unfold Txt.startswith
 rw [Bool.eq_iff_iff,Bool.and_eq_true,decide_eq_true_eq,decide_eq_true_eq,k]
 split
 ·rename_i h
  exact ⟨fun _=>h,fun _=>rfl⟩
 ·rename_i h
  refine ⟨fun z=>?_,fun z=>absurd z h⟩
  have:=dg_all n.natAbs 45 (List.mem_of_getElem? z)
  omega
theorem cut_tx {n:Int} (h:n < 0):Txt.slice (tx n) (some 1) none = fg n:=by
 have e:=tx_list n
 rw [if_pos h] at e
 have k:=StrLaws.sliceText_from (x:=tx n) (i:=1) (by rw [e,List.length_cons]; omega)
 show StrLaws.sliceText (tx n) (some 1) none = _
 rw [k]
 refine Str.ext' (Array.toList_inj.mp ?_)
 rw [fg_list]
 simp [e]
theorem in_figs {c:Nat} (h:48 <= c /\ c <= 57):(!(Builtin.Str.occurrences (Str.ofString "0123456789") ⟨#[c]⟩ 0 (Str.ofString "0123456789").length 1).isEmpty) = true:=by
 refine (StrLaws.found_iff _ _).mpr ⟨c - 48,(StrLaws.subAt_one _ _ _).mpr ?_⟩
 rcases (show c = 48 \/ c = 49 \/ c = 50 \/ c = 51 \/ c = 52 \/ c = 53 \/ c = 54 \/ c = 55 \/ c = 56 \/ c = 57 by omega) with e | e | e | e | e | e | e | e | e | e <;> subst e <;> decide
theorem tx_zero:tx 0 = Str.ofString "0":=by rfl
theorem fg_zero {n:Int} (h:n ≠ 0):(fg n).cps.toList[0]? ≠ some 48:=by
 rw [fg_list]
 exact dg_head _ (by omega)
theorem log_ok {n:Int} (h:n.natAbs < 10 ^ 60):n.natAbs.log2 < 1920:=by
 by_cases z:n.natAbs = 0
 ·rw [z]; decide
 ·rw [Nat.log2_lt z]
  exact Nat.lt_trans h (by decide +kernel)
end TX
namespace L2
open PySem PySem.Spec PyProof.Rows
noncomputable def TrD (h base:Heap) (e:Addr) (p:Value × Option Addr) (fl:Value):Prop :=
 ∃ oe vs T oT ts,h.get? e = some oe /\ (oe.cls,oe.dict) = p /\ oe.data = .fields vs /\ vs[1]? = some (.ref T) /\ base.get? T = none /\ T ≠ e /\ h.get? T = some oT /\ oT.data = .fields ts /\ ts[3]? = some fl
structure FlD (base:Heap) (l:List Env) (e:Addr) (p:Value × Option Addr) (fl:Value) (h:Heap):Prop where
 st:base.StaysIn h
 nw:base.get? e = none
 fr:h.FunFrames base l
 tr:TrD h base e p fl
theorem FlD.there {base h:Heap} {l:List Env} {e:Addr} {p:Value × Option Addr} {fl:Value} (x:FlD base l e p fl h):∃ ob vs,h.get? e = some ob /\ ob.cls = p.1 /\ ob.dict = p.2 /\ ob.data = .fields vs:=by
 obtain ⟨oe,vs,_,_,_,g1,g2,g3,_⟩:=x.tr
 exact ⟨oe,vs,g1,congrArg Prod.fst g2,congrArg Prod.snd g2,g3⟩
theorem mapF_dict (f:Array Value -> Array Value) (o:Obj):(Obj.mapFields f o).dict = o.dict:=by
 unfold Obj.mapFields
 split <;> rfl
section
variable {M:Model} {A:Around} {E:Value -> Shared -> Prop} {s:Shared} {base:Heap} {env:Env} {outer:List Env} {L e:Addr} {p:Value × Option Addr} {Q:Unit -> Shared -> Prop}
theorem entry_new {oe:Obj} {vs:Array Value} {head:Value} {b:Bool} (hfr:A.frames = some (env :: outer)) (hl:s.heap.FunFrames base (env :: outer)) (hf:env.frame = some L) (he:s.heap.get? e = some oe)
  (hk:base.StaysIn s.heap) (hn:base.get? e = none) (hd:oe.data = .fields vs) (hz:1 < vs.size)
  (h:∀ h',FlD base (env :: outer) e (oe.cls,oe.dict) (rawInt L) h' -> s.heap.UpToSlots h' -> Q () { s with heap:=h' }) :
  wpAny M A (do let a <- frameOf env; let pl <- entryPlaceOf L b; let t <- EntryCells.newEntry head a .none (rawInt L) .none pl; setField (.ref e) 1 t) Q E s:=by
 have ne:e ∉ (env :: outer).filterMap (·.frame):=fun z=>by
  obtain ⟨_,o,ho,nf⟩:=hl.mem z
  rw [he] at ho; cases ho
  exact nf vs hd
 have nr:∀ c o,s.heap.get? c = some o -> (∀ ws,o.data ≠ .fields ws) -> c ≠ e:=fun c o hc nf z=>by
  rw [z,he] at hc; cases hc
  exact nf vs hd
 refine wpAny_bind (wpAny_frameOf_fun hfr hl hf fun h1 k1=>wpAny_bind (wpAny_entryPlaceOf fun pl hpl=>?_))
 have e1:h1.get? e = some oe:=(k1.2.1 e ne).trans he
 have b1:base.StaysIn h1:=fun c o hc=>(k1.2.1 c fun z=>by rw [(hl.mem z).1] at hc; cases hc).trans (hk c o hc)
 unfold EntryCells.newEntry newFields
 refine wpAny_bind (wpAny_newObj_type ?_ (hpl.sizeOk5 _ _ _ _ _))
 generalize eO:({ cls:=.type "traceback",dict:=none,data:=.fields ([head,.ref L,.none,rawInt L,.none] ++ (if pl.isEmpty then List.replicate 6 Value.none else pl)).toArray }:Obj) = oN
 have dN:oN.data = .fields ([head,.ref L,.none,rawInt L,.none] ++ (if pl.isEmpty then List.replicate 6 Value.none else pl)).toArray:=by rw [<- eO]
 have fN:oN.isFreed = false:=by rw [<- eO]; rfl
 have nT:h1.objs.size ≠ e:=Nat.ne_of_gt (Heap.lt_size e1)
 have e2:=Heap.get?_push_of_some oN e1
 have d3:=Obj.data_mapFields hd (·.setIfInBounds 1 (Value.ref h1.objs.size))
 refine wpAny_setField e2 hd hz (h _ ?_ fun c o hc nf=>?_)
 ·refine ⟨fun c o hc=>?_,hn,hl.of_keeps fun c o hc nf=>?_,?_⟩
  ·rw [Heap.get?_update_other _ _ (fun z=>by rw [<- z,hn] at hc; cases hc)]
   exact Heap.get?_push_of_some _ (b1 c o hc)
  ·obtain ⟨sl,q⟩:=k1.2.2 c o hc
   exact ⟨_,(Heap.get?_update_other _ _ (Ne.symm (nr c o hc nf))).trans (Heap.get?_push_of_some _ q),rfl⟩
  ·refine ⟨_,_,h1.objs.size,oN,_,Heap.get?_update_self _ e2 (Obj.isFreed_of_fields d3),by rw [Obj.cls_mapFields,mapF_dict],d3,by simp [hz],b1.fresh,nT,?_,dN,by first | (simp; done) | (rcases hpl with rfl | ⟨_,_,_,_,_,_,_,rfl⟩ <;> simp)⟩
   rw [Heap.get?_update_other _ _ (Ne.symm nT)]
   exact Heap.get?_push_size h1 fN
 ·obtain ⟨sl,q⟩:=k1.2.2 c o hc
  exact ⟨sl,(Heap.get?_update_other _ _ (Ne.symm (nr c o hc nf))).trans (Heap.get?_push_of_some _ q)⟩
theorem note_first {oe:Obj} {vs:Array Value} (hfr:A.frames = some (env :: outer)) (hl:s.heap.FunFrames base (env :: outer)) (hf:env.frame = some L) (he:s.heap.get? e = some oe)
  (hk:base.StaysIn s.heap) (hn:base.get? e = none) (hd:oe.data = .fields vs) (h1:vs[1]? = some .none)
  (h:∀ h',FlD base (env :: outer) e (oe.cls,oe.dict) (rawInt L) h' -> s.heap.UpToSlots h' -> Q () { s with heap:=h' }):wpAny M A (noteFrame (.ref e) env) Q E s:=by
 unfold noteFrame
 simp only [hf]
 refine wpAny_bind (wpAny_field he hd h1 ?_)
 rw [if_neg (by decide)]
 exact entry_new hfr hl hf he hk hn hd (Array.getElem?_eq_some_iff.mp h1).1 h
theorem note_next (hfr:A.frames = some (env :: outer)) (hf:env.frame = some L) (x:FlD base (env :: outer) e p .none s.heap)
  (h:∀ h',FlD base (env :: outer) e p (rawInt L) h' -> s.heap.UpToSlots h' -> Q () { s with heap:=h' }):wpAny M A (noteFrame (.ref e) env) Q E s:=by
 obtain ⟨st,nw,fr,oe,vs,T,oT,ts,g1,g2,g3,g4,g5,g6,g7,g8,g9⟩:=x
 subst g2
 have ot:∀ c,c ≠ T -> (s.heap.update T (Obj.mapFields (·.setIfInBounds 3 Value.none))).get? c = s.heap.get? c:=fun c n=>Heap.get?_update_other _ _ (Ne.symm n)
 have nr:∀ c o,s.heap.get? c = some o -> (∀ ws,o.data ≠ .fields ws) -> c ≠ T:=fun c o hc nf z=>by
  rw [z,g7] at hc; cases hc
  exact nf ts g8
 unfold noteFrame
 simp only [hf]
 refine wpAny_bind (wpAny_field g1 g3 g4 ?_)
 rw [if_pos (show (Value.ref T != Value.none) = true from by simp)]
 refine wpAny_bind (wpAny_field g7 g8 g9 ?_)
 rw [if_neg (show ¬ ((Value.none == rawInt L) = true) from by simp [rawInt])]
 refine wpAny_bind (wpAny_setField g7 g8 (Array.getElem?_eq_some_iff.mp g9).1 ?_)
 refine entry_new hfr (fr.of_keeps fun c o hc nf=>⟨o,(ot c (nr c o hc nf)).trans hc,rfl⟩) hf ((ot e (Ne.symm g6)).trans g1) (fun c o hc=>(ot c fun z=>by rw [z,g5] at hc; cases hc).trans (st c o hc)) nw g3 (Array.getElem?_eq_some_iff.mp g4).1 fun h' y u=>h h' y fun c o hc nf=>u c o ((ot c (nr c o hc nf)).trans hc) nf
theorem flight_none {l:List Env} {fl:Value} (x:FlD base l e p fl s.heap) (h:∀ h',FlD base l e p .none h' -> s.heap.UpToSlots h' -> Q () { s with heap:=h' }):wpAny M A (setFlight (.ref e) none) Q E s:=by
 obtain ⟨st,nw,fr,oe,vs,T,oT,ts,g1,g2,g3,g4,g5,g6,g7,g8,g9⟩:=x
 have hz:3 < ts.size:=(Array.getElem?_eq_some_iff.mp g9).1
 have ot:∀ c,c ≠ T -> (s.heap.update T (Obj.mapFields (·.setIfInBounds 3 ((none:Option Addr).elim Value.none fun f=>rawInt f)))).get? c = s.heap.get? c:=fun c n=>Heap.get?_update_other _ _ (Ne.symm n)
 have nr:∀ c o,s.heap.get? c = some o -> (∀ ws,o.data ≠ .fields ws) -> c ≠ T:=fun c o hc nf z=>by
  rw [z,g7] at hc; cases hc
  exact nf ts g8
 unfold setFlight
 refine wpAny_bind (wpAny_field g1 g3 g4 ?_)
 rw [if_pos (show (Value.ref T != Value.none) = true from by simp)]
 refine wpAny_setField g7 g8 hz (h _ ⟨fun c o hc=>(ot c fun z=>by rw [z,g5] at hc; cases hc).trans (st c o hc),nw,fr.of_keeps fun c o hc nf=>⟨o,(ot c (nr c o hc nf)).trans hc,rfl⟩,?_⟩ fun c o hc nf=>⟨o.slots,(ot c (nr c o hc nf)).trans hc⟩)
 exact ⟨oe,vs,T,_,_,(ot e (Ne.symm g6)).trans g1,g2,g3,g4,g5,g6,Heap.get?_update_self _ g7 (Obj.isFreed_of_fields (Obj.data_mapFields g8 _)),Obj.data_mapFields g8 _,by simp [hz]⟩
theorem leave_first {oe:Obj} {vs:Array Value} (hfr:A.frames = some (env :: outer)) (hl:s.heap.FunFrames base (env :: outer)) (hf:env.frame = some L) (he:s.heap.get? e = some oe)
  (hk:base.StaysIn s.heap) (hn:base.get? e = none) (hd:oe.data = .fields vs) (h1:vs[1]? = some .none)
  (h:∀ h',FlD base (env :: outer) e (oe.cls,oe.dict) .none h' -> s.heap.UpToSlots h' -> Q () { s with heap:=h' }):wpAny M A (leaving env (.ref e)) Q E s :=
 wpAny_bind (note_first hfr hl hf he hk hn hd h1 fun h' x u=>flight_none (s:={ s with heap:=h' }) x fun h2 y v=>h h2 y (u.trans v))
theorem leave_next (hfr:A.frames = some (env :: outer)) (hf:env.frame = some L) (x:FlD base (env :: outer) e p .none s.heap)
  (h:∀ h',FlD base (env :: outer) e p .none h' -> s.heap.UpToSlots h' -> Q () { s with heap:=h' }):wpAny M A (leaving env (.ref e)) Q E s :=
 wpAny_bind (note_next hfr hf x fun h' x u=>flight_none (s:={ s with heap:=h' }) x fun h2 y v=>h h2 y (u.trans v))
end
end L2
namespace L2
open PySem PySem.Spec PyProof.Rows
noncomputable def excI (K:PySem.W.Frag) (C f:Addr):Bool:=match K.lookup C with
 | some ⟨.type "type",_,.cls cd,sl⟩=>(match cd.mro,sl.toList with
   | .ref C' :: bm,[_,_,_,_,some (.builtin n),_]=>C' == C && n == "ValueError.__new__" && !cd.hasDel && cd.hasDict && PySem.W.tailIn K mroV bm && PySem.W.nsOkIn K cd.ns && PySem.W.nsIn K cd.ns "__init__" == some (some (.ref f))
   | _,_=>false)
 | _=>false
theorem ns_some_of {K:PySem.W.Frag} {h:Heap} {N:Addr} {mg:Str -> Option Value} {n:Str} {v:Value} (X:K.In h) (G:h.Ns N mg) (e:PySem.W.nsIn K N n = some (some v)):mg n = some v:=by
 obtain ⟨o,es,ep,ho,hd,_,hf⟩:=G
 unfold PySem.W.nsIn at e
 split at e
 ·rename_i c d es' n' sl q
  have:=X _ _ q
  rw [ho] at this
  cases this
  cases hd
  split at e
  ·rename_i x he
   cases e
   rw [<- hf]
   unfold nsFind findBy
   rw [<- Array.find?_toList,he]
   rfl
  ·split at e <;> cases e
 ·cases e
theorem excI_obj {K:PySem.W.Frag} {h:Heap} {C f:Addr} (X:K.In h) (q:excI K C f = true):∃ bm N nm qn bs sn sub ab col dd k0 k1 k2 k3 k5 mN,K.lookup C = some (excClassObj nm qn C N bs bm true sn sub ab col dd k0 k1 k2 k3 k5 "ValueError.__new__") /\ h.Ns N mN /\ mN "__init__" = some (.ref f) /\ OwnTail h mroV bm:=by
 unfold excI at q
 split at q
 ·rename_i dd cd sl ho
  split at q
  ·rename_i C' bm k0 k1 k2 k3 i k5 e1 e2
   simp only [Bool.and_eq_true,beq_iff_eq,Bool.not_eq_true'] at q
   obtain ⟨⟨⟨⟨⟨⟨z1,z2⟩,z3⟩,z7⟩,z4⟩,z5⟩,z6⟩:=q
   cases cd with
   | mk nm bs mro ns qn hd sn sub ab col del =>
    simp only at e1 z3 z5 z6 z7
    subst e1 z1 z2 z3 z7
    cases sl with
    | mk l =>
     simp only at e2
     subst e2
     exact ⟨bm,ns,nm,qn,bs,sn,sub,ab,col,dd,k0,k1,k2,k3,k5,_,ho,.of_isNs (PySem.W.isNs_of_in X z5),ns_some_of X (.of_isNs (PySem.W.isNs_of_in X z5)) z6,PySem.W.tail_of_in X z4⟩
  ·cases q
 ·cases q
section
variable {prog:Program} {w:World} {A:Around} {E:Value -> Shared -> Prop} {h:Heap} {g:Array GenState} {d:Drawn} {t:Nat} {os:OsState}
variable {nm q:Str} {C N:Addr} {bs bm:List Value} {hdct:Bool} {sn:List Str} {sub:List Value} {ab:Bool} {col:Option Bool} {dd:Option Addr} {k0 k1 k2 k3 k5:Option Value}
theorem type_call_init (T:OwnTail h mroV bm) {mN:Str -> Option Value} {rest:List Value} {fI:Addr} {oI:Obj} {Q:PySem.Fin -> Shared -> Prop}
  (hC:h.get? C = some (excClassObj nm q C N bs bm hdct sn sub ab col dd k0 k1 k2 k3 k5 "ValueError.__new__")) (hn:h.Ns N mN) (hi:mN "__init__" = some (.ref fI)) (hfI:h.get? fI = some oI) (hfc:oI.cls = .type "function") (hrest:rest.length <= sizeLine)
  (hq:∀ h' e,Heap.MadeExcOf h h' e (.ref C) rest -> wpAny (model prog w) A (call (.ref fI) (.ref e :: rest)) (fun r s'=>r = .none /\ Q (.done (.ret (.ref e))) s') E ⟨h',g,d,t,os⟩) :
  wpAny (model prog w) A (Builtin.«type.__call__» ⟨.ref C :: rest,[]⟩) Q E ⟨h,g,d,t,os⟩:=by
 have FB:=PySem.F.excBase_ValueError
 repeat (first | with_reducible refine wpAny_loadPart_at hC ?_ | with_reducible refine wpAny_madeBy_exc hC ?_ | wp_step)
 refine codeAny_call_builtin_code (Code.quiet_builtin _ FB.quiet) (wpAny_check_new_subT FB T hC (codeAny_exc_new_subT FB T hC ?_ hrest))
 show wpAny _ _ _ _ _ _
 have kp:∀ b o,h.get? b = some o -> ((h.push { cls:=.type "tuple",data:=.seq rest.toArray }).push { cls:=.ref C,data:=.fields #[.ref h.objs.size,.none,.none,.none,.bool false,.none] }).get? b = some o:=fun b o z=>Heap.get?_push_of_some _ (Heap.get?_push_of_some _ z)
 have e1:=kp _ _ hC
 have e2:=kp _ _ hfI
 have e3:=hn.keeps kp
 have T1:=T.keeps kp
 have e4:((h.push { cls:=.type "tuple",data:=.seq rest.toArray }).push { cls:=.ref C,data:=.fields #[.ref h.objs.size,.none,.none,.none,.bool false,.none] }).get? (h.objs.size + 1) = some
   { cls:=.ref C,data:=.fields #[.ref h.objs.size,.none,.none,.none,.bool false,.none] }:=by heap_get
 have cc:(Value.ref C :: bm).contains (.ref C) = true:=by simp
 unfold isInstance
 repeat (first | with_reducible refine wpAny_loadPart_at e4 ?_ | (with_reducible refine wpAny_isSubtype_exc e1 ?_; rw [cc]) | wp_step)
 show wpAny _ _ (typeLookup (.ref C) _) _ _ _
 refine wpAny_typeLookup_tail e1 e3 T1 FB.mroIs FB.init.lookup ?_
 rw [hi]
 refine wpAny_holding (wpAny_bind ?_)
 unfold bindSpecial
 refine wpAny_bind (wpAny_typeOf (T:="function") ⟨_,e2,hfc⟩ ?_)
 rw [if_pos (by decide)]
 refine wpAny_pure (wpAny_bind (wpAny_mono (hq _ (h.objs.size + 1) ⟨kp,Heap.get?_none_of_le (Nat.le_succ _),h.objs.size,e4,Heap.get?_none_of_le (Nat.le_refl _),Heap.get?_push_of_some _ (Heap.get?_push_at rfl rfl)⟩) (fun r s' hr=>?_) fun _ _ z=>z))
 obtain ⟨rfl,hQ⟩:=hr
 wp_walk
 exact hQ
theorem make_init (T:OwnTail h mroV bm) {mN:Str -> Option Value} {rest:List Value} {fI:Addr} {oI:Obj} {Q:Value -> Shared -> Prop}
  (hC:h.get? C = some (excClassObj nm q C N bs bm hdct sn sub ab col dd k0 k1 k2 k3 k5 "ValueError.__new__")) (hn:h.Ns N mN) (hi:mN "__init__" = some (.ref fI)) (hfI:h.get? fI = some oI) (hfc:oI.cls = .type "function") (hrest:rest.length <= sizeLine)
  (hq:∀ h' e,Heap.MadeExcOf h h' e (.ref C) rest -> wpAny (model prog w) (A.under (.builtin "type.__call__" ⟨.ref C :: rest,[]⟩)) (call (.ref fI) (.ref e :: rest)) (fun r s'=>r = .none /\ Q (.ref e) s') E ⟨h',g,d,t,os⟩) :
  wpAny (model prog w) A (call (.ref C) rest) Q E ⟨h,g,d,t,os⟩:=by
 have u1:=tc_lookup
 have u2:=tc_bind (.ref C)
 have hT:(⟨h,g,d,t,os⟩:Shared).TypeIs (.ref C) "type":=⟨_,hC,rfl⟩
 refine wpAny_call (codeAny_of_tree ?_)
 show wpAny _ _ (callAny (.ref C) _) _ _ _
 repeat (any_goals (first | assumption | with_reducible refine wpAny_loadPart_at hC ?_ | wp_step))
 refine ⟨rfl,codeAny_call_builtin_at (Code.quiet_builtin _ (by decide +kernel)) entry_typeCall (wpAny_check_type_call_sub hC (type_call_init T hC hn hi hfI hfc hrest fun h' e hm=>?_))⟩
 exact hq h' e hm
end
end L2
namespace L2
open PySem PySem.Spec PyProof.Rows
noncomputable abbrev exN (e C:Addr):HO:=.ext fun h=>∃ t,h.get? e = some { cls:=.ref C,data:=.fields #[.ref t,.none,.none,.none,.bool false,.none] }
noncomputable abbrev exL (e C dx:Addr):HO:=.ext fun h=>∃ t,h.get? e = some { cls:=.ref C,dict:=some dx,data:=.fields #[.ref t,.none,.none,.none,.bool false,.none] }
structure IniB (K:PySem.W.Frag) (B:Addr):Prop where
 rd:PySem.W.readsIn K B (.type "type") = true
 fd:PySem.W.findCls K (.ref B) (.type "type") "__init__" = some (.val (.builtin "ValueError.__init__"))
 ga:PySem.W.specialIn K (.ref B) "__getattribute__" = some (some (.builtin "type.__getattribute__"))
theorem upd_self {H:Hp} {a:Addr} {o:HO} (h:H a = some o):upd H a o = H:=by
 funext b
 by_cases z:b = a
 ·subst z; rw [upd_same,h]
 ·rw [upd_ne z]
section
variable {prog:Program} {w:World} {A:Around} {E:Value -> Shared -> Prop} {h:Heap} {g:Array GenState} {d:Drawn} {t:Nat} {os:OsState} {K:PySem.W.Frag} {C f x t0:Addr}
theorem base_init {v:Value} {Q:Value -> Shared -> Prop} (X:K.In h) (hI:excI K C f = true) (hx:h.get? x = some { cls:=.ref C,data:=.fields #[.ref t0,.none,.none,.none,.bool false,.none] })
  (hq:∀ h' t1,(∀ b o,b ≠ x -> h.get? b = some o -> h'.get? b = some o) -> h'.get? x = some { cls:=.ref C,data:=.fields #[.ref t1,.none,.none,.none,.bool false,.none] } -> Q .none ⟨h',g,d,t,os⟩) :
  wpAny (model prog w) A (call (.builtin "ValueError.__init__") [.ref x,v]) Q E ⟨h,g,d,t,os⟩:=by
 have FB:=PySem.F.excBase_ValueError
 obtain ⟨bm,N,nm,qn,bs,sn,sub,ab,col,dd,k0,k1,k2,k3,k5,mN,e1,e2,e3,T⟩:=excI_obj X hI
 have hxs:x < h.objs.size:=Heap.lt_size hx
 refine wpAny_call (codeAny_call_builtin FB.init.plain FB.initEntry (wpAny_check_init_subT FB T (X _ _ e1) hx rfl ?_))
 wp_walk
 refine hq _ h.objs.size (fun b o n hb=>?_) ?_
 ·rw [Heap.get?_update_other _ _ (Ne.symm n)]
  exact Heap.get?_push_of_some _ hb
 ·rw [Heap.get?_update_self _ (Heap.get?_push_of_some _ hx) rfl]
  rfl
theorem look_qI {n:Str} {y:Option Value} {Q:Option Value -> Shared -> Prop} (X:K.In h) (hI:excI K C f = true) (hq:qIn K C n = true) (hB:typeLookup (.type "ValueError") n = pure y) (q:Q y ⟨h,g,d,t,os⟩) {M:Model}:wpAny M A (typeLookup (.ref C) n) Q E ⟨h,g,d,t,os⟩:=by
 have hv:lookupAlong mroV n = pure y:=by rw [typeLookup_eq,PySem.F.excBase_ValueError.mroIs] at hB; exact hB
 obtain ⟨bm,N,nm,qn,bs,sn,sub,ab,col,dd,k0,k1,k2,k3,k5,mN,e1,e2,e3,T⟩:=excI_obj X hI
 unfold qIn at hq
 rw [e1] at hq
 simp only [Bool.and_eq_true,beq_iff_eq] at hq
 rw [typeLookup_eq]
 refine wpAny_bind (wpAny_mroOf_exc (X _ _ e1) ?_)
 rw [lookupAlong_cons]
 refine wpAny_bind (wpAny_classOwn_cls (X _ _ e1) (.of_isNs (PySem.W.isNs_of_in X hq.1.2)) ?_)
 rw [PySem.W.nsMap_none_of_in X hq.1.2 hq.2]
 exact along_q X hv q hq.1.1
theorem refuse_tail {h:Heap} {bm:List Value} (T:OwnTail h mroV bm) (self:Value):refuseLoop self "__setattr__" bm = pure ():=by
 induction T with
 | base=>exact PySem.F.store_ValueError.passes self
 | own _ _ _ _ ih=>rw [refuseLoop_ref]; exact ih
open Builtin Builtin.ObjectAttr in
theorem set_entry {name:Str} {v:Value} {tk:Tok} {Q:PySem.Fin -> Shared -> Prop} (X:K.In h) (hI:excI K C f = true) (q1:qIn K C name = true) (hB:typeLookup (.type "ValueError") name = pure none)
  (hx:h.get? x = some { cls:=.ref C,data:=.fields #[.ref t0,.none,.none,.none,.bool false,.none] })
  (hq:∀ h' tk' dx,h.objs.size <= dx -> (∀ b o,b ≠ x -> h.get? b = some o -> h'.get? b = some o) -> h'.get? x = some { cls:=.ref C,dict:=some dx,data:=.fields #[.ref t0,.none,.none,.none,.bool false,.none] } ->
    h'.Ns1 dx (fun y=>if y = name then some v else none) -> Q (.done (.ret .none)) ⟨h',g,d,tk',os⟩) :
  wpAny (model prog w) A (Builtin.«object.__setattr__» ⟨[.ref x,.str name tk,v],[]⟩) Q E ⟨h,g,d,t,os⟩:=by
 obtain ⟨bm,N,nm,qn,bs,sn,sub,ab,col,dd,k0,k1,k2,k3,k5,mN,e1,e2,e3,T⟩:=excI_obj X hI
 have hC:=X _ _ e1
 have hpass:=refuse_tail T (.ref x)
 have hxs:x ≠ h.objs.size:=Nat.ne_of_lt (Heap.lt_size hx)
 obtain ⟨o,ho⟩:∃ o:Obj,o = { cls:=.ref C,data:=.fields #[.ref t0,.none,.none,.none,.bool false,.none] }:=⟨_,rfl⟩
 have hc:o.cls = .ref C:=by rw [ho]
 have hdn:o.dict = none:=by rw [ho]
 have hdt:o.data = .fields #[.ref t0,.none,.none,.none,.bool false,.none]:=by rw [ho]
 have hsl:o.slots = #[]:=by rw [ho]
 rw [<- ho] at hx
 clear ho
 unfold Builtin.«object.__setattr__»
 repeat (first | rw [refuse_eq] | (rw [refuseLoop_ref,hpass]) | (with_reducible refine wpAny_loadPart_at hx ?_; rw [hc]) | with_reducible refine wpAny_mroOf_exc hC ?_ | with_reducible refine look_qI X hI q1 hB ?_ | wp_step)
 rw [hdn,if_neg (by simp [typeHasDict])]
 split
 ·rename_i z
  cases z
 split
 ·rename_i c z
  rw [hdt] at z
  cases z
 refine wpAny_bind (wpAny_alloc' ?_)
 refine wpAny_bind (wpAny_update' (Heap.get?_push_of_some _ hx) ?_)
 refine wpAny_pure ?_
 have hnd:((h.push { cls:=.type "dict",data:=.dict #[] }).update x fun o=>{ cls:=o.cls,dict:=some h.objs.size,data:=o.data,slots:=o.slots }).Ns h.objs.size (fun _=>none) :=
  ⟨_,#[],_,(Heap.get?_update_ne _ _ _ _ hxs.symm).trans (Heap.get?_push_at rfl rfl),rfl,fun e he=>absurd he (by simp),fun _=>rfl⟩
 show wpAny _ _ (storeInDict h.objs.size (.str name tk) name v) _ _ _
 unfold storeInDict newKeyGuard
 refine wpAny_bind (wpAny_pure (wpAny_bind (wpAny_nsSet1 (Heap.Ns1.of_empty hnd) fun h' hn' hs=>?_)))
 obtain ⟨oD,esD,epD,hoD,hdD,hcD⟩:=hn'.count (Within.cons name v Within.nil)
 refine wpAny_bind (wpAny_lookBehind hoD (by rw [hdD]; exact pastItsLine_dict (Nat.le_trans hcD (by rw [List.length_cons,List.length_nil,sizeLine_eq]; omega))) ?_)
 wp_walk
 refine hq h' _ h.objs.size (Nat.le_refl _) (fun b o n hb=>?_) ?_ hn'
 ·exact (hs.2 b (Nat.ne_of_lt (Heap.lt_size hb))).trans ((Heap.get?_update_ne _ _ _ _ n).trans (Heap.get?_push_of_some _ hb))
 ·refine (hs.2 x hxs).trans ((Heap.get?_update_self _ (Heap.get?_push_of_some _ hx) ?_).trans ?_)
  ·obtain ⟨oc,od,odt,osl⟩:=o
   simp only at hdt
   subst hdt
   rfl
  ·rw [hc,hdt,hsl]
end
end L2
namespace L2
open PySem PySem.Spec PyProof.Rows
section
variable {prog:Program} {w:World} {A:Around} {E:Value -> Shared -> Prop} {h:Heap} {g:Array GenState} {d:Drawn} {t:Nat} {os:OsState} {K:PySem.W.Frag} {C f x t0:Addr}
theorem set_line {name:Str} {v:Value} {Q:Unit -> Shared -> Prop} (X:K.In h) (hI:excI K C f = true) (q1:qIn K C name = true) (q2:qIn K C "__setattr__" = true) (hB:typeLookup (.type "ValueError") name = pure none)
  (hx:h.get? x = some { cls:=.ref C,data:=.fields #[.ref t0,.none,.none,.none,.bool false,.none] })
  (hq:∀ h' tk' dx,h.objs.size <= dx -> (∀ b o,b ≠ x -> h.get? b = some o -> h'.get? b = some o) -> h'.get? x = some { cls:=.ref C,dict:=some dx,data:=.fields #[.ref t0,.none,.none,.none,.bool false,.none] } ->
    h'.Ns1 dx (fun y=>if y = name then some v else none) -> Q () ⟨h',g,d,tk',os⟩):wpAny (model prog w) A (setAttr (.ref x) name v) Q E ⟨h,g,d,t,os⟩:=by
 have SF:=PySem.F.store_ValueError
 obtain ⟨bm,N,nm,qn,bs,sn,sub,ab,col,dd,k0,k1,k2,k3,k5,mN,e1,e2,e3,T⟩:=excI_obj X hI
 have hC:=X _ _ e1
 have f3:=SF.slot.bind (.ref x)
 have cb:(Value.ref C :: bm).contains (.type "object") = true:=by rw [List.contains_cons,T.hasType (b:=true) (by decide)]; rfl
 obtain ⟨o,ho⟩:∃ o:Obj,o = { cls:=.ref C,data:=.fields #[.ref t0,.none,.none,.none,.bool false,.none] }:=⟨_,rfl⟩
 have hc:o.cls = .ref C:=by rw [ho]
 have hx0:=hx
 rw [<- ho] at hx
 clear ho
 have chk:∀ {M:Model} {A:Around} {E:Value -> Shared -> Prop} {tk:Nat} {nameV:Value} {Q:Unit -> Shared -> Prop},Q () ⟨h,g,d,tk,os⟩ -> wpAny M A (checkBuiltinCall "object.__setattr__" ⟨[.ref x,nameV,v],[]⟩) Q E ⟨h,g,d,tk,os⟩:=fun {M A E tk nameV Q} hq=>by
  have ha:=SF.args (.ref x) nameV v
  simp only [checkBuiltinCall,SF.kind,SF.split]
  refine wpAny_bind ?_
  unfold isInstance
  repeat (first | (with_reducible refine wpAny_loadPart_at hx ?_; rw [hc]) | (with_reducible refine wpAny_isSubtype_exc hC ?_; rw [cb]) | wp_step)
  exact hq
 unfold setAttr callSpecial? specialOf
 repeat (any_goals (first | assumption | (with_reducible refine wpAny_loadPart_at hx ?_; rw [hc]) | with_reducible refine look_qI X hI q2 SF.slot.lookup ?_ | wp_step))
 refine codeAny_call_builtin SF.slot.plain SF.entry (chk (set_entry X hI q1 hB hx0 fun h' tk' dx z1 z2 z3 z4=>?_))
 repeat (any_goals (first | assumption | wp_step))
 exact hq h' tk' dx z1 z2 z3 z4
end
noncomputable def tIniB (K:PySem.W.Frag) (t:TA):TE:=fun σ H Q=>t σ H fun vs H1=>∃ e C f x,vs = [.ref e,x] /\ H1 e = some (exN e C) /\ excI K C f = true /\ Q .non H1
noncomputable def sSetL (K:PySem.W.Frag) (ta tv:TE) (n:Str):TS:=fun D σ H=>tv σ H fun y H1=>ta σ H1 fun x H2=>∃ e C f,x = .ref e /\ H2 e = some (exN e C) /\ excI K C f = true /\ qIn K C n = true /\ qIn K C "__setattr__" = true /\ typeLookup (.type "ValueError") n = pure none /\
 ∀ dx,H2 dx = none -> dx ≠ e -> D.nx σ (upd (upd H2 dx (.xd [(n,y)])) e (exL e C dx))
theorem upd_comm {H:Hp} {a b:Addr} {o u:HO} (h:a ≠ b):upd (upd H a o) b u = upd (upd H b u) a o:=by
 funext c
 by_cases z:c = b
 ·subst z; rw [upd_same,upd_ne (Ne.symm h),upd_same]
 ·rw [upd_ne z]
  by_cases y:c = a
  ·subst y; rw [upd_same,upd_same]
  ·rw [upd_ne y,upd_ne y,upd_ne z]
section
variable {X:Cx} {pins:List (Addr × Obj)} {σ:St} {H:Hp} {s:Shared}
theorem exN_at {e C:Addr} (I:Inv X pins σ H s) (h:H e = some (exN e C)):∃ t,s.heap.get? e = some { cls:=.ref C,data:=.fields #[.ref t,.none,.none,.none,.bool false,.none] }:=by
 obtain ⟨q,_⟩:=(show ObjOk X.prog X.w H s.heap e (exN e C) from I.hok e _ h)
 exact q
variable {b n:Str} {B:Addr} {e1 o value:Expr} {es:List Expr} {ta tv:TE} {t:TA} {p apos pos pos':Pos}
theorem pe_initB {pl:Sem Bool} (hg:Gl X b) (hm:X.mg b = some (.ref B)) (hB:IniB X.K B) (ha:PA X (e1 :: es) t) (hdb:(b == ("__debug__":Str)) = false:=by decide) (he:starEach (e1 :: es) X.env = (false,eval e1 X.env) :: starEach es X.env:=by rfl) (hpl:(backTo pos (starEach es X.env)).any (·.1) = false:=by rfl)
  (ht:eval (.Call (.Attribute (.Name b p) "__init__" apos) (e1 :: es) [] pos) X.env = (do
    let ov <- eval (.Name b p) X.env
    standAt apos.atName
    let (f,first) <- holding [ov] (getMethod ov "__init__" pl)
    callWith pos f first (backTo pos (starEach (e1 :: es) X.env)) (backToKw pos (keywordEach [] X.env))):=by rfl) :
  PE X (.Call (.Attribute (.Name b p) "__init__" apos) (e1 :: es) [] pos) (tIniB X.K t):=by
 intro pins s σ H Q I h
 refine PySem.W.methodCall_KW (pl:=pl) (ld_glob I hg hm ?_ hdb) ht
 refine PySem.W.method_cls I.kIn hB.ga (PySem.W.cls_value I.kIn hB.rd hB.fd (by rfl) ?_)
 have I0:=I.tok (s.toks + 1)
 refine PyProof.Rows.callWith_builtin1 (thn (ha pos pins _ σ H _ I0 h) fun us s1 ⟨vs,H1,I1,r1,q1⟩=>?_) he hpl
 obtain ⟨e,C,f,x,rfl,hH,hI,q⟩:=q1
 obtain ⟨u1,u2,rfl,r1,r2⟩:=vals2 r1
 cases r1
 obtain ⟨t0,hx⟩:=exN_at I1 hH
 obtain ⟨hp,g,d,tk,os⟩:=s1
 refine base_init I1.kIn hI hx fun h' t1 k1 k2=>⟨.non,H1,?_,rfl,q⟩
 have:=I1.write (x:=e) (e:=e) (o:=exN e C) (h':=h') (t':=tk) (by rw [hH]; exact True.intro) (.inl rfl) (fun b o n z=>k1 b o n z) ⟨_,k2⟩ ⟨⟨t1,k2⟩,⟨_,k2⟩,fun h1 h2 ⟨t,z⟩ k=>⟨t,k _ z⟩⟩
 rw [upd_self hH] at this
 exact this
theorem ps_setL (ha:PE X o ta) (hv:PE X value tv) (hs:swapsWith value (some (.Attribute o n pos')) pos.line X.env = pure false):PS X (.Assign [.Attribute o n pos'] value pos) (sSetL X.K ta tv n):=by
 intro pins s σ H D I h
 refine plainObj_wpAny_Assign_Attribute (thn (hv pins s σ H _ I h) fun u s1 ⟨y,H1,I1,ry,q⟩=>thn (ha pins s1 σ H1 _ I1 q) fun ov s2 ⟨x,H2,I2,rx,e,C,f,ex,hH,hI,q1,q2,q3,q4⟩=>?_) hs
 subst ex
 obtain rfl:ov = Value.ref e:=rx
 obtain ⟨t0,hx⟩:=exN_at I2 hH
 obtain ⟨hp,g,d,tk,os⟩:=s2
 refine set_line I2.kIn hI q1 q2 q3 hx fun h' tk' dx z1 z2 z3 z4=>?_
 have ne:dx ≠ e:=fun z=>Nat.lt_irrefl _ (Nat.lt_of_lt_of_le (Heap.lt_size hx) (z ▸ z1))
 have nx:H2 dx = none:=I2.hok.fresh z1
 refine ⟨σ,_,?_,q4 dx nx ne⟩
 have W:=I2.write (x:=e) (e:=e) (o:=exL e C dx) (h':=h') (t':=tk') (by rw [hH]; exact True.intro) (.inl rfl) (fun b o n z=>z2 b o n z) ⟨_,z3⟩ ⟨⟨t0,z3⟩,⟨_,z3⟩,fun h1 h2 ⟨t,z⟩ k=>⟨t,k _ z⟩⟩
 have old:∀ b o,hp.get? b = some o -> b ≠ dx:=fun b o z y=>Nat.lt_irrefl _ (Nat.lt_of_lt_of_le (Heap.lt_size z) (y ▸ z1))
 rw [upd_comm ne]
 refine W.track (by rw [upd_ne ne]; exact nx) ?_ ?_ (fun x c z y=>?_) (fun p hp' y=>?_) ⟨_,z4,fun m=>?_⟩
 ·cases z:X.s₀.heap.get? dx with
  | none=>rfl
  | some o=>exact absurd (Nat.lt_of_lt_of_le (Heap.lt_size z) (Nat.le_trans I2.sz z1)) (Nat.lt_irrefl _)
 ·exact fun z=>Nat.lt_irrefl _ (Nat.lt_of_lt_of_le I2.lt (z ▸ z1))
 ·obtain ⟨v,o,z5,_⟩:=I2.cell x c z
  exact old c o z5 y
 ·exact old p.1 _ (I2.pin p hp').1 y
 ·show RelO (List.lookup m [(n,y)]) (if m = n then some u else none)
  by_cases z:m = n
  ·rw [if_pos z]
   have hb:(m == n) = true:=beq_iff_eq.mpr z
   simp only [List.lookup,hb]
   exact ry
  ·rw [if_neg z]
   have hb:(m == n) = false:=beq_eq_false_iff_ne.mpr z
   simp only [List.lookup,hb]
   exact True.intro
end
end L2
namespace L2
open PySem PySem.Spec PyProof.Rows
section
variable {prog:Program} {w:World} {A:Around} {E:Value -> Shared -> Prop} {s:Shared} {env:Env} {K:PySem.W.Frag} {C f:Addr}
theorem raise_made {x:Sem Value} {Q:Flow -> Shared -> Prop} (hI:excI K C f = true) (hh:A.handled = none)
  (h:wpAny (model prog w) A x (fun v s1=>∃ e dx t,v = .ref e /\ K.In s1.heap /\ s1.heap.get? e = some { cls:=.ref C,dict:=some dx,data:=.fields #[.ref t,.none,.none,.none,.bool false,.none] } /\ E (.ref e) s1) E s) :
  wpAny (model prog w) A (raiseStmt env (some x) none) Q E s:=by
 unfold raiseStmt
 refine wpAny_bind (wpAny_mono h (fun v s1 h1=>?_) fun _ _ z=>z)
 obtain ⟨e,dx,t,rfl,X,he,hE⟩:=h1
 obtain ⟨bm,N,nm,qn,bs,sn,sub,ab,col,dd,k0,k1,k2,k3,k5,mN,e1,e2,e3,T⟩:=excI_obj X hI
 have hC:=X _ _ e1
 have cb:(Value.ref C :: bm).contains (.type "BaseException") = true:=by rw [List.contains_cons,T.hasType (b:=true) (by decide)]; rfl
 obtain ⟨hp,g,d,tk,os⟩:=s1
 repeat (first | with_reducible refine wpAny_loadPart_at he ?_ | with_reducible refine wpAny_loadPart_at hC ?_ | (with_reducible refine wpAny_isSubtype_exc hC ?_; rw [cb]) | wp_step)
 exact wpAny_raiseNew_none hh hE
theorem Raise_init {x:Str} {np cpos pos:Pos} {args:List Expr} {Q:Flow -> Shared -> Prop} (hI:excI K C f = true) (hh:A.handled = none) (hplain:(backTo cpos (starEach args env)).any (·.1) = false)
  (h:wpAny (model prog w) A (eval (.Name x np) env) (fun v s1=>v = .ref C /\ wpAny (model prog w) A (evalArgs (.ref C) true (backTo cpos (starEach args env)) [])
    (fun a s2=>a.kw = [] /\ K.In s2.heap /\ wpAny (model prog w) A (call (.ref C) a.pos) (fun v s3=>∃ e dx t,v = .ref e /\ K.In s3.heap /\ s3.heap.get? e = some { cls:=.ref C,dict:=some dx,data:=.fields #[.ref t,.none,.none,.none,.bool false,.none] } /\ E (.ref e) s3) E s2) E s1) E s) :
  wpAny (model prog w) A (exec (.Raise (some (.Call (.Name x np) args [] cpos)) none pos) env) Q E s:=by
 rw [arm_exec_Raise]
 first
  | refine wpAny_bind (wpAny_standAt (raise_made hI hh (wpAny_bind (wpAny_mono (wpAny_Call_ofName (wpAny_mono h (fun v s1 h1=>?_) fun _ _ z=>z)) (fun v s3 h3=>wpAny_bind (wpAny_standAt (wpAny_pure h3))) fun _ _ z=>z))))
  | (simp only [evalOpt,Option.map]; refine wpAny_bind (wpAny_standAt (raise_made hI hh (wpAny_bind (wpAny_mono (wpAny_Call_ofName (wpAny_mono h (fun v s1 h1=>?_) fun _ _ z=>z)) (fun v s3 h3=>wpAny_bind (wpAny_standAt (wpAny_pure h3))) fun _ _ z=>z)))))
  | (refine wpAny_bind (wpAny_standAt (raise_made hI hh ?_)); refine wpAny_bind (wpAny_mono (wpAny_Call_ofName (wpAny_mono h (fun v s1 h1=>?_) fun _ _ z=>z)) (fun v s3 h3=>wpAny_bind (wpAny_standAt (wpAny_pure h3))) fun _ _ z=>z))
 obtain ⟨rfl,h1⟩:=h1
 unfold callWith
 refine wpAny_bind (wpAny_holding (wpAny_mono h1 (fun a s2 h2=>wpAny_bind (wpAny_standAt ?_)) fun _ _ z=>z))
 obtain ⟨apos,akw⟩:=a
 obtain ⟨hkw,X,h2⟩:=h2
 obtain rfl:akw = []:=hkw
 obtain ⟨bm,N,nm,qn,bs,sn,sub,ab,col,dd,k0,k1,k2,k3,k5,mN,e1,e2,e3,T⟩:=excI_obj X hI
 obtain ⟨hp,g,d,tk,os⟩:=s2
 simp only [hplain]
 refine wpAny_bind (wpAny_keeperOf_exc (X _ _ e1) ?_)
 refine wpAny_bind (wpAny_mono h2 (fun v s3 h3=>wpAny_bind (wpAny_holding (wpAny_point (wpAny_pure h3)))) fun _ _ z=>z)
end
noncomputable def spIni (C:Addr):Sp:=fun vs H Q _=>∃ e y x,vs = [.ref e,y,x] /\ H e = some (exN e C) /\ ∀ dx,H dx = none -> dx ≠ e -> Q .non (upd (upd H dx (.xd [("line",y)])) e (exL e C dx))
structure CalI (P:Program) (w:World) (K:PySem.W.Frag) (mg:Str -> Option Value) (base:Heap) (k:Nat) (C:Addr):Prop where
 ex:∃ (f:Addr) (fd:FuncData) (oI:Obj),FnOk P w K mg base CX0 k f fd ["self","line","words"] (spIni C) /\ excI K C f = true /\ K.lookup f = some oI /\ oI.cls = .type "function" /\ Binds K fd ["self","line","words"] []
noncomputable def FlewL (h:Heap) (a T:Addr) (p:Value × Option Addr):Prop:=∃ oe vs oT ts,h.get? a = some oe /\ (oe.cls,oe.dict) = p /\ oe.data = .fields vs /\ vs[1]? = some (.ref T) /\ T ≠ a /\ h.get? T = some oT /\ oT.data = .fields ts /\ ts[3]? = some .none
noncomputable def CXL (P:Program) (w:World):CXT:=fun outer H s E e s'=>∃ (a T dx:Addr) (C:Value) (H':Hp),e = .ref a /\ s'.os = s.os /\ AllBare s'.gens /\ Un (frs outer) [] H H' s.heap s'.heap /\ HOk P w H' s'.heap /\
 s.heap.get? a = none /\ s.heap.get? T = none /\ H' a = none /\ H' T = none /\ FlewL s'.heap a T (C,some dx) /\ E C (some dx) H'
section
variable {X:Cx} {pins:List (Addr × Obj)} {σ:St} {H:Hp} {s:Shared}
theorem Inv.untrack {a:Addr} {φ:Heap -> Prop} (I:Inv X pins σ (upd H a (.ext φ)) s) (na:H a = none):Inv X pins σ H s:=by
 have sub:∀ {b u},upd H a (.ext φ) b = some u -> (∀ ψ,u ≠ .ext ψ) -> H b = some u:=fun {b u} e n=>by
  by_cases z:b = a
  ·subst z; rw [upd_same] at e; cases e; exact absurd rfl (n φ)
  ·rw [upd_ne z] at e; exact e
 have non:∀ {b},upd H a (.ext φ) b = none -> H b = none:=fun {b} e=>by
  by_cases z:b = a
  ·subst z; exact na
  ·rw [upd_ne z] at e; exact e
 have ne:∀ {b u},H b = some u -> b ≠ a:=fun e=>ne_of_none e na
 refine ⟨I.ok,I.os,I.bare,⟨I.base.keep,I.base.slot,fun b u e n hx=>non (I.base.free b u e n hx),I.base.there,fun b xs e=>sub (I.base.tups b xs e) (fun ψ z=>by cases z),fun b u v e=>sub (I.base.frzs b u v e) (fun ψ z=>by cases z),fun b ps e=>?_⟩,I.loc,I.cell,non I.free,fun x c e=>non (I.freeC x c e),fun p hp=>?_,fun b u e=>?_,I.len⟩
 ·obtain ⟨more,z⟩:=I.base.tbls b ps e
  exact ⟨more,sub z (fun ψ z=>by cases z)⟩
 ·obtain ⟨z1,z2,z3⟩:=I.pin p hp
  exact ⟨z1,non z2,z3⟩
 ·refine (I.hok b u (by rw [upd_ne (ne e)]; exact e)).stay (fun _ _ _ z=>z) (fun c z=>sub z (fun ψ z=>by cases z)) fun c xs z=>sub z (fun ψ z=>by cases z)
theorem leaves_excL {e C dx:Addr} (I:Inv X pins σ (upd H e (exL e C dx)) s) (na:H e = none) (f0:X.s₀.heap.get? e = none) (hst:X.stack = X.env :: X.outer) (hfr:X.env.frame = some X.env.locals) (hex:X.ex = []) {E:XK} (q:E (.ref C) (some dx) H) {M:Model} {E':Value -> Shared -> Prop} :
  wpAny M X.A (leaving X.env (.ref e)) (fun _ s2=>CXL X.prog X.w X.outer X.H₀ X.s₀ E (.ref e) s2) E' s:=by
 have J:=I.untrack na
 have hF:=J.stack
 have nex:∀ b,b ∉ X.ex:=fun b z=>by rw [hex] at z; cases z
 have sub:∀ b,b ∈ X.fs -> b ∈ frs X.stack:=fun b z=>by rw [hst]; unfold frs; rw [List.filterMap_cons,hfr]; exact List.mem_cons_of_mem _ z
 have hin:∀ env ∈ X.env :: X.outer,∀ b,env.frame = some b -> b ∈ frs X.stack:=fun env he b hb=>by rw [hst]; exact List.mem_filterMap.mpr ⟨env,he,hb⟩
 obtain ⟨⟨t,he⟩,_⟩:=(show ObjOk X.prog X.w _ s.heap e (exL e C dx) from I.hok e _ upd_same)
 have ef:e ∉ frs X.stack:=fun z=>by
  obtain ⟨_,o',z',nf⟩:=hF.mem z
  rw [he] at z'
  cases z'
  exact nf _ rfl
 refine leave_first (base:=PySem.W.hideAll s.heap (e :: frs X.stack)) (by rw [J.ok.frames,hst]) (PySem.W.funFrames_hide (hst ▸ hF) fun env h b hb=>List.mem_cons_of_mem _ (hin env h b hb)) hfr he (fun b o z=>PySem.W.of_hideAll _ z) (PySem.W.hideAll_none _ List.mem_cons_self) rfl rfl fun h' fl up=>?_
 obtain ⟨k1,k2,k3,oe,vs,T,oT,ts,g1,g2,g3,g4,g5,g6,g7,g8,g9⟩:=fl
 have kept:∀ b o,s.heap.get? b = some o -> b ≠ e -> b ∉ frs X.stack -> h'.get? b = some o:=fun b o z n nb=>k1 b o (PySem.W.hideAll_get _ z fun y=>by
   rcases List.mem_cons.mp y with y | y
   · exact n y
   · exact nb y)
 have slot:∀ b o,s.heap.get? b = some o -> b ∈ frs X.stack -> (∃ sl,h'.get? b = some { o with slots:=sl }) /\ ∀ vs,o.data ≠ .fields vs:=fun b o z hb=>by
  obtain ⟨_,o',z',nf⟩:=hF.mem hb
  rw [z] at z'
  cases z'
  exact ⟨up b o z nf,nf⟩
 have fT:s.heap.get? T = none:=by
  cases z:s.heap.get? T with
  | none=>rfl
  | some o =>
   exfalso
   by_cases hb:T ∈ frs X.stack
   ·obtain ⟨⟨sl,y⟩,nf⟩:=slot T o z hb
    rw [g7] at y
    cases y
    exact nf ts g8
   ·have:=PySem.W.hideAll_get (e :: frs X.stack) z fun y=>by
     rcases List.mem_cons.mp y with y | y
     ·exact g6 y
     ·exact hb y
    rw [g5] at this
    cases this
 have old:∀ b,s.heap.get? b = none -> X.s₀.heap.get? b = none:=fun b z=>by
  cases y:X.s₀.heap.get? b with
  | none=>rfl
  | some o =>
   obtain ⟨o',y'⟩:=J.base.there b o y (nex b)
   rw [z] at y'
   cases y'
 have nE:∀ b o,X.s₀.heap.get? b = some o -> b ≠ e:=fun b o y z=>by rw [z,f0] at y; cases y
 have neL:∀ b o,X.s₀.heap.get? b = some o -> b ∉ X.fs -> b ∉ frs X.stack:=fun b o y nb z=>by
  rcases List.mem_cons.mp (J.stkSub b z) with z | z
  ·exact Nat.ne_of_lt (Nat.lt_of_lt_of_le (Heap.lt_size y) J.ok.above) z
  ·exact nb z
 refine ⟨e,T,dx,.ref C,H,rfl,J.os,J.bare,⟨fun b o y n nb _=>?_,fun b o y n hb _=>?_,fun b o y n _=>J.base.free b o y n (nex b),fun b o y _=>?_,J.base.tups,J.base.frzs,J.base.tbls⟩,fun b u y=>?_,f0,old T fT,na,J.hok.gone fT,⟨oe,vs,oT,ts,g1,g2,g3,g4,g6,g7,g8,g9⟩,q⟩
 ·exact kept b o (J.base.keep b o y n nb (nex b)) (nE b o y) (neL b o y nb)
 ·obtain ⟨sl,y1⟩:=J.base.slot b o y n hb (nex b)
  obtain ⟨⟨sl2,y2⟩,_⟩:=slot b _ y1 (sub b hb)
  exact ⟨sl2,y2⟩
 ·obtain ⟨o',y1⟩:=J.base.there b o y (nex b)
  by_cases hb:b ∈ frs X.stack
  ·obtain ⟨⟨sl2,y2⟩,_⟩:=slot b _ y1 hb
   exact ⟨_,y2⟩
  ·exact ⟨_,kept b _ y1 (nE b o y) hb⟩
 ·refine (J.hok b u y).stay (fun c v hc z=>kept c v z ?_ fun hb=>?_) (fun _ z=>z) fun _ _ z=>z
  ·rcases hc with rfl | hc
   ·exact ne_of_none y na
   ·exact ne_of_none hc na
  ·have fr:=J.stkFree c hb
   rcases hc with rfl | hc
   ·rw [y] at fr; cases fr
   ·rw [hc] at fr; cases fr
end
noncomputable def tRaiseL (C:Addr) (E:XK) (t:TA):TS:=fun _ σ H=>t σ H fun vs H1=>∃ y x,vs = [y,x] /\ ∀ dx,H1 dx = none -> E (.ref C) (some dx) (upd H1 dx (.xd [("line",y)]))
section
variable {X:Cx} {x:Str} {C:Addr} {E:XK} {k:Nat} {np cpos pos:Pos} {e1:Expr} {es:List Expr} {ta:TA}
theorem ps_raiseL (hxe:∀ e s',wpAny (model X.prog X.w) X.A (leaving X.env e) (fun _ s2=>CXL X.prog X.w X.outer X.H₀ X.s₀ E e s2) (fun e2 s2=>CXL X.prog X.w X.outer X.H₀ X.s₀ E e2 s2) s' -> X.xe e s')
  (hst:X.stack = X.env :: X.outer) (hfr:X.env.frame = some X.env.locals) (hex:X.ex = []) (hc:X.calm = true) (hg:Gl X x) (hm:X.mg x = some (.ref C)) (hC:CalI X.prog X.w X.K X.mg X.base k C) (hr:Room (k + 1) X.A) (ha:PA X (e1 :: es) ta)
  (he:starEach (e1 :: es) X.env = (false,eval e1 X.env) :: starEach es X.env) (hpl:(backTo cpos (starEach es X.env)).any (·.1) = false) (hdb:(x == ("__debug__":Str)) = false:=by decide) :
  PS X (.Raise (some (.Call (.Name x np) (e1 :: es) [] cpos)) none pos) (tRaiseL C E ta):=by
 intro pins s σ H D I h
 obtain ⟨f,fd,oI,F,hI,lk,lc,hb⟩:=hC.ex
 refine Raise_init hI (I.ok.hd hc) (by rw [he]; show (false || (backTo cpos (starEach es X.env)).any (·.1)) = false; rw [hpl]; rfl) (ld_glob I hg hm ⟨rfl,?_⟩ hdb)
 have hA:=ha cpos pins s σ H _ I h
 rw [he] at hA ⊢
 refine Calls.evalArgs_plain (thn hA fun us s2 ⟨vs,H2,I2,r2,q2⟩=>?_)
 obtain ⟨y,z,rfl,q⟩:=q2
 refine ⟨rfl,I2.kIn,?_⟩
 obtain ⟨bm,N,nm,qn,bs,sn,sub,ab,col,dd,k0,k1,k2,k3,k5,mN,e1,e2,e3,T⟩:=excI_obj I2.kIn hI
 have hl:us.length = 2:=r2.length.symm
 obtain ⟨hp,g,d,tk,os⟩:=s2
 refine make_init T (I2.kIn _ _ e1) e2 e3 (I2.kIn _ _ lk) lc (by rw [hl]; decide) fun h' e hm2=>?_
 obtain ⟨t0,g1,g2,g3⟩:=hm2.there
 have hn:hp.get? e = none:=hm2.new
 have ne:H2 e = none:=I2.hok.gone hn
 have I3:Inv X pins σ H2 ⟨h',g,d,tk,os⟩:=I2.kept (t':=tk) hm2.keeps
 have f0:X.s₀.heap.get? e = none:=by
  cases z:X.s₀.heap.get? e with
  | none=>rfl
  | some o =>
   obtain ⟨o',z'⟩:=I2.base.there e o z (by rw [hex]; simp)
   rw [hn] at z'
   cases z'
 have J:Inv X pins σ (upd H2 e (exN e C)) ⟨h',g,d,tk,os⟩:=by
  refine I3.track ne f0 (fun z=>?_) (fun x c z y=>?_) (fun p hp' z=>?_) ⟨⟨t0,g1⟩,⟨_,g1⟩,fun h1 h2 ⟨t,z⟩ k=>⟨t,k _ z⟩⟩
  ·obtain ⟨m,⟨o,_,_,y,_⟩,_⟩:=I2.loc
   rw [<- z,hn] at y
   cases y
  ·obtain ⟨v,o,y1,_⟩:=I2.cell x c z
   rw [y,hn] at y1
   cases y1
  ·have:=(I2.pin p hp').1
   rw [z,hn] at this
   cases this
 have r3:Vals (V.ref e :: [y,z]) (Value.ref e :: us):=.cons rfl r2
 have hq:spIni C [.ref e,y,z] (upd H2 e (exN e C)) (fun v H'=>v = .non /\ ∃ dx,H2 dx = none /\ dx ≠ e /\ H' = upd (upd H2 dx (.xd [("line",y)])) e (exL e C dx)) E0:=by
  refine ⟨e,y,z,rfl,upd_same,fun dx hdx nd=>⟨rfl,dx,by rw [upd_ne nd] at hdx; exact hdx,nd,?_⟩⟩
  rw [upd_comm nd,upd_upd,upd_comm nd]
 have hbb:=hb ⟨h',g,d,tk,os⟩ (.ref e :: us) J.kIn (by rw [List.append_nil,List.length_cons,hl]; rfl)
 rw [List.append_nil] at hbb
 refine wpAny_call (codeAny_mono (F.run _ X.stack _ _ ⟨Value.ref e :: us,[]⟩ (Value.ref e :: us) _ _ E0 (hr.make C us []) (J.env0.make C us []) hbb r3 hq) fun r s' hq'=>?_)
 cases r with
 | error e=>exact False.elim hq'
 | ok fl =>
  cases fl with
  | ret u =>
   obtain ⟨v,H',I4,rv,ev,dx,hdx,nd,rfl⟩:=J.after hq'
   subst ev
   obtain ⟨⟨t1,he1⟩,_⟩:=(show ObjOk X.prog X.w _ s'.heap e (exL e C dx) from I4.hok e _ upd_same)
   exact ⟨rv,e,dx,t1,rfl,I4.kIn,he1,hxe _ _ (leaves_excL I4 (by rw [upd_ne (Ne.symm nd)]; exact ne) f0 hst hfr hex (q dx hdx))⟩
  | next=>exact False.elim hq'
  | brk=>exact False.elim hq'
  | cont=>exact False.elim hq'
end
end L2
namespace L2
open PySem PySem.Spec PyProof.Rows
noncomputable def ExcJ (K:PySem.W.Frag) (C:Addr):Prop:=∃ f,excI K C f = true
section
variable {X:Cx} {pins:List (Addr × Obj)} {σ:St} {H:Hp} {s s':Shared}
theorem Inv.pass {a T:Addr} {C:Value} {dx:Addr} {H':Hp} (I:Inv X pins σ H s) (os:s'.os = s.os) (bare:AllBare s'.gens) (un:Un (frs X.stack) [] H H' s.heap s'.heap) (hok:HOk X.prog X.w H' s'.heap) (fa:s.heap.get? a = none) (fT:s.heap.get? T = none) (na:H' a = none) (nT:H' T = none) :
  s'.heap.FunFrames X.base X.stack /\ ∀ h5:Heap,(PySem.W.hideAll s'.heap (a :: T :: frs X.stack)).StaysIn h5 -> s'.heap.UpToSlots h5 -> Inv X pins σ H' { s' with heap:=h5 }:=by
 have I':Inv X pins σ H' s':=I.call' os un hok bare (ch:=[]) (fun b z=>(by cases z))
 have FF:=I'.stack
 refine ⟨FF,fun h5 st up=>?_⟩
 refine I.back un hok bare os fa fT na nT (fun b o z n1 n2 n3=>st b o (PySem.W.hideAll_get _ z fun y=>?_)) fun b o z hb=>?_
 ·rcases List.mem_cons.mp y with y | y
  ·exact n1 y
  ·rcases List.mem_cons.mp y with y | y
   ·exact n2 y
   ·exact n3 y
 ·obtain ⟨_,o',z',nf⟩:=FF.mem hb
  rw [z] at z'
  cases z'
  exact up b o z nf
theorem fly_of {a T:Addr} {p:Value × Option Addr} (FF:s'.heap.FunFrames X.base X.stack) (fl:FlewL s'.heap a T p):FlD (PySem.W.hideAll s'.heap (a :: T :: frs X.stack)) X.stack a p .none s'.heap:=by
 obtain ⟨oe,vs,oT,ts,g1,g2,g3,g4,g5,g6,g7,g8⟩:=fl
 exact ⟨fun b o z=>PySem.W.of_hideAll _ z,PySem.W.hideAll_none _ List.mem_cons_self,PySem.W.funFrames_hide FF fun env he b hb=>List.mem_cons_of_mem _ (List.mem_cons_of_mem _ (List.mem_filterMap.mpr ⟨env,he,hb⟩)),oe,vs,T,oT,ts,g1,g2,g3,g4,PySem.W.hideAll_none _ (List.mem_cons_of_mem _ List.mem_cons_self),g5,g6,g7,g8⟩
theorem leaves_thruL (I:Inv X pins σ H s) (hst:X.stack = X.env :: X.outer) (hfr:X.env.frame = some X.env.locals) (hex:X.ex = []) {E:XK} {e:Value} (hcx:CXL X.prog X.w X.stack H s E e s') {M:Model} {E':Value -> Shared -> Prop} :
  wpAny M X.A (leaving X.env e) (fun _ s2=>CXL X.prog X.w X.outer X.H₀ X.s₀ E e s2) E' s':=by
 obtain ⟨a,T,dx,C,H',rfl,os,bare,un,hok,fa,fT,na,nT,fl,hEE⟩:=hcx
 obtain ⟨FF,mk⟩:=I.pass (C:=C) (dx:=dx) os bare un hok fa fT na nT
 have I':Inv X pins σ H' s':=I.call' os un hok bare (ch:=[]) (fun b z=>(by cases z))
 have nex:∀ b,b ∉ X.ex:=fun b z=>by rw [hex] at z; cases z
 have old:∀ b,s.heap.get? b = none -> X.s₀.heap.get? b = none:=fun b z=>by
  cases y:X.s₀.heap.get? b with
  | none=>rfl
  | some o =>
   obtain ⟨o',y'⟩:=I.base.there b o y (nex b)
   rw [z] at y'
   cases y'
 have fly:=fly_of FF fl
 have FF':=FF
 rw [hst] at fly
 refine leave_next (by rw [I.ok.frames,hst]) hfr fly fun h5 fly5 up5=>?_
 have I5:=mk h5 (by rw [hst]; exact fly5.st) up5
 obtain ⟨oe',vs',T',oT',ts',q1,q2,q3,q4,q5,q6,q7,q8,q9⟩:=fly5.tr
 have newT:X.s₀.heap.get? T' = none /\ H' T' = none:=by
  by_cases hTT:T' = T
  ·rw [hTT]; exact ⟨old T fT,nT⟩
  cases z:s'.heap.get? T' with
  | none =>
   refine ⟨?_,hok.gone z⟩
   cases y:X.s₀.heap.get? T' with
   | none=>rfl
   | some o =>
    obtain ⟨o',y'⟩:=I'.base.there T' o y (nex T')
    rw [z] at y'
    cases y'
  | some o =>
   exfalso
   by_cases hb:T' ∈ frs X.stack
   ·obtain ⟨_,o',z',nf⟩:=FF'.mem hb
    rw [z] at z'
    cases z'
    obtain ⟨sl,y⟩:=up5 T' o z nf
    rw [q7] at y
    cases y
    exact nf ts' q8
   ·have:=PySem.W.hideAll_get (a :: T :: frs X.stack) z fun y=>by
     rcases List.mem_cons.mp y with y | y
     ·exact q6 y
     ·rcases List.mem_cons.mp y with y | y
      ·exact hTT y
      ·exact hb y
    rw [hst] at this
    rw [q5] at this
    cases this
 have ub:=I5.base
 rw [hex] at ub
 exact ⟨a,T',dx,C,H',rfl,I5.os,bare,ub,I5.hok,old a fa,newT.1,na,newT.2,⟨oe',vs',oT',ts',q1,q2,q3,q4,q6,q7,q8,q9⟩,hEE⟩
theorem caughtL {n b c:Str} {pb pn pc p3 hpos:Pos} {iE iC:Nat} {B:Addr} {E:XK} {D:Ends} {Eo:Value -> Shared -> Prop} {e:Value} (I:Inv X pins σ H s) (hst:X.stack = X.env :: X.outer) (hfr:X.env.frame = some X.env.locals) (hex:X.ex = []) (hN:X.N.Nodup)
  (hiE:X.N[iE]? = some n) (hlE:X.env.scope.names.lookup n = some .local) (hiC:X.N[iC]? = some c) (hlC:X.env.scope.names.lookup c = some .local) (hgb:Gl X b) (hmb:X.mg b = some (.ref B)) (hB:ExcC X.K B) (hcx:CXL X.prog X.w X.stack H s E e s')
  (hE:∀ Cv o H',E Cv o H' -> ∃ C,Cv = .ref C /\ ExcJ X.K C /\ subIn X.K C B = true /\ ∀ dx a,o = some dx -> H' a = none -> D.nx (((σ.set iE (some (.ref a))).set iC (some (.ref a))).set iE none) (upd H' a (excLO a C dx)))
  (hs3:swapsWith (.Name n pn) (some (.Name c pc)) p3.line X.env = pure false:=by rfl) (hdb:(b == ("__debug__":Str)) = false:=by decide) (hd1:(n == ("__debug__":Str)) = false:=by decide) (hd2:(n == ("__classdict__":Str)) = false:=by decide) :
  wpAny (model X.prog X.w) X.A (noteFrame e X.env) (fun _ s2=>wpAny (model X.prog X.w) X.A (setFlight e none) (fun _ s3=>wpAny (model X.prog X.w) X.A (handleBy e X.env [.ExceptHandler (some (.Name b pb)) (some n) [.Assign [.Name c pc] (.Name n pn) p3] hpos]) (SP X pins D) Eo s3) Eo s2) Eo s':=by
 obtain ⟨a,T,dx,Cv,H',rfl,os,bare,un,hok,fa,fT,na,nT,fl,hEE⟩:=hcx
 obtain ⟨C,rfl,⟨fI,hC⟩,hsub,q⟩:=hE _ _ _ hEE
 obtain ⟨FF,mkI⟩:=I.pass (C:=.ref C) (dx:=dx) os bare un hok fa fT na nT
 have fly:=fly_of FF fl
 rw [hst] at fly
 refine note_next (by rw [I.ok.frames,hst]) hfr fly fun h4 held4 up4=>?_
 refine flight_none held4 fun h5 fly5 up5=>?_
 have I5:=mkI h5 (by rw [hst]; exact fly5.st) (up4.trans up5)
 obtain ⟨ob,vsb,hob,hobc,_⟩:=fly5.there
 refine wpAny_handleBy_cons (codeAny_handlers_test (Calls.Name_function_global I5.ok.kind hgb (Calls.loadGlobal_global (by rw [I5.ok.glob]; exact I5.mod.glob.keeps I5.bk) hmb ?_) hdb)) (by intro z; cases z)
 obtain ⟨bm,N,nm,qn,bs,sn,sub,ab,col,dd,k0,k1,k2,k3,k5,mN,e1,e2,e3,e4⟩:=excI_obj I5.kIn hC
 obtain ⟨bm',N',nm',qn',bs',hd',sn',sub',ab',col',dd',l0,l1,l2,l3,l5,mN',f1,f2,f3,f4⟩:=exc_obj I5.kIn hB
 refine excMatches_ref (I5.kIn _ _ e1) (I5.kIn _ _ f1) hob hobc (f4.hasType (by decide)) ((sub_of e1).trans hsub) ?_
 refine codeAny_handlers_suite_as ?_
 refine flight_none fly5 fun h6 fly6 up6=>?_
 have I6:=mkI h6 (by rw [hst]; exact fly6.st) ((up4.trans up5).trans up6)
 have old:X.s₀.heap.get? a = none:=by
  cases y:X.s₀.heap.get? a with
  | none=>rfl
  | some o =>
   obtain ⟨o',y'⟩:=I.base.there a o y (by rw [hex]; simp)
   rw [fa] at y'
   cases y'
 obtain ⟨o6,v6,z1,z2,z4,z3⟩:=fly6.there
 have I7:Inv X pins σ (upd H' a (excLO a C dx)) { s' with heap:=h6 }:=by
  refine I6.track na old (fun z=>?_) (fun x c y z=>?_) (fun p hp z=>?_) ⟨⟨o6,v6,z1,z2,z4,z3⟩,⟨o6,z1⟩,fun h1 h2 ⟨o,v,y1,y2,y3⟩ k=>⟨o,v,k o y1,y2,y3⟩⟩
  ·obtain ⟨m,⟨o,_,_,y,_⟩,_⟩:=I.loc
   rw [<- z,fa] at y
   cases y
  ·obtain ⟨v,o,y1,_⟩:=I.cell x c y
   rw [z,fa] at y1
   cases y1
  ·have:=(I.pin p hp).1
   rw [z,fa] at this
   cases this
 refine store_ok I7 hN hiE (.inl hlE) (v:=.ref a) rfl (fun s8 I8=>?_) (.inr hlE)
 have hi8:(σ.set iE (some (V.ref a)))[iE]? = some (some (V.ref a)):=List.getElem?_set_self (by rw [I.len]; exact (List.getElem?_eq_some_iff.mp hiE).1)
 have P9:=(pss_one (ps_set (X:=X.mk2 (some (.ref a))) (pos:=p3) (pos':=pc) hN hiC (.inl hlC) (pe_var (pos:=pn) hiE (.inl hlE) hd1 hd2) hs3 (.inr hlC))) pins s8 _ _ { nx:=fun σ9 H9=>σ9 = (σ.set iE (some (V.ref a))).set iC (some (V.ref a)) /\ H9 = upd H' a (excLO a C dx),rt:=fun _ _=>False } (I8.mk2 _) ⟨_,hi8,rfl,rfl⟩
 refine wpAny_mono P9 (fun f s9 q9=>?_) (fun _ _ z=>z.elim)
 cases f with
 | next =>
  obtain ⟨σ9,H9,I9,rfl,rfl⟩:=q9
  exact (I9.un2 I.ok.hd).goes hN hiE hlE fun s10 I10=>⟨_,_,I10,q dx a rfl na⟩
 | ret v=>obtain ⟨_,_,_,_,_,z⟩:=q9; exact z.elim
 | brk=>obtain ⟨_,_,_,z⟩:=q9; exact z.elim
 | cont=>obtain ⟨_,_,_,z⟩:=q9; exact z.elim
end
end L2
namespace L2
open PySem PySem.Spec PyProof.Rows
structure ExcQJ (K:PySem.W.Frag) (C:Addr):Prop where
 c:ExcJ K C
 q1:qIn K C "__getattribute__" = true
 q2:qIn K C "__getattr__" = true
 q3:qIn K C "__class__" = true
 q4:qIn K C "line" = true
section
variable {prog:Program} {w:World} {A:Around} {E:Value -> Shared -> Prop} {h:Heap} {g:Array GenState} {d:Drawn} {t:Nat} {os:OsState} {K:PySem.W.Frag} {a C:Addr} {o:Obj}
theorem clsE_getJ {R:Result -> Shared -> Prop} (X:K.In h) (hC:ExcQJ K C) (hx:h.get? a = some o) (hc:o.cls = .ref C) (q:R (.ok (.ret (.ref C))) ⟨h,g,d,t,os⟩) :
  codeAny (model prog w) A (.call (.builtin "getset_descriptor.__get__") ⟨[.builtin "object.__class__",.ref a,.ref C],[]⟩) R ⟨h,g,d,t,os⟩:=by
 have tq:(⟨h,g,d,t,os⟩:Shared).TypeIs (.builtin "object.__class__") "getset_descriptor":=PySem.F.typeOf_object_class
 obtain ⟨fJ,hJ⟩:=hC.c
 obtain ⟨bm,N,nm,qn,bs,sn,sub,ab,col,dd,k0,k1,k2,k3,k5,mN,e1,e2,e3,e4⟩:=excI_obj X hJ
 have cb:(Value.ref C :: bm).contains (.type (".".intercalate ("object.__class__".cutAt '.').dropLast)) = true:=by rw [PySem.F.owner_object_class,List.contains_cons,e4.hasType (b:=true) (by decide)]; rfl
 refine codeAny_call_builtin PySem.F.slot_gs_get.plain PySem.F.entry_gs_get (PySem.F.slot_gs_get.check _ _ _ _ _ _ _ _ tq (PySem.F.args_gs_get _ _ _) ?_)
 repeat (any_goals (first | assumption | (with_reducible refine wpAny_loadPart_at hx ?_; rw [hc]) | (with_reducible refine sub_q X e1 cb ?_) | wp_step))
 refine ⟨Code.quiet_builtin _ (by decide +kernel),codeAny_builtin PySem.F.entry_object_class ?_⟩
 repeat (any_goals (first | assumption | (with_reducible refine wpAny_loadPart_at hx ?_; rw [hc]) | wp_step))
theorem clsE_entryJ {tk:Tok} {Q:Fin -> Shared -> Prop} (X:K.In h) (hC:ExcQJ K C) (hx:h.get? a = some o) (hc:o.cls = .ref C) (q:Q (.done (.ret (.ref C))) ⟨h,g,d,t,os⟩) :
  wpAny (model prog w) A (Builtin.«object.__getattribute__» ⟨[.ref a,.str "__class__" tk],[]⟩) Q E ⟨h,g,d,t,os⟩:=by
 have tq:(⟨h,g,d,t,os⟩:Shared).TypeIs (.builtin "object.__class__") "getset_descriptor":=PySem.F.typeOf_object_class
 have r1:=PySem.F.typeOf_object_class
 obtain ⟨fJ,hJ⟩:=hC.c
 have r2:=PySem.F.slot_gs_get.lookup
 have r3:=PySem.F.slot_gs_set.lookup
 repeat (any_goals (first | assumption | (with_reducible refine wpAny_loadPart_at hx ?_; rw [hc]) | with_reducible refine look_qI X hJ hC.q3 lkV_class ?_ | wp_step))
 refine clsE_getJ X hC hx hc ?_
 repeat (any_goals (first | assumption | wp_step))
theorem clsE_checkJ {M:Model} {v:Value} {Q:Unit -> Shared -> Prop} (X:K.In h) (hC:ExcQJ K C) (hx:h.get? a = some o) (hc:o.cls = .ref C) (q:Q () ⟨h,g,d,t,os⟩):wpAny M A (checkBuiltinCall "BaseException.__getattribute__" ⟨[.ref a,v],[]⟩) Q E ⟨h,g,d,t,os⟩:=by
 obtain ⟨fJ,hJ⟩:=hC.c
 obtain ⟨bm,N,nm,qn,bs,sn,sub,ab,col,dd,k0,k1,k2,k3,k5,mN,e1,e2,e3,e4⟩:=excI_obj X hJ
 have y1:builtinKind "BaseException.__getattribute__" = some .slot:=by decide +kernel
 have y2:splitId "BaseException.__getattribute__" = some ("BaseException","__getattribute__"):=by decide +kernel
 have cb:(Value.ref C :: bm).contains (.type "BaseException") = true:=by rw [List.contains_cons,e4.hasType (b:=true) (by decide)]; rfl
 have y3:=PySem.F.args_bexc_ga (.ref a) v
 simp only [checkBuiltinCall,y1,y2]
 refine wpAny_bind ?_
 unfold isInstance
 repeat (first | (with_reducible refine wpAny_loadPart_at hx ?_; rw [hc]) | (with_reducible refine sub_q X e1 cb ?_) | wp_step)
 exact q
theorem clsE_byJ {tk:Tok} {Q:Value -> Shared -> Prop} {fill:Bool} (X:K.In h) (hC:ExcQJ K C) (hx:h.get? a = some o) (hc:o.cls = .ref C) (q:Q (.ref C) ⟨h,g,d,t,os⟩):wpAny (model prog w) A (getAttrBy (.ref a) (.str "__class__" tk) fill) Q E ⟨h,g,d,t,os⟩:=by
 obtain ⟨fJ,hJ⟩:=hC.c
 have y1:=PySem.F.attrBase_ValueError.ga.bind (.ref a)
 have y2:(Value.builtin "BaseException.__getattribute__" == Value.builtin "object.__getattribute__") = false:=by decide +kernel
 have y3:(onTheHeap (Value.ref C) && Value.builtin "BaseException.__getattribute__" == Value.builtin "object.__getattribute__") = false:=by rw [y2]; rfl
 repeat (any_goals (first | assumption | (with_reducible refine wpAny_loadPart_at hx ?_; rw [hc]) | with_reducible refine look_qI X hJ hC.q1 PySem.F.attrBase_ValueError.ga.lookup ?_ | with_reducible refine look_qI X hJ hC.q2 PySem.F.attrBase_ValueError.noGetattr ?_ | wp_step))
 refine codeAny_call_builtin PySem.F.attrBase_ValueError.ga.plain PySem.F.entry_bexc_ga (clsE_checkJ X hC hx hc (clsE_entryJ X hC hx hc ?_))
 repeat (any_goals (first | assumption | wp_step))
theorem clsE_attrJ {Q:Option Value -> Shared -> Prop} (X:K.In h) (hC:ExcQJ K C) (hx:h.get? a = some o) (hc:o.cls = .ref C) (q:Q (some (.ref C)) ⟨h,g,d,t + 1,os⟩):wpAny (model prog w) A (getAttr? (.ref a) "__class__") Q E ⟨h,g,d,t,os⟩:=by
 unfold getAttr? getAttrBy?
 repeat (any_goals (first | assumption | with_reducible apply clsE_byJ X hC hx hc | wp_step))
end
section
variable {prog:Program} {w:World} {A:Around} {E:Value -> Shared -> Prop} {h:Heap} {g:Array GenState} {d:Drawn} {t:Nat} {os:OsState} {K:PySem.W.Frag} {a C D:Addr} {o:Obj} {b:Bool}
theorem nestEJ {dep:Int} {tk:Tok} {Q:Fin -> Shared -> Prop} (X:K.In h) (hC:ExcQJ K C) (hD:clsIn K D = true) (hb:subIn K C D = b) (hx:h.get? a = some o) (hc:o.cls = .ref C) (q:∀ tk',Q (.done (.ret (.bool b))) ⟨h,g,d,tk',os⟩) :
  wpAny (model prog w) A (Builtin.«isinstance.nested» ⟨[.ref a,.ref D,.int dep tk],[]⟩) Q E ⟨h,g,d,t,os⟩:=by
 obtain ⟨fJ,hJ⟩:=hC.c
 obtain ⟨bm,N,nm,qn,bs,sn,sub,ab,col,dd,k0,k1,k2,k3,k5,mN,e1,e2,e3,e4⟩:=excI_obj X hJ
 obtain ⟨dD,cD,sD,f1⟩:=cls_obj hD
 have cb:(Value.ref C :: bm).contains (.ref D) = b:=(sub_of e1).trans hb
 have hD2:=X _ _ f1
 have hC2:=X _ _ e1
 have r1:=type_sub
 by_cases z:C = D
 ·subst z
  have:b = true:=by rw [<- cb,List.contains_cons]; simp
  subst this
  have ee:(Value.ref C == Value.ref C) = true:=by simp
  have q1:=q t
  repeat (any_goals (first | assumption | (with_reducible refine wpAny_loadPart_at hx ?_; rw [hc]) | wp_step))
 ·have ee:(Value.ref C == Value.ref D) = false:=by simp [z]
  have q1:=q t
  have q2:=q (t + 1)
  cases b with
  | true=>repeat (any_goals (first | assumption | (with_reducible refine wpAny_loadPart_at hx ?_; rw [hc]) | with_reducible refine wpAny_loadPart_at hD2 ?_ | (with_reducible refine sub_q X e1 cb ?_) | wp_step))
  | false=>repeat (any_goals (first | assumption | (with_reducible refine wpAny_loadPart_at hx ?_; rw [hc]) | with_reducible refine wpAny_loadPart_at hD2 ?_ | (with_reducible refine wpAny_loadPart_at hC2 ?_) | (with_reducible refine sub_q X e1 cb ?_) | with_reducible refine clsE_attrJ X hC hx hc ?_ | wp_step))
end
section
variable {prog:Program} {w:World} {A:Around} {E:Value -> Shared -> Prop} {h:Heap} {g:Array GenState} {d:Drawn} {t:Nat} {os:OsState} {K:PySem.W.Frag} {a C D:Addr} {o:Obj} {b:Bool}
theorem nestVJ {dep:Int} {tk:Tok} {Q:Fin -> Shared -> Prop} (X:K.In h) (hC:ExcQJ K C) (hx:h.get? a = some o) (hc:o.cls = .ref C) (q:∀ tk',Q (.done (.ret (.bool true))) ⟨h,g,d,tk',os⟩) :
  wpAny (model prog w) A (Builtin.«isinstance.nested» ⟨[.ref a,.type "ValueError",.int dep tk],[]⟩) Q E ⟨h,g,d,t,os⟩:=by
 obtain ⟨fJ,hJ⟩:=hC.c
 obtain ⟨bm,N,nm,qn,bs,sn,sub,ab,col,dd,k0,k1,k2,k3,k5,mN,e1,e2,e3,e4⟩:=excI_obj X hJ
 have cb:(Value.ref C :: bm).contains (.type "ValueError") = true:=by rw [List.contains_cons,e4.hasType (b:=true) (by decide)]; rfl
 have r1:=typeOf_V
 have ee:(Value.ref C == Value.type "ValueError") = false:=by rfl
 have q1:=q t
 repeat (any_goals (first | assumption | (with_reducible refine wpAny_loadPart_at hx ?_; rw [hc]) | (with_reducible refine sub_q X e1 cb ?_) | wp_step))
end
noncomputable def rIsiEJ (K:PySem.W.Frag):List V -> Hp -> VK -> Prop:=fun xs H Q=>∃ a C D dx:Addr,xs = [.ref a,.ref D] /\ H a = some (excLO a C dx) /\ ExcQJ K C /\ clsIn K D = true /\ Q (.bl (subIn K C D)) H
noncomputable def rIsiEVJ (K:PySem.W.Frag):List V -> Hp -> VK -> Prop:=fun xs H Q=>∃ a C dx:Addr,xs = [.ref a,.ty "ValueError"] /\ H a = some (excLO a C dx) /\ ExcQJ K C /\ Q (.bl true) H
noncomputable def rIsiETJ (K:PySem.W.Frag):List V -> Hp -> VK -> Prop:=fun xs H Q=>∃ (a C p dx:Addr) (Ds:List Addr),xs = [.ref a,.ref p] /\ H a = some (excLO a C dx) /\ H p = some (.tup (Ds.map V.ref)) /\ ExcQJ K C /\ (∀ D ∈ Ds,clsIn K D = true) /\ Q (.bl (Ds.any (subIn K C))) H
section
variable {X:Cx}
theorem exc_atJ {pins:List (Addr × Obj)} {σ:St} {H:Hp} {s:Shared} {a C dx:Addr} (I:Inv X pins σ H s) (h:H a = some (excLO a C dx)):∃ o,s.heap.get? a = some o /\ o.cls = .ref C:=by
 obtain ⟨⟨o,vs,e1,e2,_⟩,_⟩:=(show ObjOk X.prog X.w H s.heap a (excLO a C dx) from I.hok a _ h)
 exact ⟨o,e1,e2⟩
theorem call_isiEJ:CallR X (.builtin "isinstance") (rIsiEJ X.K):=by
 intro pins s σ H xs us Q I r h
 obtain ⟨a,C,D,dx,rfl,hH,hC,hD,q⟩:=h
 obtain ⟨u1,u2,rfl,r1,r2⟩:=vals2 r
 cases r1
 cases r2
 obtain ⟨o,e1,e2⟩:=exc_atJ I hH
 obtain ⟨h,g,d,t,os⟩:=s
 exact call_isinstance_of (nestEJ I.kIn hC hD rfl e1 e2 fun tk'=>⟨.bl _,H,I.tok tk',rfl,q⟩)
theorem call_isiEVJ:CallR X (.builtin "isinstance") (rIsiEVJ X.K):=by
 intro pins s σ H xs us Q I r h
 obtain ⟨a,C,dx,rfl,hH,hC,q⟩:=h
 obtain ⟨u1,u2,rfl,r1,r2⟩:=vals2 r
 cases r1
 cases r2
 obtain ⟨o,e1,e2⟩:=exc_atJ I hH
 obtain ⟨h,g,d,t,os⟩:=s
 exact call_isinstance_of (nestVJ I.kIn hC e1 e2 fun tk'=>⟨.bl _,H,I.tok tk',rfl,q⟩)
theorem refs_ofJ:∀ {Ds:List Addr} {us:List Value},Vals (Ds.map V.ref) us -> us = Ds.map Value.ref
 | [],_,r=>by cases r; rfl
 | D :: Ds,_,r=>by
  cases r with
  | cons r1 r2=>cases r1; rw [refs_ofJ r2]; rfl
theorem ans_allJ {K:PySem.W.Frag} {a C:Addr} {o:Obj} (hC:ExcQJ K C) (hc:o.cls = .ref C):∀ {Ds:List Addr},(∀ D ∈ Ds,clsIn K D = true) -> AnswersAll (fun s=>K.In s.heap /\ s.heap.get? a = some o) (.ref a) (Ds.map Value.ref) (Ds.map (subIn K C))
 | [],_=>trivial
 | D :: Ds,h=>by
  refine ⟨fun _ _ _ _ _ _ s hs=>?_,ans_allJ hC hc fun D hD=>h D (List.mem_cons_of_mem _ hD)⟩
  obtain ⟨hh,g,d,t,os⟩:=s
  exact nestEJ hs.1.1 hC (h D List.mem_cons_self) rfl hs.1.2 hc fun tk'=>hs.2 tk'
theorem call_isiETJ:CallR X (.builtin "isinstance") (rIsiETJ X.K):=by
 intro pins s σ H xs us Q I r h
 obtain ⟨a,C,p,dx,Ds,rfl,hH,hp,hC,hD,q⟩:=h
 obtain ⟨u1,u2,rfl,r1,r2⟩:=vals2 r
 cases r1
 cases r2
 obtain ⟨o,e1,e2⟩:=exc_atJ I hH
 obtain ⟨_,its,rv,oT,f1,f2,n,f3,_⟩:=(show ObjOk X.prog X.w H s.heap p (.tup (Ds.map V.ref)) from I.hok p _ hp)
 have:=refs_ofJ rv
 subst this
 have ne:C ≠ p:=fun z=>by
  obtain ⟨fJ,hJ⟩:=hC.c
  obtain ⟨bm,N,nm,qn,bs,sn,sub,ab,col,dd,k0,k1,k2,k3,k5,mN,g1,_⟩:=excI_obj I.kIn hJ
  have:=I.kIn _ _ g1
  rw [z,f1] at this
  cases this
  exact absurd (Value.type.inj f2) (by decide)
 have hv:(Ds.map (subIn X.K C)).any id = Ds.any (subIn X.K C):=by rw [List.any_map]; rfl
 obtain ⟨h,g,d,t,os⟩:=s
 refine call_isinstance_of (nestT (vs:=Ds.map (subIn X.K C)) (P:=fun s=>X.K.In s.heap /\ s.heap.get? a = some o) (fun _ _ z=>z) e1 e2 ne f1 f2 f3 (ans_allJ hC e2 hD) ⟨I.kIn,e1⟩ fun tk'=>⟨.bl _,H,I.tok tk',rfl,?_⟩)
 rw [hv]
 exact q
end
theorem lkV_line:typeLookup (.type "ValueError") "line" = pure none:=by rw [typeLookup_type,builtinLookup_eq_fast]; kernel_rfl
section
variable {prog:Program} {w:World} {A:Around} {E:Value -> Shared -> Prop} {h:Heap} {g:Array GenState} {d:Drawn} {t:Nat} {os:OsState} {K:PySem.W.Frag} {a C dx:Addr} {o:Obj} {vs:Array Value} {mA:Str -> Option Value} {v:Value}
theorem line_entry {tk:Tok} {Q:PySem.Fin -> Shared -> Prop} (X:K.In h) (hC:ExcQJ K C) (hx:h.get? a = some o) (hc:o.cls = .ref C) (hdd:o.dict = some dx) (hdt:o.data = .fields vs) (hn:h.Ns1 dx mA) (hv:mA "line" = some v) (q:Q (.done (.ret v)) ⟨h,g,d,t,os⟩) :
  wpAny (model prog w) A (Builtin.«object.__getattribute__» ⟨[.ref a,.str "line" tk],[]⟩) Q E ⟨h,g,d,t,os⟩:=by
 obtain ⟨fJ,hJ⟩:=hC.c
 obtain ⟨bm,N,nm,qn,bs,sn,sub,ab,col,dd,k0,k1,k2,k3,k5,mN,e1,e2,e3,e4⟩:=excI_obj X hJ
 have hK:=X _ _ e1
 unfold Builtin.«object.__getattribute__»
 repeat (first | (with_reducible refine wpAny_loadPart_at hx ?_; rw [hc]) | with_reducible refine look_qI X hJ hC.q4 lkV_line ?_ | wp_step)
 split
 ·rename_i c z
  rw [hdt] at z
  cases z
 unfold instanceDict
 repeat (first | (with_reducible refine wpAny_loadPart_at hx ?_; rw [hc]) | with_reducible refine wpAny_loadPart_at hK ?_ | wp_step)
 rw [hdd]
 repeat (first | (with_reducible refine wpAny_nsGet hn.ns ?_; rw [hv]) | wp_step)
 exact q
theorem line_attr {expr:Bool} {Q:Value -> Shared -> Prop} (X:K.In h) (hC:ExcQJ K C) (hx:h.get? a = some o) (hc:o.cls = .ref C) (hdd:o.dict = some dx) (hdt:o.data = .fields vs) (hn:h.Ns1 dx mA) (hv:mA "line" = some v) (hh:handedOut v = pure v) (q:Q v ⟨h,g,d,t + 1,os⟩) :
  wpAny (model prog w) A (getAttr (.ref a) "line" expr) Q E ⟨h,g,d,t,os⟩:=by
 obtain ⟨fJ,hJ⟩:=hC.c
 have y1:=PySem.F.attrBase_ValueError.ga.bind (.ref a)
 have y2:(Value.builtin "BaseException.__getattribute__" == Value.builtin "object.__getattribute__") = false:=by decide +kernel
 have y3:(onTheHeap (Value.ref C) && Value.builtin "BaseException.__getattribute__" == Value.builtin "object.__getattribute__") = false:=by rw [y2]; rfl
 unfold getAttr getAttrBy
 repeat (any_goals (first | assumption | (with_reducible refine wpAny_loadPart_at hx ?_; rw [hc]) | with_reducible refine look_qI X hJ hC.q1 PySem.F.attrBase_ValueError.ga.lookup ?_ | with_reducible refine look_qI X hJ hC.q2 PySem.F.attrBase_ValueError.noGetattr ?_ | wp_step))
 rw [show (expr && onTheHeap (Value.builtin "BaseException.__getattribute__")) = false from Bool.and_false _,if_neg (by decide)]
 unfold boundAndCalled
 repeat (any_goals (first | assumption | wp_step))
 refine codeAny_call_builtin PySem.F.attrBase_ValueError.ga.plain PySem.F.entry_bexc_ga (clsE_checkJ X hC hx hc (line_entry X hC hx hc hdd hdt hn hv ?_))
 repeat (any_goals (first | assumption | wp_step))
 all_goals (first | (rw [hh]; exact wpAny_pure q) | skip)
end
end L2
namespace L2
open PySem PySem.Spec PyProof.Rows
structure CalM (P:Program) (w:World) (K:PySem.W.Frag) (mg:Str -> Option Value) (base:Heap) (k:Nat) (x:Str) (ps:List Str) (sp:Sp):Prop where
 ex:∃ (f:Addr) (fd:FuncData),FnOk P w K mg base (CXL P w) k f fd ps sp /\ mg x = some (.ref f) /\ PySem.W.keepIn K (.ref f) = true /\ Binds K fd ps []
structure InFr (X:Cx) (E:XK):Prop where
 xe:∀ e s',wpAny (model X.prog X.w) X.A (leaving X.env e) (fun _ s2=>CXL X.prog X.w X.outer X.H₀ X.s₀ E e s2) (fun e2 s2=>CXL X.prog X.w X.outer X.H₀ X.s₀ E e2 s2) s' -> X.xe e s'
 st:X.stack = X.env :: X.outer
 fr:X.env.frame = some X.env.locals
 ex:X.ex = []
 ca:X.calm = true
 po:PassesOwn (model X.prog X.w) X.A X.env X.xe
theorem InFr.passes {X:Cx} {E:XK} (Y:InFr X E):Passes (CXL X.prog X.w) X E:=fun _ _ _ _ _ _ I h=>Y.xe _ _ (leaves_thruL I Y.st Y.fr Y.ex h)
theorem in_of {P:Program} {w:World} {K:PySem.W.Frag} {mg:Str -> Option Value} {base:Heap} {N:List Str} {qual:Str} {scope:Scope} {f:Addr} {cd:Value} {A:Around} {outer:List Env} {s:Shared} {H:Hp} {E:XK}:InFr (cxOf (CXL P w) P w K mg base N qual scope f cd A outer s H E) E :=
 ⟨fun _ _ h=>h,rfl,rfl,rfl,rfl,PassesOwn.leaving⟩
theorem PA.nox {X:Cx} {es:List Expr} {t:TA} (h:PA X.nox es t):PA X es t:=fun pos pins s σ H Q I hw=>wpAny_mono (h pos pins s σ H Q (I.wish _) hw) (fun _ _ ⟨vs,H',I',r,q⟩=>⟨vs,H',I'.unwish,r,q⟩) fun _ _ z=>False.elim z
end L2
namespace L3
open PySem PySem.Spec PyProof.Rows L2
noncomputable abbrev ConM:=List Sl -> (Sl -> Ev -> Prop) -> (Int -> Prop) -> Prop
noncomputable def exOk (K:Fg) (C:Addr) (E:XK) (G:Gh) (F:Hp) (Ex:Int -> Prop):Prop:=∀ (n:Int) (σ':L2.St) (H' F':Hp) (ρ':Ev),Ex n -> Sub F F' -> Rel K G F' σ' H' ρ' -> ∀ dx,H' dx = none -> E (.ref C) (some dx) (upd H' dx (.xd [("line",.int n)]))
theorem exOk.mono {K:Fg} {C:Addr} {E:XK} {G:Gh} {F F1:Hp} {Ex:Int -> Prop} (h:exOk K C E G F Ex) (s:Sub F F1):exOk K C E G F1 Ex:=fun n σ' H' F' ρ' x s' R'=>h n σ' H' F' ρ' x (s.trans s') R'
noncomputable def conSpM (K:Fg) (C:Addr) (con:ConM):Sp:=fun vs H Q E=>∃ (G:Gh) (F:Hp) (args:List Sl) (Qd:Sl -> Ev -> Prop) (Ex:Int -> Prop),Rel K G F (vs.map some) H (args.map some) /\ con args Qd Ex /\
 (∀ v H' F' r ρ',Sub F F' -> Rel K G F' (vs.map some) H' ρ' -> Res K G F' H' (vs.map some) ρ' v r -> Qd r ρ' -> Q v H') /\ exOk K C E G F Ex
noncomputable abbrev TDX:=(Int -> Prop) -> TD
noncomputable abbrev TDM:=(Int -> Prop) -> TDS
noncomputable def liftE (K:Fg) (C:Addr) (E:XK) (td:TDX):TE:=fun σ H Q=>∃ (G:Gh) (F:Hp) (ρ:Ev) (Qd:Sl -> Ev -> Prop) (Ex:Int -> Prop),Rel K G F σ H ρ /\ td Ex ρ Qd /\
 (∀ v H' F' r ρ',Sub F F' -> Rel K G F' σ H' ρ' -> Res K G F' H' σ ρ' v r -> Qd r ρ' -> Q v H') /\ exOk K C E G F Ex
noncomputable def liftM (K:Fg) (C:Addr) (E:XK) (ts:TDM):TS:=fun D σ H=>∃ (G:Gh) (F:Hp) (ρ:Ev) (Ed:DE) (Ex:Int -> Prop),Rel K G F σ H ρ /\ ts Ex Ed ρ /\
 (∀ σ' H' F' ρ',Sub F F' -> Rel K G F' σ' H' ρ' -> Ed.nx ρ' -> D.nx σ' H') /\
 (∀ v σ' H' F' r ρ',Sub F F' -> Rel K G F' σ' H' ρ' -> Res K G F' H' σ' ρ' v r -> Ed.rt r ρ' -> D.rt v H') /\
 (∀ σ' H' F' ρ',Sub F F' -> Rel K G F' σ' H' ρ' -> Ed.bk ρ' -> D.bk σ' H') /\
 (∀ σ' H' F' ρ',Sub F F' -> Rel K G F' σ' H' ρ' -> Ed.ct ρ' -> D.ct σ' H') /\ exOk K C E G F Ex
structure WEM (X:Cx) (K:Fg) (C:Addr) (E:XK) (e:Expr) (td:TDX):Prop where
 h:PE X e (liftE K C E td)
structure WM (X:Cx) (K:Fg) (C:Addr) (E:XK) (st:Stmt) (t:TDM):Prop where
 h:PS X st (liftM K C E t)
structure WMs (X:Cx) (K:Fg) (C:Addr) (E:XK) (sts:List Stmt) (t:TDM):Prop where
 h:PSs X sts (liftM K C E t)
noncomputable def mOk (t:TDS):TDM:=fun _ Ed ρ=>t Ed ρ
noncomputable def mSeq (t u:TDM):TDM:=fun Ex Ed ρ=>t Ex { nx:=fun ρ'=>u Ex Ed ρ',rt:=Ed.rt,bk:=Ed.bk,ct:=Ed.ct } ρ
noncomputable def mIf (c:TTD) (t u:TDM):TDM:=fun Ex Ed ρ=>c ρ fun b ρ'=>if b = true then t Ex Ed ρ' else u Ex Ed ρ'
noncomputable def mSet (i:Nat) (td:TDX):TDM:=fun Ex=>dSet i (td Ex)
noncomputable def mDrop (td:TDX):TDM:=fun Ex=>dDrop (td Ex)
noncomputable def mRaise (as:List AD):TDM:=fun Ex _ ρ=>dArgs as ρ fun xs ρ1=>looksQ ρ1 xs fun ds=>∃ (n:Int) (x:D),ds = [.int n,x] /\ Ex n
noncomputable def mCall (con:ConM) (as:List AD):TDX:=fun Ex ρ Q=>dArgs as ρ fun xs ρ1=>looksQ ρ1 xs fun ds=>con (ds.map Sl.fz) (fun r _=>match lentAny ρ1 xs with
  | false=>Q r ρ1
  | true=>noMut r.d = true /\ Q r ρ1) Ex
theorem cutM {t u:TDM} {Ex:Int -> Prop} {E:DE} {ρ:Ev} (J:Ev -> Prop) (h1:∀ N:Ev -> Prop,(∀ ρ',J ρ' -> N ρ') -> t Ex { nx:=N,rt:=E.rt,bk:=E.bk,ct:=E.ct } ρ) (h2:∀ ρ',J ρ' -> u Ex E ρ'):mSeq t u Ex E ρ:=h1 _ h2
section
variable {K:Fg} {C:Addr} {E:XK} {σ:L2.St} {H:Hp} {D:Ends}
theorem laterM {G:Gh} {F F1 H1:Hp} {ρ1:Ev} {σ1:L2.St} {Ed:DE} {Ex:Int -> Prop} {ts:TDM} (s:Sub F F1) (R:Rel K G F1 σ1 H1 ρ1) (w:ts Ex Ed ρ1)
  (n:∀ σ' H' F' ρ',Sub F F' -> Rel K G F' σ' H' ρ' -> Ed.nx ρ' -> D.nx σ' H')
  (r:∀ v σ' H' F' r ρ',Sub F F' -> Rel K G F' σ' H' ρ' -> Res K G F' H' σ' ρ' v r -> Ed.rt r ρ' -> D.rt v H')
  (b:∀ σ' H' F' ρ',Sub F F' -> Rel K G F' σ' H' ρ' -> Ed.bk ρ' -> D.bk σ' H')
  (c:∀ σ' H' F' ρ',Sub F F' -> Rel K G F' σ' H' ρ' -> Ed.ct ρ' -> D.ct σ' H') (x:exOk K C E G F Ex):liftM K C E ts D σ1 H1 :=
 ⟨G,F1,ρ1,Ed,Ex,R,w,fun _ _ _ _ s' R' q=>n _ _ _ _ (s.trans s') R' q,fun _ _ _ _ _ _ s' R' r' q=>r _ _ _ _ _ _ (s.trans s') R' r' q,
   fun _ _ _ _ s' R' q=>b _ _ _ _ (s.trans s') R' q,fun _ _ _ _ s' R' q=>c _ _ _ _ (s.trans s') R' q,x.mono s⟩
theorem l_mok {t:TDS} (h:liftM K C E (mOk t) D σ H):liftS K t D σ H:=by
 obtain ⟨G,F,ρ,Ed,Ex,R,w,n,r,b,c,x⟩:=h
 exact ⟨G,F,ρ,Ed,R,w,n,r,b,c⟩
theorem l_mseq {t u:TDM} (h:liftM K C E (mSeq t u) D σ H):tSeq (liftM K C E t) (liftM K C E u) D σ H:=by
 obtain ⟨G,F,ρ,Ed,Ex,R,w,n,r,b,c,x⟩:=h
 exact ⟨G,F,ρ,_,Ex,R,w,fun σ' H' F' ρ' s R' q=>laterM s R' q n r b c x,r,b,c,x⟩
theorem l_mif {c:TTD} {t u:TDM} (h:liftM K C E (mIf c t u) D σ H):tIfS (liftT K c) (liftM K C E t) (liftM K C E u) D σ H:=by
 obtain ⟨G,F,ρ,Ed,Ex,R,w,n,r,b,c,x⟩:=h
 refine ⟨G,F,ρ,_,R,w,fun y H' F' ρ' s R' q=>?_⟩
 cases y with
 | true=>exact laterM s R' q n r b c x
 | false=>exact laterM s R' q n r b c x
theorem l_mset {i:Nat} {td:TDX} (h:liftM K C E (mSet i td) D σ H):tAsg (liftE K C E td) (gName i) D σ H:=by
 obtain ⟨G,F,ρ,Ed,Ex,R,w,n,r,b,c,x⟩:=h
 refine ⟨G,F,ρ,_,Ex,R,w,fun v H' F' y ρ' s R' r' q=>?_,x⟩
 have hn:=noIo_of q
 exact n _ H' F' _ s (R'.asg hn.1 r') hn.2
theorem l_mdrop {td:TDX} (h:liftM K C E (mDrop td) D σ H):tDrop (liftE K C E td) D σ H:=by
 obtain ⟨G,F,ρ,Ed,Ex,R,w,n,r,b,c,x⟩:=h
 exact ⟨G,F,ρ,_,Ex,R,w,fun v H' F' y ρ' s R' r' q=>n σ H' F' ρ' s R' q,x⟩
theorem l_mraise {as:List AD} (h:liftM K C E (mRaise as) D σ H):tRaiseL C E (tArgs (as.map (argT K))) D σ H:=by
 obtain ⟨G,F,ρ,Ed,Ex,R,w,n,r,b,c,x⟩:=h
 refine args_ok R w fun vs H' F' xs ρ' s R' o q=>?_
 obtain ⟨ds,ha,m,y,rfl,q⟩:=looks_ok R' o q
 obtain ⟨v,u,rfl,h1,h2⟩:=ha.two
 cases h1.int
 exact ⟨_,_,rfl,fun dx hdx=>x m σ H' F' ρ' q s R' dx hdx⟩
theorem l_mcall {con:ConM} {as:List AD} {Q:VK} (h:liftE K C E (mCall con as) σ H Q):tCall (conSpM K C con) [] E (tArgs (as.map (argT K))) σ H Q:=by
 obtain ⟨G,F,ρ,Qd,Ex,R,w,k,x⟩:=h
 refine args_ok R w fun vs H1 F1 xs ρ1 s1 R1 o w1=>?_
 obtain ⟨ds,da,w1⟩:=lend_looks (xs:=xs) R1 (fun y hy=>hy) o w1
 rw [List.append_nil]
 refine ⟨_,_,ds.map Sl.fz,_,Ex,rel_call (lend_le R1) da,w1,fun v H' F' r ρ' s' R' r' q=>?_,fun n σ' H' F' ρ' y s' R' dx hdx=>?_⟩
 ·obtain ⟨sb,R2⟩:=R1.called R'
  have hq:(lentAny ρ1 xs = true -> noMut r.d = true) /\ Qd r ρ1:=by
   split at q
   ·rename_i e; exact ⟨fun z=>(by rw [e] at z; cases z),q⟩
   ·exact ⟨fun _=>q.1,q.2⟩
  exact k v H' _ r ρ1 (s1.trans sb) R2 (Res.called R1 R' r' hq.1) hq.2
 ·obtain ⟨sb,R2⟩:=R1.called R'
  exact x n σ H' _ ρ1 y (s1.trans sb) R2 dx hdx
end
section
variable {X:Cx} {K:Fg} {C:Addr} {E:XK} {st:Stmt} {sts:List Stmt} {t u:TDM} {e e1 tg:Expr} {es:List Expr} {as:List AD} {tc:TTD} {x:Str} {k:Nat} {ps:List Str} {con:ConM} {p pos pos' np cpos apos:Pos} {td:TDX}
theorem m_ok {t:TDS} (h:WS X.nox st (liftS K t)):WM X K C E st (mOk t):=⟨fun pins s σ H D I w=>(PS.nox h.h) pins s σ H D I (l_mok w)⟩
theorem ms_one (h:WM X K C E st t):WMs X K C E [st] t:=⟨pss_one h.h⟩
theorem ms_cons (h:WM X K C E st t) (h2:WMs X K C E sts u):WMs X K C E (st :: sts) (mSeq t u):=⟨fun pins s σ H D I w=>(pss_cons h.h h2.h) pins s σ H D I (l_mseq w)⟩
theorem ms_nil:WMs X K C E [] (mOk dNext):=⟨fun pins s σ H D I w=>pss_nil pins s σ H D I (l_next (l_mok w))⟩
theorem m_if {sa sb:List Stmt} (hc:WT X.nox e (liftT K tc)) (ha:WMs X K C E sa t) (hb:WMs X K C E sb u):WM X K C E (.If e sa sb pos) (mIf tc t u):=⟨fun pins s σ H D I w=>(ps_if (PT.nox hc.h) ha.h hb.h) pins s σ H D I (l_mif w)⟩
theorem m_raise (Y:InFr X E) (hm:X.mg x = some (.ref C)) (hC:CalI X.prog X.w X.K X.mg X.base k C) (hr:Room (k + 1) X.A) (ha:WA X.nox (e1 :: es) (tArgs (as.map (argT K)))) (hg:Gl X x:=by rfl) (he:notStar e1 = true:=by rfl) (hpl:es.all notStar = true:=by rfl) (hdb:(x == ("__debug__":Str)) = false:=by decide) :
  WM X K C E (.Raise (some (.Call (.Name x np) (e1 :: es) [] cpos)) none pos) (mRaise as):=⟨fun pins s σ H D I w=>(ps_raiseL Y.xe Y.st Y.fr Y.ex Y.ca hg hm hC hr (PA.nox ha.h) (starEach_of he) (plain_of hpl) hdb) pins s σ H D I (l_mraise w)⟩
theorem m_fn (Y:InFr X E) (hK:X.K = K) (cal:CalM X.prog X.w X.K X.mg X.base k x ps (conSpM K C con)) (hr:Room k X.A) (ha:WA X.nox (e1 :: es) (tArgs (as.map (argT K)))) (hg:Gl X x:=by rfl) (hdb:(x == ("__debug__":Str)) = false:=by decide) (he:notStar e1 = true:=by rfl) (hpl:es.all notStar = true:=by rfl) :
  WEM X K C E (.Call (.Name x p) (e1 :: es) [] pos) (mCall con as):=by
 subst hK
 obtain ⟨f,fd,F,hm,hk,hb⟩:=cal.ex
 exact ⟨fun pins s σ H Q I w=>pe_call F hr hg hm hk hb .nil Y.passes (PA.nox ha.h) hdb (starEach_of he) (plain_of hpl) pins s σ H Q I (l_mcall w)⟩
theorem m_set {i:Nat} (hN:X.N.Nodup) (hi:X.N[i]? = some x) (hx:Loc X.env.scope x) (he:WEM X K C E e td) (hs:notComp e = true:=by rfl) (hf:X.fn x = true \/ X.env.scope.names.lookup x = some .local:=by first | exact .inl rfl | exact .inr rfl | assumption):WM X K C E (.Assign [.Name x pos'] e pos) (mSet i td) :=
 ⟨fun pins s σ H D I w=>(ps_set hN hi hx he.h (swaps_of hs) hf) pins s σ H D I (l_mset w)⟩
theorem m_expr (he:WEM X K C E e td) (hs:notComp e = true:=by rfl):WM X K C E (.Expr e pos) (mDrop td):=⟨fun pins s σ H D I w=>(ps_expr he.h (swaps_of hs)) pins s σ H D I (l_mdrop w)⟩
end
section
variable {P:Program} {w:World} {K:Fg} {mg:Str -> Option Value} {base:Heap}
theorem wfnM {x qual:Str} {st:Stmt} {f:Addr} {fd:FuncData} {N ps:List Str} {k:Nat} {con:ConM} {ts:TDM} {C:Addr} (F:Fun K x qual st f fd) (S:FnScope N ps (defScope st))
  (hb:∀ (cdv:Value) (A:Around) (outer:List Env) (s:Shared) (H:Hp) (E:XK),Room k (A.deeper (envOfC qual (defScope st) s.heap.objs.size f cdv)) -> InFr (cxOf (CXL P w) P w K mg base N qual (defScope st) f cdv A outer s H E) E -> WMs (cxOf (CXL P w) P w K mg base N qual (defScope st) f cdv A outer s H E) K C E (defBody st) ts)
  (hl:∀ args Qd Ex,con args Qd Ex -> args.length = ps.length) (hc:∀ args Qd Ex,con args Qd Ex -> (∀ s ∈ args,∀ d,s ≠ .ow d) /\ ts Ex (endsOf args Qd) (startE N.length args)):FnOk P w K mg base (CXL P w) (k + 1) f fd ps (conSpM K C con):=by
 obtain ⟨oc,od,kV,doc,pm,an,cdv,ct,osl,rfl,lk,hcd⟩:=F.ex
 refine fn_of lk hcd S (fun vs H Q E h=>?_) fun A outer s H vs Q E hr hsp=>?_
 ·obtain ⟨G,F',args,Qd,Ex,R,w',_⟩:=h
  have h1:=hl args Qd Ex w'
  have h2:=R.len
  rw [List.length_map,List.length_map] at h2
  rw [h2,h1]
 ·refine ⟨_,(hb cdv A outer s H E hr in_of).h,?_⟩
  obtain ⟨G,F',args,Qd,Ex,R,w',k',x⟩:=hsp
  obtain ⟨hn,w2⟩:=hc args Qd Ex w'
  refine ⟨G,F',_,_,Ex,R.start,w2,fun σ' H' F2 ρ' s R' q=>?_,fun v σ' H' F2 r ρ' s R' r' q=>?_,fun _ _ _ _ _ _ q=>q.elim,fun _ _ _ _ _ _ q=>q.elim,x⟩
  ·exact k' .non H' F2 (.fz .none) _ s (R.ret hn s R') Da.non q
  ·exact k' v H' F2 r _ s (R.ret hn s R') (r'.ret hn R R') q
end
end L3
namespace L2
open PySem PySem.Spec PyProof.Rows
noncomputable def xkL (K:PySem.W.Frag) (iE iC:Nat) (B:Addr) (D:Ends) (σ:St):XK:=fun Cv o H2=>∃ C,Cv = .ref C /\ ExcJ K C /\ subIn K C B = true /\ ∀ dx a,o = some dx -> H2 a = none -> D.nx (((σ.set iE (some (.ref a))).set iC (some (.ref a))).set iE none) (upd H2 a (excLO a C dx))
noncomputable def tTryM (K:PySem.W.Frag) (iE iC iy:Nat) (B:Addr) (sp:Sp) (t:TA):TS:=fun D σ H=>t σ H fun vs H1=>sp vs H1 (fun v H2=>D.nx (σ.set iy (some v)) H2) (xkL K iE iC B D σ)
section
variable {X:Cx} {k iE iC iy:Nat} {f n b c y:Str} {ps:List Str} {sp:Sp} {t:TA} {B:Addr} {e1:Expr} {es:List Expr} {p cpos pb pn pc p3 hpos apos pos py:Pos}
theorem ps_tryM (T:Tr X b n c pn pc p3 iE iC B) (C:CalM X.prog X.w X.K X.mg X.base k f ps sp) (hr:Room k X.A) (ha:PA X.nox (e1 :: es) t) (hg:Gl X f) (hdf:(f == ("__debug__":Str)) = false) (hy:X.N[iy]? = some y) (hly:Loc X.env.scope y) (hfn:X.fn y = true \/ X.env.scope.names.lookup y = some .local)
  (he:starEach (e1 :: es) X.env = (false,eval e1 X.env) :: starEach es X.env) (hpl:(backTo cpos (starEach es X.env)).any (·.1) = false) (hs:swapsWith (.Call (.Name f p) (e1 :: es) [] cpos) (some (.Name y py)) apos.line X.env = pure false) :
  PS X (.Try [.Assign [.Name y py] (.Call (.Name f p) (e1 :: es) [] cpos) apos] [hdl b n c pb pn pc p3 hpos] [] [] pos) (tTryM X.K iE iC iy B sp t):=by
 intro pins s σ H D I h
 obtain ⟨fa,fd,F,hm,hk,hb⟩:=C.ex
 refine wpAny_Try_except (wpAny_execs_cons (wpAny_Assign_Name ?_ hs))
 refine wpAny_Call_Name_kw (ld_glob I hg hm ?_ hdf)
 refine PySem.W.callWith_K (h₀:=X.base) I.ok.mod.kin hk (wpAny_mono (ha cpos pins s σ H _ (I.wish _) h) (fun us s1 ⟨vs,H1,I1,r,q⟩=>⟨I1.kIn,?_⟩) fun _ _ z=>z.elim) he hpl
 have J1:=I1.unwish
 have hl:us.length = ps.length:=by rw [<- r.length]; exact F.len _ _ _ _ q
 have hbb:=hb s1 us J1.kIn (by rw [List.append_nil]; exact hl)
 rw [List.append_nil] at hbb
 refine wpAny_call (codeAny_mono (F.run X.A X.stack s1 H1 ⟨us,[]⟩ us vs _ _ hr J1.env0 hbb r q) fun rr s' hq=>?_)
 cases rr with
 | error e =>
  have hq:CXL X.prog X.w X.stack H1 s1 (xkL X.K iE iC B D σ) e s':=hq
  exact caughtL J1 T.hst T.hfr T.hex T.hN T.hiE T.hlE T.hiC T.hlC T.hgb T.hmb T.hB hq (fun Cv o H2 z=>z) T.hs3 T.hdb T.hd1 T.hd2
 | ok fl =>
  cases fl with
  | ret u =>
   obtain ⟨v,H',I2,rv,q2⟩:=J1.after hq
   exact store_ok I2 T.hN hy hly rv (fun s8 I8=>wpAny_execs_nil (wpAny_execs_nil ⟨_,_,I8,q2⟩)) hfn
  | next=>exact False.elim hq
  | brk=>exact False.elim hq
  | cont=>exact False.elim hq
noncomputable def tLine (K:PySem.W.Frag) (ta:TE):TE:=fun σ H Q=>ta σ H fun x H1=>∃ a C dx v,x = .ref a /\ H1 a = some (excLO a C dx) /\ H1 dx = some (.xd [("line",v)]) /\ ExcQJ K C /\ Q v H1
theorem pe_line {e:Expr} {ta:TE} (hl:PE X e ta) (hb:attributeBase e "line" X.env (eval e X.env) = eval e X.env):PE X (.Attribute e "line" pos) (tLine X.K ta):=by
 intro pins s σ H Q I h
 refine attr_of hb (thn (hl pins s σ H _ I h) fun u s1 ⟨x,H1,I1,rx,a,C,dx,v,ex,ea,ed,hC,q⟩=>?_)
 subst ex
 obtain rfl:u = Value.ref a:=rx
 obtain ⟨⟨o,vs,z1,z2,z3,z4⟩,_⟩:=(show ObjOk X.prog X.w H1 s1.heap a (excLO a C dx) from I1.hok a _ ea)
 obtain ⟨mA,hn,hr⟩:=(show ObjOk X.prog X.w H1 s1.heap dx (.xd [("line",v)]) from I1.hok dx _ ed)
 obtain ⟨u,hu,ru⟩:=RelO.some_of (v:=v) (o:=mA "line") (by have:=hr "line"; exact this)
 obtain ⟨hp,g,d,tk,os⟩:=s1
 exact line_attr I1.kIn hC z1 z2 z3 z4 hn hu (PySem.W.handedOut_of (handed_of ru)) ⟨v,H1,I1.tok _,ru,q⟩
end
end L2
namespace L3
open PySem PySem.Spec PyProof.Rows L2
theorem At.exl {K:Fg} {F H:Hp} {v:V} {C:Addr} {n:Int} (s:Sub F H) (h:At K F H v (excLD C n)):∃ a dx,v = .ref a /\ H a = some (excLO a C dx) /\ H dx = some (.xd [("line",.int n)]):=by
 rcases h with h | ⟨a,o,rfl,_,e,h⟩
 ·have gen:∀ {d:D},Da K F v d -> d = excLD C n -> ∃ a dx,v = .ref a /\ H a = some (excLO a C dx) /\ H dx = some (.xd [("line",.int n)]):=fun {d} h e=>by
   cases h with
   | dk q t =>
    injection e with e
    exact (kv_nb t e).elim
   | dt q t =>
    injection e with e
    exact (kt_nb t e).elim
   | scr q=>cases e
   | exc q=>cases e
   | @exl a C' dx m q q2 =>
    injection e with e
    injection e with e _
    injection e with _ e
    injection e with e
    injection e with e1 e2
    injection e2 with e2 _
    injection e1 with e1
    injection e2 with e2
    have:C' = C:=Int.ofNat.inj e1
    subst this e2
    exact ⟨a,dx,rfl,s _ _ q,s _ _ q2⟩
   | _=>cases e
  exact gen h rfl
 ·cases o with
  | dK kvs=>exact (kv_nb (show DaKV K F kvs [(.bool true,.tuple [.int (C:Nat),.int n])] from h) rfl).elim
  | dT kvs=>exact (kt_nb (show DaKT K F kvs [(.bool true,.tuple [.int (C:Nat),.int n])] from h) rfl).elim
  | _=>exact h.elim
noncomputable def fIsXJ (K:Fg) (B:Addr):D -> (Sl -> Prop) -> Prop
 | .dict [(.bool true,.tuple [.int c,.int _])],Q=>∃ C:Addr,c = ((C:Nat):Int) /\ ExcQJ K C /\ clsIn K B = true /\ Q (.fz (.bool (subIn K C B)))
 | _,_=>False
noncomputable def fIsXTJ (K:Fg) (Bs:List Addr):D -> (Sl -> Prop) -> Prop
 | .dict [(.bool true,.tuple [.int c,.int _])],Q=>∃ C:Addr,c = ((C:Nat):Int) /\ ExcQJ K C /\ (∀ B ∈ Bs,clsIn K B = true) /\ Q (.fz (.bool (Bs.any (subIn K C))))
 | _,_=>False
noncomputable def fIsXVJ (K:Fg):D -> (Sl -> Prop) -> Prop
 | .dict [(.bool true,.tuple [.int c,.int _])],Q=>∃ C:Addr,c = ((C:Nat):Int) /\ ExcQJ K C /\ Q (.fz (.bool true))
 | _,_=>False
noncomputable def fLine (K:Fg):D -> (Sl -> Prop) -> Prop
 | .dict [(.bool true,.tuple [.int c,.int n])],Q=>∃ C:Addr,c = ((C:Nat):Int) /\ ExcQJ K C /\ Q (.fz (.int n))
 | _,_=>False
theorem ok_isXJ {K:Fg} {B:Addr}:OpOk K (fun vs H Q=>∃ x,vs = [x] /\ rIsiEJ K [x,.ref B] H Q) (o1 (fIsXJ K B)):=ok1 fun G F σ H ρ x d Q Qd R h1 w k=>by
 unfold fIsXJ at w
 split at w
 ·obtain ⟨C,rfl,hC,hB,w⟩:=w
  obtain ⟨a,dx,rfl,e,_⟩:=At.exl R.sub h1
  exact ⟨_,rfl,a,C,B,dx,rfl,e,hC,hB,k _ H F (.fz _) (Sub.refl _) R (Da.bl _) w⟩
 ·exact w.elim
theorem ok_isXVJ {K:Fg}:OpOk K (fun vs H Q=>∃ x,vs = [x] /\ rIsiEVJ K [x,.ty "ValueError"] H Q) (o1 (fIsXVJ K)):=ok1 fun G F σ H ρ x d Q Qd R h1 w k=>by
 unfold fIsXVJ at w
 split at w
 ·obtain ⟨C,rfl,hC,w⟩:=w
  obtain ⟨a,dx,rfl,e,_⟩:=At.exl R.sub h1
  exact ⟨_,rfl,a,C,dx,rfl,e,hC,k _ H F (.fz _) (Sub.refl _) R (Da.bl _) w⟩
 ·exact w.elim
theorem ok_isXTJ {K:Fg} {Bs:List Addr}:OpOk K (fun vs H Q=>∃ x,vs = [x] /\ (Bs.map V.ref).length <= sizeLine /\ ∀ p,H p = none -> rIsiETJ K [x,.ref p] (upd H p (.tup (Bs.map V.ref))) Q) (o1 fun d Q=>Bs.length <= 1000 /\ fIsXTJ K Bs d Q):=ok1 fun G F σ H ρ x d Q Qd R h1 w k=>by
 obtain ⟨hl,w⟩:=w
 unfold fIsXTJ at w
 split at w
 ·obtain ⟨C,rfl,hC,hB,w⟩:=w
  obtain ⟨a,dx,rfl,e,_⟩:=At.exl R.sub h1
  exact ⟨_,rfl,by rw [List.length_map]; exact le_size hl,fun p hp=>⟨a,C,p,dx,Bs,rfl,by rw [upd_ne (ne_of_none e hp)]; exact e,upd_same,hC,hB,k _ _ F (.fz _) (Sub.refl _) (R.laid hp) (Da.bl _) w⟩⟩
 ·exact w.elim
theorem ok_line {K:Fg}:OpOk K (fun vs H Q=>∃ x,vs = [x] /\ ∃ a C dx v,x = .ref a /\ H a = some (excLO a C dx) /\ H dx = some (.xd [("line",v)]) /\ ExcQJ K C /\ Q v H) (o1 (fLine K)):=ok1 fun G F σ H ρ x d Q Qd R h1 w k=>by
 unfold fLine at w
 split at w
 ·obtain ⟨C,rfl,hC,w⟩:=w
  obtain ⟨a,dx,rfl,e,e2⟩:=At.exl R.sub h1
  exact ⟨_,rfl,a,C,dx,_,rfl,e,e2,hC,k _ H F (.fz _) (Sub.refl _) R (Da.int _) w⟩
 ·exact w.elim
noncomputable def dTryM (K:Fg) (iE iC iy:Nat) (B C:Addr) (con:ConM) (as:List AD):TDS:=fun E ρ=>dArgs as ρ fun xs ρ1=>looksQ ρ1 xs fun ds=>(ExcJ K C /\ subIn K C B = true /\ ρ1[iE]? = some none /\ iE ≠ iC /\ noIo ρ1 iC /\ noIo ρ1 iy) /\ con (ds.map Sl.fz) (fun r _=>match lentAny ρ1 xs with
  | false=>E.nx (ρ1.set iy (some r))
  | true=>noMut r.d = true /\ E.nx (ρ1.set iy (some r))) (fun n=>E.nx (ρ1.set iC (some (.fz (excLD C n)))))
theorem l_tryM {K:Fg} {iE iC iy:Nat} {B C:Addr} {con:ConM} {as:List AD} {D:Ends} {σ:L2.St} {H:Hp} (h:liftS K (dTryM K iE iC iy B C con as) D σ H):tTryM K iE iC iy B (conSpM K C con) (tArgs (as.map (argT K))) D σ H:=by
 obtain ⟨G,F,ρ,Ed,R,w,n,r,b,c⟩:=h
 refine args_ok R w fun vs H1 F1 xs ρ1 s1 R1 o w1=>?_
 obtain ⟨ds,da,⟨hC,hsub,hE,hne,hio,hiy⟩,w2⟩:=lend_looks (xs:=xs) R1 (fun y hy=>hy) o w1
 refine ⟨_,_,ds.map Sl.fz,_,_,rel_call (lend_le R1) da,w2,fun v H' F' r' ρ' s' R' rr q=>?_,fun m σ' H' F' ρ' q s' R' dx hdx=>⟨C,rfl,hC,hsub,fun dx' a e na=>?_⟩⟩
 ·obtain ⟨sb,R2⟩:=R1.called R'
  have hq:(lentAny ρ1 xs = true -> noMut r'.d = true) /\ Ed.nx (ρ1.set iy (some r')):=by
   split at q
   ·rename_i e; exact ⟨fun z=>(by rw [e] at z; cases z),q⟩
   ·exact ⟨fun _=>q.1,q.2⟩
  exact n _ _ _ _ (s1.trans sb) (R2.asg hiy (Res.called R1 R' rr hq.1)) hq.2
 ·cases e
  obtain ⟨sb,R2⟩:=R1.called R'
  have own:∀ {a:Addr} {H':Hp} {F':Hp},Rel K G F' σ H' ρ1 -> H' a = none -> ∀ (i:Nat) (s:Sl),ρ1[i]? = some (some s) -> isOw s = true -> σ[i]? ≠ some (some (V.ref a)):=fun {a H' F'} R na i s e w z=>by
   obtain ⟨a',o',g1,g2,g3,g4⟩:=R.ow i s e w
   rw [z] at g1
   cases g1
   rw [na] at g3
   cases g3
  have R3:=R2.laid (o:=.xd [("line",.int m)]) hdx
  obtain ⟨sb3,R4⟩:=R3.grow (a:=dx) (o:=.xd [("line",.int m)]) (R2.h0 hdx) upd_same (own R2 hdx)
  have R5:=R4.laid (o:=excLO a C dx) na
  obtain ⟨sb5,R6⟩:=R5.grow (a:=a) (o:=excLO a C dx) (R4.h0 na) upd_same (own R4 na)
  have ne:dx ≠ a:=fun z=>by rw [z,upd_same] at na; cases na
  have R7:=R6.asg (s:=.fz (excLD C m)) (v:=.ref a) hio (Da.exl (dx:=dx) upd_same (by rw [upd_ne ne]; exact upd_same))
  refine n _ _ _ _ (s1.trans (sb.trans (sb3.trans sb5))) (R7.off (i:=iE) (by rw [List.getElem?_set_ne (Ne.symm hne)]; exact hE) (by simp) fun j hj=>?_) q
  rw [List.getElem?_set_ne (Ne.symm hj)]
  by_cases z:j = iC
  ·subst z
   rw [List.getElem?_set,List.getElem?_set]
   simp [List.getElem?_set]
  ·rw [List.getElem?_set_ne (Ne.symm z),List.getElem?_set_ne (Ne.symm hj),List.getElem?_set_ne (Ne.symm z)]
section
variable {X:Cx} {K:Fg} {e1:Expr} {es:List Expr} {a:AD} {as:List AD} {B C:Addr} {Bs:List Addr} {y f n b c:Str} {p pos p2 p3 p4 pb pn pc hpos cpos apos py:Pos} {k iE iC iy:Nat} {ps:List Str} {con:ConM}
theorem w_isXJ (hK:X.K = K) (hm:X.mg "isinstance" = none) (hm2:X.mg y = some (.ref B)) (ha:WE X e1 (argT K a)) (hg:Gl X "isinstance":=by rfl) (hg2:Gl X y:=by rfl) (hd:(y == ("__debug__":Str)) = false:=by decide) (he:notStar e1 = true:=by rfl) :
  WE X (.Call (.Name "isinstance" p) [e1,.Name y p2] [] pos) (lift K (dOp [a] (o1 (fIsXJ K B)))):=by
 subst hK
 exact ⟨peM (pe_callB call_isiEJ hg hm boot_isinstance (pa_cons ha.h (pa_cons (pe_glob hg2 hm2 (v:=.ref B) rfl hd) pa_nil (starEach_of rfl)) (starEach_of he)) (by decide) (by decide) (starEach_of he) (plain_of rfl)) fun q=>arg1 (P:=fun x H1=>rIsiEJ X.K [x,.ref B] H1 _) (l_op ok_isXJ q)⟩
theorem w_isXVJ (hK:X.K = K) (hm:X.mg "isinstance" = none) (hm2:X.mg "ValueError" = none) (ha:WE X e1 (argT K a)) (hg:Gl X "isinstance":=by rfl) (hg2:Gl X "ValueError":=by rfl) (he:notStar e1 = true:=by rfl) :
  WE X (.Call (.Name "isinstance" p) [e1,.Name "ValueError" p2] [] pos) (lift K (dOp [a] (o1 (fIsXVJ K)))):=by
 subst hK
 exact ⟨peM (pe_callB call_isiEVJ hg hm boot_isinstance (pa_cons ha.h (pa_cons (pe_bltn hg2 hm2 (u:=.type "ValueError") (by decide +kernel) (v:=.ty "ValueError") rfl) pa_nil (starEach_of rfl)) (starEach_of he)) (by decide) (by decide) (starEach_of he) (plain_of rfl)) fun q=>arg1 (P:=fun x H1=>rIsiEVJ X.K [x,.ty "ValueError"] H1 _) (l_op ok_isXVJ q)⟩
theorem w_isXTJ (hK:X.K = K) (hm:X.mg "isinstance" = none) (ht:WC X es Bs) (ha:WE X e1 (argT K a)) (hg:Gl X "isinstance":=by rfl) (he:notStar e1 = true:=by rfl) :
  WE X (.Call (.Name "isinstance" p) [e1,.Tuple es k p2] [] pos) (lift K (dOp [a] (o1 fun d Q=>Bs.length <= 1000 /\ fIsXTJ K Bs d Q))):=by
 subst hK
 exact ⟨peM (pe_callB call_isiETJ hg hm boot_isinstance (pa_cons ha.h (pa_cons (pe_tup ht.h) pa_nil (starEach_of rfl)) (starEach_of he)) (by decide) (by decide) (starEach_of he) (plain_of rfl)) fun q=>arg1 (P:=fun x H1=>(Bs.map V.ref).length <= sizeLine /\ ∀ p,H1 p = none -> rIsiETJ X.K [x,.ref p] (upd H1 p (.tup (Bs.map V.ref))) _) (l_op ok_isXTJ q)⟩
theorem w_line (hK:X.K = K) (ha:WE X e1 (argT K a)) (hb:attributeBase e1 "line" X.env (eval e1 X.env) = eval e1 X.env:=by rfl):WE X (.Attribute e1 "line" pos) (lift K (dOp [a] (o1 (fLine K)))):=by
 subst hK
 exact ⟨peM (pe_line ha.h hb) fun q=>arg1 (P:=fun x H1=>∃ a C dx v,x = .ref a /\ H1 a = some (excLO a C dx) /\ H1 dx = some (.xd [("line",v)]) /\ ExcQJ X.K C /\ _) (l_op ok_line q)⟩
theorem s_tryM (hK:X.K = K) (T:Tr X b n c pn pc p3 iE iC B) (cal:CalM X.prog X.w X.K X.mg X.base k f ps (conSpM K C con)) (hr:Room k X.A) (ha:WA X.nox (e1 :: es) (tArgs (as.map (argT K)))) (hy:X.N[iy]? = some y) (hly:Loc X.env.scope y) (hg:Gl X f:=by rfl) (hdf:(f == ("__debug__":Str)) = false:=by decide) (he:notStar e1 = true:=by rfl) (hpl:es.all notStar = true:=by rfl)
  (hfn:X.fn y = true \/ X.env.scope.names.lookup y = some .local:=by first | exact .inl rfl | exact .inr rfl) (hs:swapsWith (.Call (.Name f p) (e1 :: es) [] cpos) (some (.Name y py)) apos.line X.env = pure false:=by rfl):WS X (.Try [.Assign [.Name y py] (.Call (.Name f p) (e1 :: es) [] cpos) apos] [hdl b n c pb pn pc p3 hpos] [] [] pos) (liftS K (dTryM K iE iC iy B C con as)):=by
 subst hK
 exact ⟨fun pins s σ H D I h=>ps_tryM T cal hr ha.h hg hdf hy hly hfn (starEach_of he) (plain_of hpl) hs pins s σ H D I (l_tryM h)⟩
end
end L3
namespace L2
open PySem PySem.Spec PyProof.Rows
noncomputable def rMulS:R2:=fun x y H Q=>∃ t n,x = V.str t /\ y = V.int n /\ 2 <= n /\ n <= 100 /\ 1 <= t.length /\ t.length <= 100 /\ Q (.str ⟨(List.replicate n.toNat t.cps).foldl (· ++ ·) #[]⟩) H
theorem reps_len (x:Str) (k:Nat):(Str.mk ((List.replicate k x.cps).foldl (· ++ ·) #[])).length = k * x.length:=by
 have gen:∀ (k:Nat) (a:Array Nat),((List.replicate k x.cps).foldl (· ++ ·) a).size = a.size + k * x.cps.size:=by
  intro k
  induction k with
  | zero=>intro a; simp
  | succ k ih=>intro a; rw [List.replicate_succ,List.foldl_cons,ih,Array.size_append,Nat.succ_mul]; omega
 show ((List.replicate k x.cps).foldl (· ++ ·) #[]).size = k * x.cps.size
 rw [gen]
 simp
theorem op_mulS {X:Cx}:OpR X (binaryOp .Mult) rMulS:=by
 intro pins s σ H x y v u Q I rx ry h
 obtain ⟨t,n,rfl,rfl,h2,hn,h1,hz,q⟩:=h
 obtain ⟨k,rfl⟩:=rx
 obtain ⟨k2,rfl⟩:=ry
 have hne:(n == 1 || t.length == 0) = false:=by
  rw [Bool.or_eq_false_iff,beq_eq_false_iff_ne,beq_eq_false_iff_ne]
  exact ⟨by omega,by omega⟩
 have hm:t.length * n.toNat <= 10000:=by
  have:=Nat.mul_le_mul hz (show n.toNat <= 100 by omega)
  omega
 have hm2:(t.length:Int) * n <= 10000:=by
  have e:((t.length * n.toNat:Nat):Int) = (t.length:Int) * n:=by rw [Int.natCast_mul,Int.toNat_of_nonneg (by omega)]
  omega
 refine PySem.P.mul_str (by rw [Bool.or_eq_false_iff,decide_eq_false_iff_not,decide_eq_false_iff_not]; exact ⟨by omega,by omega⟩) (fun _ _ hc=>?_) (fun _ _=>?_) ?_
 ·have:=(Int.le_ediv_iff_mul_le (a:=(t.length:Int)) (b:=2 ^ 63 - 1) (c:=n) (by omega)).mpr (by omega)
  omega
 ·show decide (t.length * n.toNat > sizeLine) = false
  rw [decide_eq_false_iff_not]
  exact Nat.not_lt.mpr (Nat.le_trans hm (by decide))
 ·rw [if_neg (by omega),hne]
  exact ⟨by rw [reps_len,Nat.mul_comm]; exact Nat.le_trans hm (by decide),⟨.str _,H,I.tok _,⟨_,rfl⟩,q⟩⟩
end L2
namespace L3
open PySem PySem.Spec PyProof.Rows L2
noncomputable def fMulS:D -> D -> (Sl -> Prop) -> Prop
 | .str t,.int n,Q=>2 <= n /\ n <= 100 /\ 1 <= t.length /\ t.length <= 100 /\ Q (.fz (.str ⟨(List.replicate n.toNat t.cps).foldl (· ++ ·) #[]⟩))
 | _,_,_=>False
theorem ok_mulS {K:Fg}:OpOk K (r2L rMulS) (o2 fMulS):=ok2 fun G F σ H ρ x y d e Q Qd R h1 h2 w k=>by
 cases d <;> first | exact w.elim | (cases e <;> first | exact w.elim | skip)
 cases h1.str
 cases h2.int
 exact ⟨_,_,rfl,rfl,w.1,w.2.1,w.2.2.1,w.2.2.2.1,k _ H F (.fz _) (Sub.refl _) R (Da.str _) w.2.2.2.2⟩
noncomputable def fSlSU:D -> D -> (Sl -> Prop) -> Prop
 | .str x,.int i,Q=>x.length <= sizeLine /\ Q (.fz (.str (Txt.slice x none (some i))))
 | _,_,_=>False
theorem ok_slSU {K:Fg}:OpOk K (r2L fun x y H Q=>∃ i,y = V.int i /\ rSlS x none (some i) H Q) (o2 fSlSU):=ok2 fun G F σ H ρ x y d e Q Qd R h1 h2 w k=>by
 cases d <;> first | exact w.elim | (cases e <;> first | exact w.elim | skip)
 cases h1.str
 cases h2.int
 exact ⟨_,rfl,_,rfl,w.1,k _ H F (.fz _) (Sub.refl _) R (Da.str _) w.2⟩
noncomputable def fNotInS:D -> D -> (Sl -> Prop) -> Prop
 | .str x,.str y,Q=>Q (.fz (.bool (!(!(Builtin.Str.occurrences y x 0 y.length 1).isEmpty))))
 | _,_,_=>False
theorem ok_notinS {K:Fg}:OpOk K (r2L fun x y H Q=>∃ i j,x = V.str i /\ y = V.str j /\ Q (V.bl (!(!(Builtin.Str.occurrences j i 0 j.length 1).isEmpty))) H) (o2 fNotInS):=ok2 fun G F σ H ρ x y d e Q Qd R h1 h2 w k=>by
 cases d <;> first | exact w.elim | (cases e <;> first | exact w.elim | skip)
 cases h1.str
 cases h2.str
 exact ⟨_,_,rfl,rfl,k _ H F (.fz _) (Sub.refl _) R (Da.bl _) w⟩
noncomputable def optD:Option Int -> D
 | none=>.none
 | some n=>.int n
noncomputable def fInN:D -> D -> (Sl -> Prop) -> Prop
 | .none,.list ds,Q=>∃ os:List (Option Int),ds = os.map optD /\ Q (.fz (.bool (decide (none ∈ os))))
 | _,_,_=>False
noncomputable def optV:Option Int -> V
 | none=>.non
 | some n=>.int n
theorem DaAll.opts {K:Fg} {F:Hp}:∀ {os:List (Option Int)} {vs:List V},DaAll K F vs (os.map optD) -> vs = os.map optV
 | [],_,h=>by rw [List.map_nil] at h; cases h; rfl
 | o :: os,_,h=>by
  rw [List.map_cons] at h
  cases h with
  | cons h t =>
   rw [DaAll.opts t]
   cases o <;> cases h <;> rfl
theorem flat_opts (os:List (Option Int)):(os.map optV).all flatV = true:=by
 rw [List.all_eq_true]
 intro x hx
 obtain ⟨n,_,rfl⟩:=List.mem_map.mp hx
 cases n <;> rfl
theorem inV_opts:∀ os:List (Option Int),inV .non (os.map optV) = decide (none ∈ os)
 | []=>by simp [inV]
 | o :: os=>by
  have:=inV_opts os
  simp only [inV,List.map_cons,List.any_cons] at this ⊢
  rw [this,Bool.eq_iff_iff]
  cases o <;> simp [eqV,optV]
theorem ok_inN {K:Fg}:OpOk K (r2L (rIn K false)) (o2 fInN):=ok2 fun G F σ H ρ x y d e Q Qd R h1 h2 w k=>by
 cases d <;> first | exact w.elim | (cases e <;> first | exact w.elim | skip)
 obtain ⟨os,rfl,w⟩:=w
 cases h1.none
 obtain ⟨a,us,rfl,e1,d1⟩:=h2.list R.sub
 have:=d1.opts
 subst this
 refine ⟨a,_,rfl,.inl (SqL.of e1),rfl,flat_opts os,?_⟩
 rw [inV_opts]
 exact k _ H F (.fz _) (Sub.refl _) R (Da.bl _) w
section
variable {X:Cx} {K:Fg} {e1 e2:Expr} {a b:AD} {pos p2:Pos}
theorem w_slSU (ha:WE X e1 (argT K a)) (hb:WE X e2 (argT K b)):WE X (.Subscript e1 (.Slice none (some e2) none p2) pos) (lift K (dOp [a,b] (o2 fSlSU))):=⟨peM (pe_slice sl_str ha.h po_none (po_some hb.h)) fun q=>arg2 (P:=fun x y H=>∃ i,y = V.int i /\ rSlS x none (some i) H _) (l_op ok_slSU q)⟩
theorem t_notinS (ha:WE X e1 (argT K a)) (hb:WE X e2 (argT K b)) (hm:behindInMarks .NotIn e2 = false:=by rfl):WT X (.Compare e1 [.NotIn] [e2] pos) (liftT K (dTst (dOp [a,b] (o2 fNotInS)))):=⟨ct2 ok_notinS (pt_cmpR op_notin_str ha.h hb.h hm)⟩
theorem t_inN (hK:X.K = K) (ha:WE X e1 (argT K a)) (hb:WE X e2 (argT K b)) (hm:behindInMarks .In e2 = false:=by rfl):WT X (.Compare e1 [.In] [e2] pos) (liftT K (dTst (dOp [a,b] (o2 fInN)))):=⟨ct2 ok_inN (pt_cmpR (op_inK hK) ha.h hb.h hm)⟩
end
end L3
namespace L2
open PySem PySem.Spec PyProof.Rows
theorem noteFrame_frame {e:Value} {env env':Env} (h:env.frame = env'.frame):noteFrame e env = noteFrame e env':=by
 simp only [noteFrame,PySem.frameOf,h]
section
variable {M:Model} {A:Around} {E:Value -> Shared -> Prop} {s:Shared} {base:Heap} {env:Env} {outer:List Env} {L e:Addr} {p:Value × Option Addr} {Q:Unit -> Shared -> Prop} {fl:Value}
theorem note_any (hfr:A.frames = some (env :: outer)) (hf:env.frame = some L) (x:FlD base (env :: outer) e p fl s.heap)
  (h:∀ h',FlD base (env :: outer) e p (rawInt L) h' -> s.heap.UpToSlots h' -> Q () { s with heap:=h' }):wpAny M A (noteFrame (.ref e) env) Q E s:=by
 by_cases hz:(fl == rawInt L) = true
 ·have ez:fl = rawInt L:=eq_of_beq hz
  subst ez
  obtain ⟨oe,vs,T,oT,ts,g1,g2,g3,g4,g5,g6,g7,g8,g9⟩:=id x.tr
  unfold noteFrame
  simp only [hf]
  refine wpAny_bind (wpAny_field g1 g3 g4 ?_)
  rw [if_pos (show (Value.ref T != Value.none) = true from by simp)]
  refine wpAny_bind (wpAny_field g7 g8 g9 ?_)
  rw [if_pos hz]
  exact wpAny_pure (h s.heap x (.refl _))
 ·obtain ⟨st,nw,fr,oe,vs,T,oT,ts,g1,g2,g3,g4,g5,g6,g7,g8,g9⟩:=x
  subst g2
  have ot:∀ c,c ≠ T -> (s.heap.update T (Obj.mapFields (·.setIfInBounds 3 Value.none))).get? c = s.heap.get? c:=fun c n=>Heap.get?_update_other _ _ (Ne.symm n)
  have nr:∀ c o,s.heap.get? c = some o -> (∀ ws,o.data ≠ .fields ws) -> c ≠ T:=fun c o hc nf z=>by
   rw [z,g7] at hc; cases hc
   exact nf ts g8
  unfold noteFrame
  simp only [hf]
  refine wpAny_bind (wpAny_field g1 g3 g4 ?_)
  rw [if_pos (show (Value.ref T != Value.none) = true from by simp)]
  refine wpAny_bind (wpAny_field g7 g8 g9 ?_)
  rw [if_neg hz]
  refine wpAny_bind (wpAny_setField g7 g8 (Array.getElem?_eq_some_iff.mp g9).1 ?_)
  refine entry_new hfr (fr.of_keeps fun c o hc nf=>⟨o,(ot c (nr c o hc nf)).trans hc,rfl⟩) hf ((ot e (Ne.symm g6)).trans g1) (fun c o hc=>(ot c fun z=>by rw [z,g5] at hc; cases hc).trans (st c o hc)) nw g3 (Array.getElem?_eq_some_iff.mp g4).1 fun h' y u=>h h' y fun c o hc nf=>u c o ((ot c (nr c o hc nf)).trans hc) nf
theorem flight_to {l:List Env} (t:Option Addr) (x:FlD base l e p fl s.heap) (h:∀ h' fl',FlD base l e p fl' h' -> s.heap.UpToSlots h' -> Q () { s with heap:=h' }):wpAny M A (setFlight (.ref e) t) Q E s:=by
 obtain ⟨st,nw,fr,oe,vs,T,oT,ts,g1,g2,g3,g4,g5,g6,g7,g8,g9⟩:=x
 have hz:3 < ts.size:=(Array.getElem?_eq_some_iff.mp g9).1
 have ot:∀ c,c ≠ T -> (s.heap.update T (Obj.mapFields (·.setIfInBounds 3 (t.elim Value.none fun f=>rawInt f)))).get? c = s.heap.get? c:=fun c n=>Heap.get?_update_other _ _ (Ne.symm n)
 have nr:∀ c o,s.heap.get? c = some o -> (∀ ws,o.data ≠ .fields ws) -> c ≠ T:=fun c o hc nf z=>by
  rw [z,g7] at hc; cases hc
  exact nf ts g8
 unfold setFlight
 refine wpAny_bind (wpAny_field g1 g3 g4 ?_)
 rw [if_pos (show (Value.ref T != Value.none) = true from by simp)]
 refine wpAny_setField g7 g8 hz (h _ (t.elim Value.none fun f=>rawInt f) ⟨fun c o hc=>(ot c fun z=>by rw [z,g5] at hc; cases hc).trans (st c o hc),nw,fr.of_keeps fun c o hc nf=>⟨o,(ot c (nr c o hc nf)).trans hc,rfl⟩,?_⟩ fun c o hc nf=>⟨o.slots,(ot c (nr c o hc nf)).trans hc⟩)
 exact ⟨oe,vs,T,_,_,(ot e (Ne.symm g6)).trans g1,g2,g3,g4,g5,g6,Heap.get?_update_self _ g7 (Obj.isFreed_of_fields (Obj.data_mapFields g8 _)),Obj.data_mapFields g8 _,by simp [hz]⟩
theorem leave_any (hfr:A.frames = some (env :: outer)) (hf:env.frame = some L) (x:FlD base (env :: outer) e p fl s.heap)
  (h:∀ h',FlD base (env :: outer) e p .none h' -> s.heap.UpToSlots h' -> Q () { s with heap:=h' }):wpAny M A (leaving env (.ref e)) Q E s :=
 wpAny_bind (note_any hfr hf x fun h' x u=>flight_none (s:={ s with heap:=h' }) x fun h2 y v=>h h2 y (u.trans v))
theorem pass_on {α:Type} {l:List Env} {what:String} {cenv:Env} (x:FlD base l e p fl s.heap) (h:∀ h' fl',FlD base l e p fl' h' -> s.heap.UpToSlots h' -> E (.ref e) { s with heap:=h' }) :
  wpAny M A (PySem.passOn what (.ref e) cenv:Sem α) (fun _ _=>False) E s:=by
 obtain ⟨oe,vs,T,oT,ts,g1,g2,g3,g4,g5,g6,g7,g8,g9⟩:=id x.tr
 unfold PySem.passOn
 refine wpAny_bind (wpAny_field g1 g3 g4 ?_)
 rw [if_neg (show ¬ (Value.ref T == Value.none) = true from by simp)]
 exact wpAny_bind (flight_to _ x fun h' fl' y u=>wpAny_throw (h h' fl' y u))
end
section
variable {X:Cx} {pins:List (Addr × Obj)} {σ:St} {H H':Hp} {s s':Shared} {ch zs:List Addr}
theorem Inv.back2 (I:Inv X pins σ H s) (un:Un (frs X.stack) ch H H' s.heap s'.heap) (hch:∀ b ∈ ch,FpOk X pins H b) (hok:HOk X.prog X.w H' s'.heap) (bare:AllBare s'.gens) (os:s'.os = s.os) (fz:∀ z ∈ zs,z ∉ ch -> s.heap.get? z = none) (nz:∀ z ∈ zs,H' z = none) {h5:Heap}
  (k:∀ b o,s'.heap.get? b = some o -> b ∉ zs -> b ∉ frs X.stack -> h5.get? b = some o) (up:∀ b o,s'.heap.get? b = some o -> b ∈ frs X.stack -> ∃ sl,h5.get? b = some { o with slots:=sl }) :
  Inv X pins σ H' { s' with heap:=h5 }:=by
 have ne:∀ {b o},s.heap.get? b = some o -> b ∉ ch -> b ∉ zs:=fun {b o} e n z=>by rw [fz b z n] at e; cases e
 have nfr:∀ b ∈ frs X.stack,b ∉ ch:=fun b hb z=>by
  rcases List.mem_cons.mp (I.stkSub b hb) with y | y
  ·exact (hch b z).2.1 y
  ·exact (hch b z).2.2.1 y
 have frf:∀ b ∈ frs X.stack,H' b = none:=fun b hb=>by
  obtain ⟨_,o,e,_⟩:=I.stack.mem hb
  exact un.free b o e (I.stkFree b hb) (nfr b hb)
 refine I.call' (s':={ s' with heap:=h5 }) (ch:=ch) os ⟨fun b o e n nb hc=>?_,fun b o e n hb hc=>?_,un.free,fun b o e hc=>?_,un.tups,un.frzs,un.tbls⟩ (fun b u y=>?_) bare fun b hb=>?_
 ·exact k b o (un.keep b o e n nb hc) (ne e hc) nb
 ·obtain ⟨sl,e1⟩:=un.slot b o e n hb hc
  obtain ⟨sl2,e2⟩:=up b _ e1 hb
  exact ⟨sl2,e2⟩
 ·obtain ⟨o1,e1⟩:=un.there b o e hc
  by_cases hb:b ∈ frs X.stack
  ·obtain ⟨sl2,e2⟩:=up b _ e1 hb
   exact ⟨_,e2⟩
  ·exact ⟨_,k b _ e1 (ne e hc) hb⟩
 ·have good:∀ c v,H' c = some v -> c ∉ zs /\ c ∉ frs X.stack:=fun c v q=>⟨fun z=>(by rw [nz c z] at q; cases q),fun z=>(by rw [frf c z] at q; cases q)⟩
  refine (hok b u y).stay (fun c v hc z=>?_) (fun _ z=>z) fun _ _ z=>z
  obtain ⟨g2,g3⟩:c ∉ zs /\ c ∉ frs X.stack:=by
   rcases hc with rfl | hc
   ·exact good c u y
   ·exact good c _ hc
  exact k c v z g2 g3
 ·obtain ⟨f0,f1,f2,f3,f4,f5⟩:=hch b hb
  exact ⟨f3,f1,f4,f5⟩
theorem funFrames_same {h h' base:Heap} {C:Addr} (sb:Heap.SameBut C h h'):∀ {l:List Env},h.FunFrames base l -> (∀ env ∈ l,env.frame ≠ some C) -> h'.FunFrames base l
 | [],_,_=>trivial
 | env :: l,⟨hk,⟨L,o,hf,hn,ho,hd⟩,hr⟩,n=>⟨hk,⟨L,o,hf,hn,(sb.2 L fun z=>n env (by simp) (by rw [hf,z])).trans ho,hd⟩,funFrames_same sb hr fun e he=>n e (by simp [he])⟩
noncomputable def EXc (X:Cx) (own:List Str) (fr:List Nat) (sc:Scope) (C:Addr) (s:Shared) (H:Hp) (ex:List Addr) (E:XK):Value -> Shared -> Prop:=fun e s'=>∃ pins τ H9 s9,Inv (cxComp X own fr sc C s H ex) pins τ H9 s9 /\ CXL X.prog X.w X.stack H9 s9 E e s'
theorem comp_leaves {own:List Str} {fr:List Nat} {sc:Scope} {fp:List Addr} {C:Addr} {E:XK} {s2:Shared} {H2:Hp} {Q:Value -> Shared -> Prop} {acc e:Value} (Y:InFr X E) (I2:Inv X pins σ H2 s2) (f2:∀ b ∈ fp,FpOk X pins H2 b) (hC:s2.heap.objs.size <= C)
  (h:EXc X own fr sc C s2 H2 fp E e s'):notedBy (model X.prog X.w) X.A (compEnvC sc (cellsFrom (C + 1) sc.names (clOf X.env.cells sc.names [])) C X.env) (fun x s''=>compPost (model X.prog X.w) X.A X.xe none Q acc C (.error x) s'') e s':=by
 obtain ⟨pJ,τ,H9,s9,J9,a,T,dx,Cv,H',rfl,os,bare,un,hok,fa,fT,na,nT,fl,hEE⟩:=h
 have J':Inv (cxComp X own fr sc C s2 H2 fp) pJ τ H' s':=J9.call' os un hok bare (ch:=[]) (fun b z=>(by cases z))
 have u2:Un (frs X.stack) fp H2 H' s2.heap s'.heap:=J'.base
 have nC:H' C = none:=J'.free
 have FF:s'.heap.FunFrames X.base X.stack:=J'.stack
 have old:∀ z,s9.heap.get? z = none -> z ∉ fp -> s2.heap.get? z = none:=fun z hz n=>by
  cases y:s2.heap.get? z with
  | none=>rfl
  | some o =>
   obtain ⟨o',y'⟩:=J9.base.there z o y n
   rw [hz] at y'
   cases y'
 have oldC:s2.heap.get? C = none:=Heap.get?_none_of_le hC
 have fz:∀ z ∈ [a,T,C],z ∉ fp -> s2.heap.get? z = none:=fun z hz n=>by
  simp only [List.mem_cons,List.not_mem_nil,or_false] at hz
  rcases hz with rfl | rfl | rfl
  ·exact old _ fa n
  ·exact old _ fT n
  ·exact oldC
 have nz:∀ z ∈ [a,T,C],H' z = none:=fun z hz=>by
  simp only [List.mem_cons,List.not_mem_nil,or_false] at hz
  rcases hz with rfl | rfl | rfl
  ·exact na
  ·exact nT
  ·exact nC
 have new0:∀ z ∈ [a,T,C],X.s₀.heap.get? z = none:=fun z hz=>by
  cases y:X.s₀.heap.get? z with
  | none=>rfl
  | some o =>
   exfalso
   by_cases n:z ∈ fp
   ·rcases (f2 z n).2.2.2.1 with w | w
    ·rw [Y.ex] at w; cases w
    ·exact absurd (Nat.lt_of_lt_of_le (Heap.lt_size y) w) (Nat.lt_irrefl _)
   ·obtain ⟨o',y'⟩:=I2.base.there z o y (by rw [Y.ex]; simp)
    rw [fz z hz n] at y'
    cases y'
 obtain ⟨m,hm,_⟩:=id J'.loc
 have hm:s'.heap.Ns C m:=hm
 obtain ⟨oe,vs,oT,ts,g1,g2,g3,g4,g5,g6,g7,g8⟩:=fl
 have fly:FlD (PySem.W.hideAll s'.heap ([a,T,C] ++ frs X.stack)) X.stack a (Cv,some dx) .none s'.heap:=by
  refine ⟨fun b o z=>PySem.W.of_hideAll _ z,PySem.W.hideAll_none _ (by simp),PySem.W.funFrames_hide FF fun env he b hb=>List.mem_append_right _ (List.mem_filterMap.mpr ⟨env,he,hb⟩),oe,vs,T,oT,ts,g1,g2,g3,g4,PySem.W.hideAll_none _ (by simp),g5,g6,g7,g8⟩
 have frC:∀ b ∈ frs X.stack,b ≠ C:=fun b hb z=>by
  obtain ⟨_,o,y,_⟩:=I2.stack.mem hb
  rw [z,oldC] at y
  cases y
 have nfC2:∀ env ∈ X.env :: X.outer,env.frame ≠ some C:=fun env he z=>frC C (by rw [Y.st]; exact List.mem_filterMap.mpr ⟨env,he,z⟩) rfl
 have hAf:X.A.frames = some (X.env :: X.outer):=by rw [I2.ok.frames,Y.st]
 rw [Y.st] at fly
 unfold notedBy
 rw [noteFrame_frame (env:=compEnvC sc (cellsFrom (C + 1) sc.names (clOf X.env.cells sc.names [])) C X.env) (env':=X.env) rfl]
 refine note_any hAf Y.fr fly fun h1 fly1 up1=>?_
 obtain ⟨oC,es,ep,hoC,hdC,hrest⟩:=id hm
 have nfC:∀ vs,oC.data ≠ .fields vs:=fun vs z=>by rw [hdC] at z; cases z
 obtain ⟨slC,hC1⟩:=up1 C oC hoC nfC
 refine ⟨m,up1.ns hm,fun h2 sb cenv hcl=>?_⟩
 have fly2:FlD (PySem.W.hideAll s'.heap ([a,T,C] ++ frs (X.env :: X.outer))) (X.env :: X.outer) a (Cv,some dx) (rawInt X.env.locals) h2:=by
  obtain ⟨st,nw,ff,oe1,vs1,T1,oT1,ts1,k1,k2,k3,k4,k5,k6,k7,k8,k9⟩:=fly1
  have hid:(PySem.W.hideAll s'.heap ([a,T,C] ++ frs (X.env :: X.outer))).get? C = none:=PySem.W.hideAll_none _ (by simp)
  have ne:∀ {b o ws},h1.get? b = some o -> o.data = .fields ws -> b ≠ C:=fun {b o ws} y z w=>by
   rw [w,hC1] at y
   cases y
   exact nfC ws z
  refine ⟨fun b o y=>(sb.2 b fun w=>by rw [w,hid] at y; cases y).trans (st b o y),nw,?_,oe1,vs1,T1,oT1,ts1,(sb.2 _ (ne k1 k3)).trans k1,k2,k3,k4,k5,k6,(sb.2 _ (ne k7 k8)).trans k7,k8,k9⟩
  exact funFrames_same sb ff nfC2
 refine pass_on fly2 fun h3 fl3 fly3 up3=>Y.xe _ _ ?_
 refine leave_any hAf Y.fr fly3 fun h5 fly5 up5=>?_
 have I5:Inv X pins σ H' { s' with heap:=h5 }:=by
  refine I2.back2 (zs:=[a,T,C]) u2 f2 J'.hok J'.bare J'.os fz nz (fun b o y n1 n2=>fly5.st b o (PySem.W.hideAll_get _ y fun w=>?_)) fun b o y hb=>?_
  ·rw [<- Y.st] at w
   rcases List.mem_append.mp w with w | w
   ·exact n1 w
   ·exact n2 w
  ·obtain ⟨_,o',y',nf⟩:=FF.mem hb
   rw [y] at y'
   cases y'
   obtain ⟨sl1,y1⟩:=up1 b o y nf
   have y2:=(sb.2 b (frC b hb)).trans y1
   obtain ⟨sl3,y3⟩:=up3 b _ y2 nf
   obtain ⟨sl5,y5⟩:=up5 b _ y3 nf
   exact ⟨sl5,y5⟩
 obtain ⟨oe',vs',T',oT',ts',q1,q2,q3,q4,q5,q6,q7,q8,q9⟩:=fly5.tr
 have newT:X.s₀.heap.get? T' = none /\ H' T' = none:=by
  by_cases hz:T' ∈ [a,T,C]
  ·exact ⟨new0 T' hz,nz T' hz⟩
  cases z:s'.heap.get? T' with
  | none =>
   refine ⟨?_,hok.gone z⟩
   cases y:X.s₀.heap.get? T' with
   | none=>rfl
   | some o =>
    exfalso
    obtain ⟨o',y'⟩:=I2.base.there T' o y (by rw [Y.ex]; simp)
    by_cases n:T' ∈ fp
    ·rcases (f2 T' n).2.2.2.1 with w | w
     ·rw [Y.ex] at w; cases w
     ·exact absurd (Nat.lt_of_lt_of_le (Heap.lt_size y) w) (Nat.lt_irrefl _)
    ·obtain ⟨o2,y2⟩:=u2.there T' o' y' n
     rw [z] at y2
     cases y2
  | some o =>
   exfalso
   by_cases hb:T' ∈ frs X.stack
   ·obtain ⟨_,o',z',nf⟩:=FF.mem hb
    rw [z] at z'
    cases z'
    obtain ⟨sl1,y1⟩:=up1 T' o z nf
    have y2:=(sb.2 T' (frC T' hb)).trans y1
    obtain ⟨sl3,y3⟩:=up3 T' _ y2 nf
    obtain ⟨sl5,y5⟩:=up5 T' _ y3 nf
    rw [q7] at y5
    cases y5
    exact nf ts' q8
   ·have:=PySem.W.hideAll_get ([a,T,C] ++ frs (X.env :: X.outer)) z fun y=>by
     rw [<- Y.st] at y
     rcases List.mem_append.mp y with y | y
     ·exact hz y
     ·exact hb y
    rw [q5] at this
    cases this
 have ub:=I5.base
 rw [Y.ex] at ub
 exact ⟨a,T',dx,Cv,H',rfl,I5.os,bare,ub,I5.hok,new0 a (by simp),newT.1,na,newT.2,⟨oe',vs',oT',ts',q1,q2,q3,q4,q6,q7,q8,q9⟩,hEE⟩
end
theorem codeAny_compLoop_M {prog:Program} {w:World} {A:Around} {R:Result -> Shared -> Prop} {s:Shared} {elt target iter:Expr} {ifs:List Expr} {scope:Scope} {pos:Pos} {it acc:Value} {env:Env} (I:Nat -> Shared -> Prop)
  (turn:∀ n s,I n s -> wpAny (model prog w) A (pyNext it) (fun r s₁=>match r with
    | none=>R (.ok .next) s₁
    | some v=>wpAny (model prog w) A (letOwnedTupleGo target it v) (fun _ s₁'=>wpAny (model prog w) A (assign target env v) (fun _ s₂ =>
        wpAny (model prog w) A (forIn ifs true fun c r=>if r = true then do let ok <- isTrue c env (eval c env); pure (ForInStep.yield ok) else pure (ForInStep.yield r)) (fun ok s₃ =>
          if ok = true then wpAny (model prog w) A (eval elt env) (fun x s₄ =>
            wpAny (model prog w) A (call (.builtin "list.append") [acc,x]) (fun _ s₅=>∃ m,m < n /\ I m s₅) (fun _ _=>False) s₄) (notedBy (model prog w) A env fun x s'=>R (.error x) s') s₃
          else ∃ m,m < n /\ I m s₃) (fun _ _=>False) s₂) (fun _ _=>False) s₁') (fun _ _=>False) s₁) (fun _ _=>False) s)
  (n:Nat) (h:I n s) :
  codeAny (model prog w) A (.compLoop (.ListComp elt [⟨target,iter,ifs,0⟩] scope pos) 0 it acc env) R s:=by
 refine codeAny_loop rfl I (fun n s hI=>?_) n h
 show wpAny _ A ((compTurn (.ListComp elt [⟨target,iter,ifs,0⟩] scope pos) 0 it acc env).onRaise (fun x=>do noteFrame x env; theTreesLotGoes x)) _ _ s
 refine wpAny_noted ?_
 rw [compTurn_list]
 refine wpAny_bind (wpAny_standAt (wpAny_bind (wpAny_mono (turn n s hI) (fun r s₁ h₁=>?_) fun _ _ h'=>h'.elim)))
 cases r with
 | none=>exact wpAny_pure h₁
 | some v =>
  refine wpAny_bind (wpAny_mono h₁ (fun _ s₁' h₁'=>?_) fun _ _ h'=>h'.elim)
  refine wpAny_bind (wpAny_mono h₁' (fun _ s₂ h₂=>wpAny_bind (wpAny_mono h₂ (fun ok s₃ h₃=>?_) fun _ _ h'=>h'.elim)) fun _ _ h'=>h'.elim)
  cases ok with
  | false=>exact wpAny_pure ⟨rfl,h₃⟩
  | true =>
   exact wpAny_bind (wpAny_bind (wpAny_mono h₃ (fun x s₄ h₄=>wpAny_bind (wpAny_mono h₄ (fun _ s₅ h₅=>wpAny_pure (wpAny_pure ⟨rfl,h₅⟩)) fun _ _ h'=>h'.elim)) fun _ _ h'=>h'))
theorem comp_blockM {X:Cx} {tg iter elt:Expr} {ifs:List Expr} {sc:Scope} {pos:Pos} {own:List Str} {fr:List Nat} {g:TG} {tc:TT} {te:TE} {pins:List (Addr × Obj)} {σ:St} {H2:Hp} {s2:Shared} {it:Addr} {fp:List Addr} {tn:Nat -> Heap -> Prop} {J:It} {Q:VK} {E:Value -> Shared -> Prop}
  {RR:Value -> Addr -> Result -> Shared -> Prop} {EX:Addr -> List Addr -> Value -> Shared -> Prop}
  (hc:X.calm = true) (S:CompSc X own fr sc) (I2:Inv X pins σ H2 s2) (T:Turn X.prog X.w X.K tg J fp it tn) (st2:tn 0 s2.heap) (f2:∀ b ∈ fp,FpOk X pins H2 b)
  (hg:∀ C ex,PG (cxComp X own fr sc C s2 H2 ex) tg g) (hif:∀ C ex,PIf (cxComp X own fr sc C s2 H2 ex) ifs tc) (he:∀ C ex,PE ((cxComp X own fr sc C s2 H2 ex).wish (EX C ex)) elt te)
  (W:Nat -> Nat -> List V -> St -> Hp -> Prop) (m0:Nat) (w0:W 0 m0 [] (st0 own σ fr) H2)
  (turn:∀ i m ys τ H,W i m ys τ H -> (J.stop i H /\ ∀ D,H D = none -> Q (.ref D) (upd H D (.lst ys))) \/
    (J.go i H /\ ys.length < sizeLine /\ ∃ N:List V -> St -> Hp -> Prop,(∀ ys' τ' H',N ys' τ' H' -> ∃ m',m' < m /\ W (i + 1) m' ys' τ' H') /\ ∀ x H',J.yld i H x H' -> g x τ H' fun τ2 H2 =>
      tc τ2 H2 fun b H3=>if b = true then te τ2 H3 fun y H4=>N (ys ++ [y]) τ2 H4 else N ys τ2 H3))
  (hRR:∀ D C H s',Inv X pins σ H s' -> Q (.ref D) H -> (∃ m,s'.heap.Ns C m) -> FpOk X pins H C -> RR (.ref D) C (.ok .next) s')
  (hEX:∀ D C e s',s2.heap.objs.size <= C -> EX C fp e s' -> notedBy (model X.prog X.w) X.A (compEnvC sc (cellsFrom (C + 1) sc.names (clOf X.env.cells sc.names [])) C X.env) (fun x s''=>RR D C (.error x) s'') e s') :
  wpAny (model X.prog X.w) X.A (newList []) (fun acc s₃=>wpAny (model X.prog X.w) X.A (newFunctionEnv sc X.env.globals (clOf X.env.cells sc.names []) [] X.env.qual none .none (some X.env)) (fun cenv s₄ =>
    codeAny (model X.prog X.w) X.A (.compStart (.ListComp elt [⟨tg,iter,ifs,0⟩] sc pos) 0 (.ref it) acc { cenv with scope:=relabel sc X.env }) (RR acc cenv.locals) s₄) E s₃) E s2:=by
 refine wpAny_newObj_type (wpAny_newEnvComp ?_)
 dsimp only
 generalize hH2:s2.heap.push { cls:=.type "list",dict:=none,data:=.seq ([]:List Value).toArray } = G
 generalize hh1:pushCells (G.push { cls:=.type "dict",data:=.dict #[] }) sc.names = h₁
 have kp:∀ b o,(G.push { cls:=.type "dict",data:=.dict #[] }).get? b = some o -> h₁.get? b = some o:=fun b o e=>hh1 ▸ pushCells_keeps _ _ b o e
 have hns₁:h₁.Ns G.objs.size fun x=>([]:List (Str × Value)).reverse.lookup x:=(Heap.Ns.new G (.type "dict")).keeps kp
 have cok:CellsOk h₁ (G.objs.size + 1) (cellsFrom (G.objs.size + 1) sc.names []):=by
  have:=cellsFrom_ok sc.names (G.push { cls:=.type "dict",data:=.dict #[] }) (G.objs.size + 1) [] ⟨fun _ _ hm=>(nomatch hm),List.Pairwise.nil⟩ (by rw [Heap.size_push]; exact Nat.le_refl _)
  rw [Heap.size_push,hh1] at this
  exact this
 have hC:G.objs.size = s2.heap.objs.size + 1:=by rw [<- hH2,Heap.size_push]
 have hCle:s2.heap.objs.size <= G.objs.size:=by rw [hC]; exact Nat.le_succ _
 have hDC:s2.heap.objs.size ≠ G.objs.size:=by rw [hC]; exact Nat.ne_of_lt (Nat.lt_succ_self _)
 have old:∀ b o,s2.heap.get? b = some o -> h₁.get? b = some o:=fun b o e=>kp b o (Heap.get?_push_of_some _ (hH2 ▸ Heap.get?_push_of_some _ e))
 have hacc:h₁.get? s2.heap.objs.size = some { cls:=.type "list",data:=.seq ([]:List Value).toArray }:=kp _ _ (Heap.get?_push_of_some _ (hH2 ▸ Heap.get?_push_size _ rfl))
 have st0':tn 0 h₁:=T.keep _ _ _ st2 fun b hb o e=>old b o e
 have fo:∀ b ∈ fp,∃ o,s2.heap.get? b = some o:=fun b hb=>let ⟨o,e,_⟩:=T.obj _ _ st2 b hb; ⟨o,e⟩
 have flt:∀ b ∈ fp,b < s2.heap.objs.size:=fun b hb=>by obtain ⟨o,e⟩:=fo b hb; exact Heap.lt_size e
 have clb:∀ x c,(clOf X.env.cells sc.names []).lookup x = some c -> X.env.cells.lookup x = some c:=fun x c e=>by
  rcases clOf_lookup (fun y hy e=>I2.ok.has y.1 (S.free y hy e)) e with z | z
  ·simp at z
  ·exact z
 have clb2:∀ (C':Addr) x c,(cellsFrom (C' + 1) sc.names (clOf X.env.cells sc.names [])).lookup x = some c -> C' + 1 <= c \/ X.env.cells.lookup x = some c:=fun C' x c e=>by
  rw [cf_app,lookup_app] at e
  cases q:(cellsFrom (C' + 1) sc.names []).lookup x with
  | none=>rw [q] at e; exact .inr (clb x c e)
  | some c'=>rw [q] at e; cases e; exact .inl (cf_mem _ _ (PySem.mem_of_lookup q)).2
 have stt:∀ C':Addr,s2.heap.objs.size <= C' -> ∀ {H':Hp} {pl:List (Addr × Obj)},(∀ b ∈ fp,H' b = none) -> (∀ p ∈ pl,s2.heap.objs.size <= p.1) -> ∀ b ∈ fp,FpOk (cxComp X own fr sc C' s2 H2 fp) pl H' b:=fun C' hC' H' pl hn hp b hb=>by
  have I0:=f2 b hb
  refine ⟨hn b hb,Nat.ne_of_lt (Nat.lt_of_lt_of_le (flt b hb) hC'),fun hm=>?_,.inl hb,fun x c e=>by
      rcases clb2 C' x c e with z | z
      · exact Nat.ne_of_gt (Nat.lt_of_lt_of_le (flt b hb) (Nat.le_trans hC' (Nat.le_of_succ_le z)))
      · exact I0.2.2.2.2.1 x c z,fun p hp'=>?_⟩
  ·rcases List.mem_cons.mp (I2.stkSub b hm) with z | z
   ·exact I0.2.1 z
   ·exact I0.2.2.1 z
  ·have hp':p ∈ pl:=by
    have:p ∈ ([]:List (Addr × Obj)) ++ pl:=hp'
    simpa using this
   exact Nat.ne_of_gt (Nat.lt_of_lt_of_le (flt b hb) (hp p hp'))
 have loop:∀ s₃:Shared,s₃ = { s2 with heap:=h₁,toks:=s2.toks } ->
   codeAny (model X.prog X.w) X.A (.compLoop (.ListComp elt [⟨tg,iter,ifs,0⟩] sc pos) 0 (.ref it) (.ref s2.heap.objs.size) (compEnvC sc (cellsFrom (G.objs.size + 1) sc.names (clOf X.env.cells sc.names [])) G.objs.size X.env))
    (RR (.ref s2.heap.objs.size) G.objs.size) s₃:=by
  rintro s₃ rfl
  have I3:=comp_start (own:=own) (fr:=fr) (tk:=s2.toks) S I2 f2 fo hCle (Nat.le_refl _) hDC hns₁ old (fun x c h=>(cok.empty x c h).1) cok.apart hacc (fun v z=>by cases z)
  refine codeAny_compLoop_M (fun n s'=>∃ i H' ys us k τ,Inv (cxComp X own fr sc G.objs.size s2 H2 fp) [(s2.heap.objs.size,{ cls:=.type "list",data:=.seq us.toArray k })] τ H' s' /\ tn i s'.heap /\ (∀ b ∈ fp,H' b = none) /\ Vals ys us /\ ys.length <= sizeLine /\ W i n ys τ H') ?_ m0
   ⟨0,H2,[],[],0,_,I3,st0',fun b hb=>(f2 b hb).1,.nil,Nat.zero_le _,w0⟩
  rintro n s4 ⟨i,H4,ys,us,k,τ,I4,st4,fr4,rv4,hz4,w4⟩
  have hp4:∀ p ∈ [(s2.heap.objs.size,({ cls:=.type "list",data:=.seq us.toArray k }:Obj))],s2.heap.objs.size <= p.1:=fun p hp=>by
   rw [List.mem_singleton.mp hp]
   exact Nat.le_refl _
  rcases turn i n ys τ H4 w4 with ⟨stop,qn⟩ | ⟨go,hlt,N,hN,step⟩
  ·refine thn (T.done (cxComp X own fr sc G.objs.size s2 H2 fp) rfl rfl rfl hc i _ s4 _ H4 (fun _ _=>False) I4 (stt _ hCle fr4 hp4) st4 stop) fun r s5 ⟨hr,I5⟩=>?_
   subst hr
   obtain ⟨a1,a2,a3⟩:=comp_end I2 f2 hCle (Nat.le_refl _) hDC I5 rfl rv4 hz4
   exact hRR _ _ _ s5 a1 (qn _ (I5.pin _ (List.mem_append_right _ (List.mem_singleton.mpr rfl))).2.1) a2 a3
  ·refine thn (T.item (cxComp X own fr sc G.objs.size s2 H2 fp) rfl rfl rfl hc i _ s4 _ H4 (fun _ _=>False) I4 (stt _ hCle fr4 hp4) st4 go) fun r s5 ⟨u,hr,h5⟩=>?_
   subst hr
   refine thn h5 fun _ s6 ⟨x,H6,I6,r6,y6,st6,fr6⟩=>?_
   have I6':=I6.pinned (stt _ hCle fr6 hp4) (T.obj _ _ st6)
   refine thn (hg G.objs.size fp _ s6 _ H6 x u _ I6' r6 (step x H6 y6)) fun _ s7 ⟨σ7,H7,I7,q7⟩=>?_
   refine thn (hif G.objs.size fp _ s7 σ7 H7 _ I7 q7) fun b s8 ⟨H8,I8,q8⟩=>?_
   have again:∀ {s9:Shared} {H9:Hp} {ys':List V} {us':List Value} {k':Nat},Inv (cxComp X own fr sc G.objs.size s2 H2 fp) ([(s2.heap.objs.size,{ cls:=.type "list",data:=.seq us'.toArray k' })] ++ pinsAt fp s6.heap) σ7 H9 s9 -> Vals ys' us' -> ys'.length <= sizeLine -> N ys' σ7 H9 ->
     ∃ m,m < n /\ ∃ i H' ys us k τ,Inv (cxComp X own fr sc G.objs.size s2 H2 fp) [(s2.heap.objs.size,{ cls:=.type "list",data:=.seq us.toArray k })] τ H' s9 /\ tn i s9.heap /\ (∀ b ∈ fp,H' b = none) /\ Vals ys us /\ ys.length <= sizeLine /\ W i m ys τ H':=fun {s9 H9 ys' us' k'} I9 rv9 hz9 n9=>by
    obtain ⟨m',hm,w9⟩:=hN ys' σ7 H9 n9
    refine ⟨m',hm,i + 1,H9,ys',us',k',σ7,I9.unpinned,T.keep _ _ _ st6 fun b hb o e=>(I9.pin (b,o) (List.mem_append_right _ (List.mem_append_right _ (mem_pinsAt hb e)))).1,fun b hb=>?_,rv9,hz9,w9⟩
    obtain ⟨o,e,d⟩:=T.obj _ _ st6 b hb
    exact (I9.pin (b,o) (List.mem_append_right _ (List.mem_append_right _ (mem_pinsAt hb e)))).2.1
   cases b with
   | false =>
    rw [if_neg Bool.false_ne_true] at q8 ⊢
    exact again I8 rv4 hz4 q8
   | true =>
    rw [if_pos rfl] at q8 ⊢
    refine wpAny_mono (he G.objs.size fp _ s8 σ7 H8 _ (I8.wish _) q8) (fun y s9 ⟨yv,H9,I9w,r9,n9⟩=>?_) fun e s' hx=>hEX _ _ e s' hCle hx
    have I9:=I9w.unwish
    refine comp_grow (X:=cxComp X own fr sc G.objs.size s2 H2 fp) I9 (Nat.le_refl _) (fun x c e z=>?_) (fun p hp z=>?_) (by rw [<- rv4.length]; exact hlt) fun k' s10 I10=>?_
    ·rcases clb2 _ x c e with y | y
     ·rw [z] at y
      exact absurd (Nat.lt_of_lt_of_le (Nat.lt_succ_of_le hCle) y) (Nat.lt_irrefl _)
     ·obtain ⟨v,q⟩:=I2.cell x c y
      exact absurd (Nat.lt_of_lt_of_le q.lt (by rw [z]; exact Nat.le_refl _)) (Nat.lt_irrefl _)
    ·have hp:p ∈ ([]:List (Addr × Obj)) ++ pinsAt fp s6.heap:=hp
     rw [List.nil_append] at hp
     have:=flt _ (of_pinsAt hp).1
     rw [z] at this
     exact absurd this (Nat.lt_irrefl _)
    ·exact again I10 (rv4.append (.cons r9 .nil)) (by rw [List.length_append,List.length_singleton]; omega) n9
 exact codeAny_compStart_list (loop _ rfl) (T.self _ 0 _ _ _ st0' (loop _ rfl))
theorem pe_compM {X:Cx} {tg iter elt:Expr} {ifs:List Expr} {sc:Scope} {pos:Pos} {own:List Str} {fr:List Nat} {wi:TI} {g:TG} {tc:TT} {te:TE} {E:XK} (Y:InFr X E) (S:CompSc X own fr sc) (hi:PI X tg iter wi)
  (hg:∀ C s H ex,PG (cxComp X own fr sc C s H ex) tg g) (hif:∀ C s H ex,PIf (cxComp X own fr sc C s H ex) ifs tc) (he:∀ C s H ex,PE ((cxComp X own fr sc C s H ex).wish (EXc X own fr sc C s H ex E)) elt te)
  (hs:∀ x,foldedSetIterable iter X.env x = pure x:=by intro _; rfl):PE X (.ListComp elt [⟨tg,iter,ifs,0⟩] sc pos) (tCompW wi own fr g tc te):=by
 intro pins s σ H Q I h
 rw [eval_ListComp]
 refine wpAny_comprehension_free (use:=none) rfl hs (closure_of fun y hy e=>I.ok.has y.1 (S.free y hy e)) S.kind S.loc (thn (hi pins s σ H _ I h) fun v s1 h1=>thn h1 fun itv s2 h2=>?_)
 obtain ⟨it,fp,tn,J,H2,e,I2,T,st2,f2,W,⟨m0,w0⟩,turn⟩:=h2
 subst e
 refine comp_blockM (Q:=Q) (RR:=fun acc C=>compPost (model X.prog X.w) X.A X.xe none (EP X pins σ Q) acc C) (EX:=fun C ex=>EXc X own fr sc C s2 H2 ex E) Y.ca S I2 T st2 f2 (fun C ex=>hg C s2 H2 ex) (fun C ex=>hif C s2 H2 ex) (fun C ex=>he C s2 H2 ex) W m0 w0 turn ?_ fun D C e s' hC hx=>comp_leaves Y I2 f2 hC hx
 intro D C H' s' I' q ⟨m,hm⟩ fC
 refine ⟨m,hm,fun h' sb=>⟨.ref D,H',?_,rfl,q⟩⟩
 obtain ⟨f0,f1,f2,f3,f4,f5⟩:=fC
 exact I'.turned (t':=s'.toks) (fun b o hb e=>(sb.2 b hb).trans e) f0 f1 f3 f4 f5
theorem passes_c {X:Cx} {own:List Str} {fr:List Nat} {sc:Scope} {C:Addr} {s:Shared} {H:Hp} {ex:List Addr} {E:XK}:Passes (CXL X.prog X.w) ((cxComp X own fr sc C s H ex).wish (EXc X own fr sc C s H ex E)) E :=
 fun _ _ _ _ _ _ I h=>⟨_,_,_,_,I.unwish,h⟩
end L2
namespace L3
open PySem PySem.Spec PyProof.Rows L2
noncomputable def mComp (ti:TDI) (own:List Str) (fr:List Nat) (g:TDG) (tc:TTD) (te:TDX):TDX:=fun Ex=>dCompC ti own fr g tc (te Ex)
theorem l_mcomp {K:Fg} {C:Addr} {E:XK} {ti:TDI} {own:List Str} {fr:List Nat} {g:TDG} {tc:TTD} {te:TDX} (nd:fr.Nodup) {σ:L2.St} {H:Hp} {Q:VK} (h:liftE K C E (mComp ti own fr g tc te) σ H Q):tCompW (liftI K ti) own fr (liftG K g) (liftT K tc) (liftE K C E te) σ H Q:=by
 obtain ⟨G,F,ρ,Qd,Ex,R,w,k,x⟩:=h
 refine ⟨G,F,ρ,_,R,w,fun J H1 F1 ds ρ1 s1 R1 wk ⟨hz,w1⟩=>?_⟩
 have Ri:=R1.inner (own:=own) nd
 have xi:exOk K C E (ghC own fr F1 H1 σ ρ1) F1 Ex:=fun n σ' H' F' ρ' y s' R' dx hdx=>x n σ H' F' _ y (s1.trans s') (R1.outer R' nd) dx hdx
 refine ⟨fun i m ys τ H=>m = ds.length - i /\ i <= ds.length /\ ∃ F' ρ' acc,Rel K (ghC own fr F1 H1 σ ρ1) F' τ H ρ' /\ DaAll K F' ys acc /\ acc.length <= i /\ dCompLC own.length g tc (te Ex) (ds.drop i) acc ρ' (fun ys τ=>Qd (.ow (.list ys)) (wbGo fr (τ.drop own.length) 0 ρ1)),
   ⟨ds.length,rfl,Nat.zero_le _,F1,_,[],Ri,.nil,Nat.zero_le _,w1⟩,?_⟩
 rintro i m ys τ H' ⟨rfl,hi,F',ρ',acc,R',da,hl,w'⟩
 obtain ⟨hgo,hst⟩:=wk i H' F' R'.sub0 R'.sub
 cases e:ds[i]? with
 | none =>
  have hl':ds.length <= i:=List.getElem?_eq_none_iff.mp e
  refine .inl ⟨hst (by omega),fun Dd hD=>?_⟩
  rw [List.drop_of_length_le hl'] at w'
  have Ro:=R1.outer R' nd
  obtain ⟨Rn,rn⟩:=Ro.newOw (o:=.lst ys) (d:=.list acc) hD da
  exact k _ _ F' _ _ (s1.trans R'.sub0) Rn rn w'
 | some d =>
  obtain ⟨go,yl⟩:=hgo d e
  have hlt:=lt_of_get e
  rw [drop_get e] at w'
  refine .inr ⟨go,by rw [da.length]; omega,fun ys2 τ2 H2=>∃ F2 ρ2 acc2,Rel K (ghC own fr F1 H1 σ ρ1) F2 τ2 H2 ρ2 /\ DaAll K F2 ys2 acc2 /\ acc2.length <= i + 1 /\ dCompLC own.length g tc (te Ex) (ds.drop (i + 1)) acc2 ρ2 (fun ys τ=>Qd (.ow (.list ys)) (wbGo fr (τ.drop own.length) 0 ρ1)),
    fun ys2 τ2 H2 ⟨F2,ρ2,acc2,z1,z2,z3,z4⟩=>⟨ds.length - (i + 1),by omega,rfl,hlt,F2,ρ2,acc2,z1,z2,z3,z4⟩,fun x2 H2 y=>?_⟩
  obtain ⟨F2,t1,t2,t3,t4,t5⟩:=yl x2 H2 y
  have R2:=R'.turn t1 t2 t3 t4
  refine ⟨_,F2,ρ',d,_,R2,t5,w',fun τ3 ρ3 R3 w3=>?_⟩
  refine ⟨_,F2,ρ3,_,R3,w3,fun b H4 F4 ρ4 s4 R4 w4=>?_⟩
  cases b with
  | false=>exact ⟨F4,_,acc,R4.clean _,da.mono (t1.trans s4),by omega,w4⟩
  | true =>
   refine ⟨_,F4,ρ4,_,Ex,R4,w4,fun v H5 F5 r ρ5 s5 R5 r5 w5=>?_,xi.mono R4.sub0⟩
   obtain ⟨F6,s6,R6,d6⟩:=r5.frz R5
   exact ⟨F6,_,acc ++ [r.d],R6.clean _,(da.mono (t1.trans (s4.trans (s5.trans s6)))).append (.cons d6 .nil),by simp; omega,w5⟩
section
variable {X:Cx} {K:Fg} {C:Addr} {E:XK} {tg e1:Expr} {es:List Expr} {as:List AD} {x:Str} {k:Nat} {ps:List Str} {con:ConM} {p pos:Pos} {td:TDX} {tc:TTD}
theorem m_comp {elt iter:Expr} {ifs:List Expr} {sc:Scope} {own:List Str} {fr:List Nat} {ti:TDI} {g:TDG} (Y:InFr X E) (S:compOk X.env.scope X.N fr sc = true) (hi:WI X tg iter (liftI K ti)) (hg:∀ C s H ex,WG (cxComp X own fr sc C s H ex) tg (liftG K g))
  (hif:∀ C s H ex,WIf (cxComp X own fr sc C s H ex) ifs (liftT K tc)) (he:∀ C' s H ex,WEM ((cxComp X own fr sc C' s H ex).wish (EXc X own fr sc C' s H ex E)) K C E elt td) (nd:fr.Nodup:=by decide) (hs:notSet iter = true:=by rfl):WEM X K C E (.ListComp elt [⟨tg,iter,ifs,0⟩] sc pos) (mComp ti own fr g tc td) :=
 ⟨peM (pe_compM Y (compSc_of S) hi.h (fun C s H ex=>(hg C s H ex).h) (fun C s H ex=>(hif C s H ex).h) (fun C s H ex=>(he C s H ex).h) (folded_of hs)) (l_mcomp nd)⟩
theorem m_fnC {own:List Str} {fr:List Nat} {sc:Scope} {C':Addr} {s:Shared} {H:Hp} {ex:List Addr} (hK:X.K = K) (cal:CalM X.prog X.w X.K X.mg X.base k x ps (conSpM K C con)) (hr:Room k X.A) (ha:WA (cxComp X own fr sc C' s H ex).nox (e1 :: es) (tArgs (as.map (argT K)))) (hg:Gl (cxComp X own fr sc C' s H ex) x:=by rfl) (hdb:(x == ("__debug__":Str)) = false:=by decide) (he:notStar e1 = true:=by rfl) (hpl:es.all notStar = true:=by rfl) :
  WEM ((cxComp X own fr sc C' s H ex).wish (EXc X own fr sc C' s H ex E)) K C E (.Call (.Name x p) (e1 :: es) [] pos) (mCall con as):=by
 subst hK
 obtain ⟨f,fd,F,hm,hk,hb⟩:=cal.ex
 exact ⟨fun pins s' σ H' Q I w=>pe_call (X:=(cxComp X own fr sc C' s H ex).wish (EXc X own fr sc C' s H ex E)) F hr hg hm hk hb .nil passes_c (PA.nox ha.h) hdb (starEach_of he) (plain_of hpl) pins s' σ H' Q I (l_mcall w)⟩
end
end L3
namespace L2
open PySem PySem.Spec PyProof.Rows
noncomputable def rPart:V -> List V -> Hp -> VK -> Prop:=fun x vs H Q=>∃ (t y:Str),x = .str t /\ vs = [.str y] /\ (y.length == 0) = false /\ t.length <= sizeLine /\ ∀ l,H l = none -> Q (.ref l) (upd H l (.tup [.str (Txt.partition t y).1,.str (Txt.partition t y).2.1,.str (Txt.partition t y).2.2]))
theorem mt_part {X:Cx}:MtR X "str.partition" rPart:=by
 intro pins s σ H x vs v us Q I rx rv h
 obtain ⟨x,y,rfl,rfl,hy,hz,q⟩:=h
 obtain ⟨t,rfl⟩:=rx
 obtain ⟨u,rfl,ru⟩:=rv.one
 obtain ⟨u,rfl⟩:=ru
 have fin:∀ (a b c:Str) (ta tb tc:Tok) (k:Nat),(Txt.partition x y) = (a,b,c) -> EP X pins σ Q (.ref s.heap.objs.size) { s with toks:=k,heap:=s.heap.push { cls:=.type "tuple",data:=.seq [.str a ta,.str b tb,.str c tc].toArray } }:=fun a b c ta tb tc k e=>by
  rw [e] at q
  exact ⟨.ref s.heap.objs.size,_,I.laid (t':=k) (o:=.tup [.str a,.str b,.str c]) (fun b o e=>Heap.get?_push_of_some _ e) (Nat.le_refl _) ⟨by show 3 <= sizeLine; decide,_,.cons ⟨ta,rfl⟩ (.cons ⟨tb,rfl⟩ (.cons ⟨tc,rfl⟩ .nil)),IsTupD.new _ _⟩,rfl,q _ (I.hok.fresh (Nat.le_refl _))⟩
 refine call_meets F.slot_str_partition (typeIs_str s x t) F.entry_str_partition (F.args_str_partition_2 _ _) (meets_str_partition x y t u hy hz) ?_
 have e:Txt.partition x y = match Builtin.Str.occurrences x y 0 x.length 1 with
   | i :: _=>(Builtin.Str.strSub x 0 i,y,Builtin.Str.strSub x (i + y.length) x.length)
   | []=>(x,Str.empty,Str.empty):=rfl
 revert e
 cases Builtin.Str.occurrences x y 0 x.length 1 with
 | nil=>exact fun e=>fin _ _ _ _ _ _ _ e
 | cons i r=>exact fun e=>fin _ _ _ _ _ _ _ e
theorem call_strA {X:Cx}:CallR X (.type "str") (fun xs H Q=>(∃ i,xs = [.int i] /\ i.natAbs.log2 < 1920 /\ Q (.str (toString i)) H) \/ ∃ x,xs = [.str x] /\ Q (.str x) H):=by
 intro pins s σ H xs us Q I r h
 rcases h with h | ⟨x,rfl,q⟩
 ·exact call_str_int pins s σ H xs us Q I r h
 ·obtain ⟨u,rfl,t,rfl⟩:=vals1 r
  exact PySem.P.str_of_str ⟨.str x,H,I,⟨t,rfl⟩,q⟩
section
variable {prog:Program} {w:World} {A:Around} {E:Value -> Shared -> Prop} {s:Shared}
theorem applied_rev {sl:Addr} {t:Tok} {n:Nat} {Q:Int × Int × Nat -> Shared -> Prop} (hs:s.heap.IsSliceOf sl .none .none (.int (-1) t)) (h:Q ((n:Int) - 1,-1,n) s):wpAny (model prog w) A (Builtin.Slice.sliceApplied (.ref sl) (pure (n:Int))) Q E s:=by
 obtain ⟨os,hos,hcs,hds⟩:=id hs
 unfold Builtin.Slice.sliceApplied Builtin.Slice.sliceFields
 refine wpAny_bind (wpAny_bind (wpAny_field hos hds (x:=.none) rfl (wpAny_bind (wpAny_field hos hds (x:=.none) rfl (wpAny_bind (wpAny_field hos hds (x:=.int (-1) t) rfl (wpAny_pure ?_)))))))
 refine wpAny_bind (HT.slicePart_ (.int (-1) t) ?_)
 show wpAny _ _ (if ((-1:Int) == 0) = true then _ else _) _ _ s
 rw [if_neg (by decide)]
 refine wpAny_bind (HT.slicePart_ .none (wpAny_bind (HT.slicePart_ .none (wpAny_bind (wpAny_pure ?_)))))
 have e:Builtin.Slice.slicePlaces ((n:Int) - 1) (-1) (-1) = n:=by
  unfold Builtin.Slice.slicePlaces
  rw [if_neg (by decide),show (- -1:Int) = 1 by decide,Int.ediv_one]
  split <;> omega
 show wpAny _ _ (pure ((n:Int) - 1,(-1:Int),Builtin.Slice.slicePlaces ((n:Int) - 1) (-1) (-1))) _ _ s
 rw [e]
 exact wpAny_pure h
theorem fm_congr {α:Type} {f g:Nat -> Option α}:∀ {l:List Nat},(∀ k ∈ l,f k = g k) -> l.filterMap f = l.filterMap g
 | [],_=>rfl
 | a :: l,h=>by
  rw [List.filterMap_cons,List.filterMap_cons,h a (by simp),fm_congr fun k hk=>h k (by simp [hk])]
theorem rev_pick (xs:List Value):((List.range xs.length).filterMap fun (k:Nat)=>xs.toArray[((xs.length:Int) - 1 + (k:Int) * -1).toNat]?) = xs.reverse:=by
 have e:∀ k ∈ List.range xs.length,xs.toArray[((xs.length:Int) - 1 + (k:Int) * -1).toNat]? = xs.reverse[k]?:=fun k hk=>by
  have:=List.mem_range.mp hk
  rw [List.getElem?_reverse this,List.getElem?_toArray]
  congr 1
  omega
 rw [fm_congr e]
 have g:∀ ys:List Value,(List.range ys.length).filterMap (fun k=>ys[k]?) = ys:=fun ys=>by
  have h:=pick_run ys.toArray 0 ys.length
  simp at h
  have e2:((fun x=>ys[x]?) ∘ fun x=>0 + x) = fun x=>ys[x]?:=by funext x; simp
  first | exact h | (rw [e2] at h; exact h)
 have:=g xs.reverse
 rwa [List.length_reverse] at this
theorem getItem_tuple_rev {a sl:Addr} {its:List Value} {t:Tok} {Q:Value -> Shared -> Prop} (ht:IsTup s.heap a its.toArray) (hs:s.heap.IsSliceOf sl .none .none (.int (-1) t))
  (h:Q (.ref s.heap.objs.size) { s with heap:=s.heap.push { cls:=.type "tuple",data:=.seq its.reverse.toArray } }) (hsz:its.length <= sizeLine):wpAny (model prog w) A (getItem (.ref a) (.ref sl)) Q E s:=by
 have htake:sizeOk (.seq its.reverse.toArray):=by
  show its.reverse.toArray.size <= sizeLine
  rw [List.size_toArray,List.length_reverse]
  exact hsz
 obtain ⟨os,hos,hcs,hds⟩:=id hs
 have hTs:s.TypeIs (.ref sl) "slice":=⟨os,hos,hcs⟩
 unfold getItem
 try with_reducible refine wpAny_holding ?_
 first | refine wpAny_bind (wpAny_pure ?_) | skip
 refine wpAny_bind (wpAny_sequenceKey ht.typeIs (by decide) ?_)
 refine wpAny_bind (wpAny_callSpecial?_slot (name:=Str.ofString "__getitem__") ht.typeIs PyProof.Rows.slot_tuple_getitem
   (wpAny_call_entry PyProof.Rows.slot_tuple_getitem ht.typeIs entry_tuple_getitem ?_ (args_tuple_getitem _ _)))
 show wpAny _ _ (Builtin.Tuple.tupleItemsOf (.ref a) >>= _) _ _ s
 refine wpAny_bind (tupleItemsOf_ ht ?_)
 refine wpAny_bind (wpAny_typeOf hTs ?_)
 rw [if_pos (by decide)]
 refine wpAny_bind (applied_rev (n:=its.toArray.size) hs ?_)
 have e:((List.range its.toArray.size).filterMap fun (k:Nat)=>its.toArray[((its.toArray.size:Int) - 1 + (k:Int) * -1).toNat]?).toArray = its.reverse.toArray:=by
  rw [List.size_toArray,rev_pick]
 show wpAny _ _ (if (((its.toArray.size:Int) - 1) == 0 && (-1:Int) == 1 && its.toArray.size == its.toArray.size) = true then _ else _) _ _ s
 rw [if_neg (by simp),e]
 first
  | exact wpAny_bind (m:=Builtin.Tuple.tupleExact _) (wpAny_newObj_type (wpAny_pure ⟨_,rfl,wpAny_pure h⟩) htake)
  | exact wpAny_bind (m:=Builtin.Tuple.tupleExact _) (wpAny_newObj_type (wpAny_bind (wpAny_pure (wpAny_pure ⟨_,rfl,wpAny_pure h⟩))) htake)
  | exact wpAny_bind (wpAny_bind (m:=Builtin.Tuple.tupleExact _) (wpAny_newObj_type (wpAny_pure (wpAny_pure ⟨_,rfl,wpAny_pure h⟩)) htake))
  | exact wpAny_bind (wpAny_bind (m:=Builtin.Tuple.tupleExact _) (wpAny_newObj_type (wpAny_pure ⟨_,rfl,wpAny_pure h⟩) htake))
end
noncomputable def rRevT (K:PySem.W.Frag):V -> V -> Hp -> VK -> Prop:=fun x y H Q=>y = .int (-1) /\ ∃ a xs,x = .ref a /\ SqT K H a xs /\ ∀ p,H p = none -> Q (.ref p) (upd H p (.tup xs.reverse))
theorem pe_revT {X:Cx} {e k:Expr} {te tk:TE} {pos p2:Pos} (he:PE X e te) (hk:PE X k tk):PE X (.Subscript e (.Slice none none (some k) p2) pos) (tOp (rRevT X.K) te tk):=by
 intro pins s σ H Q I h
 refine Subscript_ (thn (he pins s σ H _ I h) fun v s1 ⟨x,H1,I1,r1,q1⟩=>?_)
 refine wpAny_Slice ?_
 rw [evalPart_none]
 refine wpAny_pure (wpAny_pure ?_)
 rw [evalPart_some]
 refine thn (hk pins s1 σ H1 _ I1 q1) fun vk s2 ⟨y,H2,I2,r2,q2⟩=>?_
 obtain ⟨rfl,a,xs,rfl,hx,q⟩:=q2
 obtain ⟨t,rfl⟩:=r2
 cases r1
 have I3:Inv X pins σ H2 { s2 with heap:=s2.heap.push { cls:=.type "slice",data:=.fields #[.none,.none,.int (-1) t] } }:=I2.kept (t':=s2.toks) fun b ob q=>Heap.get?_push_of_some _ q
 obtain ⟨its,r,ht,hz⟩:=I3.tuple hx
 have hlen:=r.length
 show wpAny (model X.prog X.w) X.A (subscriptTail e (.Slice none none (some k) p2) (.ref a) (.ref s2.heap.objs.size)) (EP X pins σ Q) X.xe { s2 with heap:=s2.heap.push { cls:=.type "slice",data:=.fields #[.none,.none,.int (-1) t] } }
 refine tail_any (T:="tuple") (ops:=[.ref a,.ref s2.heap.objs.size]) ht.typeIs PyProof.Rows.slot_tuple_getitem.lookup ?_ (by with_unfolding_all rfl)
 refine getItem_tuple_rev ht (Heap.IsSliceOf.new ..) ?_ (by rw [<- hlen]; exact hz)
 refine ⟨.ref _,_,I3.laid (t':=s2.toks) (o:=.tup xs.reverse) (fun b ob q=>Heap.get?_push_of_some _ q) (Nat.le_refl _) ?_,rfl,q _ (I3.hok.fresh (Nat.le_refl _))⟩
 exact ⟨by rw [List.length_reverse]; exact hz,its.reverse,r.reverse,IsTupD.new _ _⟩
end L2
namespace L3
open PySem PySem.Spec PyProof.Rows L2
noncomputable def fPart (y:Str):D -> (Sl -> Prop) -> Prop
 | .str x,Q=>(y.length == 0) = false /\ x.length <= sizeLine /\ Q (.fz (.tuple [.str (Txt.partition x y).1,.str (Txt.partition x y).2.1,.str (Txt.partition x y).2.2]))
 | _,_=>False
theorem ok_part {K:Fg} (y:Str):OpOk K (r1L fun x H Q=>tyV K "str" x H /\ rPart x [.str y] H Q) (o1 (fPart y)):=ok1 fun G F σ H ρ x d Q Qd R h1 w k=>by
 cases d <;> first | exact w.elim | skip
 rename_i t
 obtain ⟨h2,h3,w⟩:=(show (y.length == 0) = false /\ t.length <= sizeLine /\ Qd (.fz (.tuple [.str (Txt.partition t y).1,.str (Txt.partition t y).2.1,.str (Txt.partition t y).2.2])) from w)
 cases h1.str
 refine ⟨_,rfl,rfl,t,y,rfl,rfl,h2,h3,fun l hl=>?_⟩
 obtain ⟨sb,R',dd⟩:=R.newTup hl (.cons (Da.str _) (.cons (Da.str _) (.cons (Da.str _) .nil)))
 exact k _ _ _ (.fz _) sb R' dd w
noncomputable def fStrA:D -> (Sl -> Prop) -> Prop
 | .int i,Q=>i.natAbs.log2 < 1920 /\ Q (.fz (.str (toString i)))
 | .str x,Q=>Q (.fz (.str x))
 | _,_=>False
theorem ok_strA {K:Fg}:OpOk K (fun xs H Q=>(∃ i,xs = [V.int i] /\ i.natAbs.log2 < 1920 /\ Q (V.str (toString i)) H) \/ ∃ x,xs = [V.str x] /\ Q (V.str x) H) (o1 fStrA):=ok1 fun G F σ H ρ x d Q Qd R h1 w k=>by
 cases d <;> first | exact w.elim | skip
 ·cases h1.int
  exact .inl ⟨_,rfl,w.1,k _ H F (.fz _) (Sub.refl _) R (Da.str _) w.2⟩
 ·cases h1.str
  exact .inr ⟨_,rfl,k _ H F (.fz _) (Sub.refl _) R (Da.str _) w⟩
noncomputable def fRevT:D -> D -> (Sl -> Prop) -> Prop
 | .tuple ds,.int j,Q=>j = -1 /\ Q (.fz (.tuple ds.reverse))
 | _,_,_=>False
theorem ok_revT {K:Fg}:OpOk K (r2L (rRevT K)) (o2 fRevT):=ok2 fun G F σ H ρ x y d e Q Qd R h1 h2 w k=>by
 cases d <;> first | exact w.elim | skip
 cases e <;> first | exact w.elim | skip
 rename_i ds j
 have w:j = -1 /\ Qd (.fz (.tuple ds.reverse)):=w
 cases h2.int
 obtain ⟨a,us,rfl,f1,e1,d1⟩:=h1.tuple R.sub
 refine ⟨by rw [w.1],a,us,rfl,SqT.of e1,fun p hp=>?_⟩
 obtain ⟨sb,R',dd⟩:=R.newTup hp d1.reverse
 exact k _ _ _ (.fz _) sb R' dd w.2
noncomputable def mTup (td:TDX):TDX:=fun Ex ρ Q=>td Ex ρ fun r ρ1=>fTuple r.d fun r'=>Q r' ρ1
theorem l_mtup {K:Fg} {C:Addr} {E:XK} {td:TDX} {σ:L2.St} {H:Hp} {Q:VK} (h:liftE K C E (mTup td) σ H Q):tCB (rTupleOf K) (tCons (liftE K C E td) tNil) σ H Q:=by
 obtain ⟨G,F,ρ,Qd,Ex,R,w,k,x⟩:=h
 refine ⟨G,F,ρ,_,Ex,R,w,fun v H1 F1 r ρ1 s1 R1 r1 w1=>?_,x⟩
 obtain ⟨F2,s2,R2,d2⟩:=r1.frz R1
 exact ok_tuple G F2 σ H1 ρ1 [v] [r.d] Q (fun r'=>Qd r' ρ1) R2 (.cons (.inl d2) .nil) w1 fun v' H' F' r' s' R' rr q=>k v' H' F' r' ρ1 (s1.trans (s2.trans s')) R' rr q
section
variable {X:Cx} {K:Fg} {C:Addr} {E:XK} {e e1 e2:Expr} {a b:AD} {td:TDX} {p pos p2 cpos apos:Pos}
theorem m_tup (hK:X.K = K) (hm:X.mg "tuple" = none) (he:WEM X K C E e td) (hg:Gl X "tuple":=by rfl) (hs:notStar e = true:=by rfl):WEM X K C E (.Call (.Name "tuple" p) [e] [] pos) (mTup td) :=
 ⟨peM (pe_callTy (call_tupleK hK) hg hm boot_tuple (pa_cons he.h pa_nil (starEach_of hs)) (by decide) (by decide) (starEach_of hs) (plain_of rfl)) l_mtup⟩
theorem w_part {y:Str} {k2:Nat} {p2:Pos} (hK:X.K = K) (ha:WE X e (argT K a))
  (hbase:attributeBase e "partition" X.env (eval e X.env) = eval e X.env:=by rfl)
  (hfew:((backTo cpos (starEach [.Constant (.str y) k2 p2] X.env)).all (fun x=>!x.1) && (backToKw cpos (keywordEach [] X.env)).all (fun x=>x.1.isSome) && decide ([Expr.Constant (.str y) k2 p2].length + ([]:List Keyword).length + (if ([]:List Keyword).isEmpty then 0 else 1) < 30)) = true:=by rfl)
  (hline:(apos.endLine == cpos.line) = true:=by rfl):WE X (.Call (.Attribute e "partition" apos) [.Constant (.str y) k2 p2] [] cpos) (lift K (dOp [a] (o1 (fPart y)))):=by
 subst hK
 exact ⟨cvu (ok_part y) (peM (pe_bm PySem.F.plainAttrs_str PySem.F.slot_str_partition PySem.F.type_str_partition mt_part ha.h (pa_cons pe_str pa_nil (starEach_of rfl)) hbase hfew hline (starEach_of rfl) rfl) fun q=>q)⟩
theorem w_revT (hK:X.K = K) (ha:WE X e1 (argT K a)) (hb:WE X e2 (argT K b)):WE X (.Subscript e1 (.Slice none none (some e2) p2) pos) (lift K (dOp [a,b] (o2 fRevT))):=by
 subst hK
 exact ⟨peM (pe_revT ha.h hb.h) fun q=>arg2 (P:=fun x y H=>rRevT X.K x y H _) (l_op ok_revT q)⟩
end
end L3
namespace R61
open PySem L2 L3 PyProof.Rows
noncomputable def top (i:Nat):Stmt:=PySem.Challenge.pw_boxsums_k61_box_texts.main.body.getD i (.Pass ⟨0,0,0,0⟩)
structure Txt (mg:Str -> Option Value):Prop where
 len_:mg "len" = none
 abs_:mg "abs" = none
 max_:mg "max" = none
 min_:mg "min" = none
 zip_:mg "zip" = none
 int_:mg "int" = none
 bool_:mg "bool" = none
 range_:mg "range" = none
 repr_:mg "repr" = none
 sorted_:mg "sorted" = none
 isinstance_:mg "isinstance" = none
 list_:mg "list" = none
 tuple_:mg "tuple" = none
 all_:mg "all" = none
 sum_:mg "sum" = none
 dict_:mg "dict" = none
 str_:mg "str" = none
 reversed_:mg "reversed" = none
 MOST_FIGURES_:∃ t,mg "MOST_FIGURES" = some (.int 30 t)
 ValueError_:mg "ValueError" = none
 BoxError_:mg "BoxError" = some (.ref (cA mg "BoxError"))
 NoField_:mg "NoField" = some (.ref (cA mg "NoField"))
 NoBox_:mg "NoBox" = some (.ref (cA mg "NoBox"))
 NoTurn_:mg "NoTurn" = some (.ref (cA mg "NoTurn"))
 NoNumber_:mg "NoNumber" = some (.ref (cA mg "NoNumber"))
 NoText_:mg "NoText" = some (.ref (cA mg "NoText"))
 NoRow_:mg "NoRow" = some (.ref (cA mg "NoRow"))
 NoBack_:mg "NoBack" = some (.ref (cA mg "NoBack"))
 FIGURES_:∃ t,mg "FIGURES" = some (.str "0123456789" t)
structure Cls (K:PySem.W.Frag) (mg:Str -> Option Value):Prop where
 BoxError_i:IniB K (cA mg "BoxError")
 NoText_q:ExcQJ K (cA mg "NoText")
 NoText_s:qIn K (cA mg "NoText") "__setattr__" = true
 BoxError_e:ExcC K (cA mg "BoxError")
 BoxError_c:clsIn K (cA mg "BoxError") = true
 NoField_c:clsIn K (cA mg "NoField") = true
 NoBox_c:clsIn K (cA mg "NoBox") = true
 NoTurn_c:clsIn K (cA mg "NoTurn") = true
 NoNumber_c:clsIn K (cA mg "NoNumber") = true
 NoText_c:clsIn K (cA mg "NoText") = true
 NoRow_c:clsIn K (cA mg "NoRow") = true
 NoBack_c:clsIn K (cA mg "NoBack") = true
 NoText_BoxError:subIn K (cA mg "NoText") (cA mg "BoxError") = true
 NoText_NoField:subIn K (cA mg "NoText") (cA mg "NoField") = false
 NoText_NoBox:subIn K (cA mg "NoText") (cA mg "NoBox") = false
 NoText_NoTurn:subIn K (cA mg "NoText") (cA mg "NoTurn") = false
 NoText_NoNumber:subIn K (cA mg "NoText") (cA mg "NoNumber") = false
 NoText_NoText:subIn K (cA mg "NoText") (cA mg "NoText") = true
 NoText_NoRow:subIn K (cA mg "NoText") (cA mg "NoRow") = false
 NoText_NoBack:subIn K (cA mg "NoText") (cA mg "NoBack") = false
noncomputable def stIni:Stmt:=match top 6 with
 | .ClassDef _ _ _ (st :: _) _ _ _ _ _ _ _=>st
 | st=>st
theorem scIni:FnScope ["self","line","words"] ["self","line","words"] (defScope stIni):=⟨rfl,rfl,rfl,by decide +kernel,rfl,by decide +kernel,by decide +kernel⟩
structure FunI (K:PySem.W.Frag) (C:Addr):Prop where
 ex:∃ (f T:Addr) (od od2:Option Addr) (kV doc pm:Value) (an:Option Addr) (cdv ct:Value) (osl osl2:Array (Option Value)) (oc2 u v:Value) (n:Nat),
  K.lookup f = some ⟨.type "function",od,.func (PySem.W.fnOf "__init__" "NoText.__init__" (defArgs stIni) (defBody stIni) (defScope stIni) (.ref T) kV doc pm an cdv ct),osl⟩ /\ PySem.W.codeIn K cdv "NoText.__init__" = true /\ K.lookup T = some ⟨oc2,od2,.seq #[u,v] n,osl2⟩ /\ excI K C f = true
section
variable {P:Program} {w:World} {K:PySem.W.Frag} {mg:Str -> Option Value} {base:Heap}
theorem cal_ini (N:FunI K (cA mg "NoText")) (T:Txt mg) (L:Cls K mg):CalI P w K mg base 1 (cA mg "NoText"):=by
 obtain ⟨f,T2,od,od2,kV,doc,pm,an,cdv,ct,osl,osl2,oc2,u,v,n,lk,hcd,lk2,hI⟩:=N.ex
 refine ⟨f,_,_,fn_of lk hcd scIni (fun vs H Q E h=>?_) (fun A outer s H vs Q E hr h=>?_),hI,lk,rfl,fun s us X hl=>?_⟩
 ·obtain ⟨e,y,x,rfl,_⟩:=h
  rfl
 ·refine ⟨_,pss_cons (ps_expr (pe_initB (B:=cA mg "BoxError") rfl T.BoxError_ L.BoxError_i (pa_cons (pv 0) (pa_cons (pv 2) pa_nil)))) (pss_one (ps_setL (pv 0) (pv 1) rfl)),?_⟩
  obtain ⟨e,y,x,rfl,he,q⟩:=h
  refine ⟨_,rfl,_,rfl,e,_,f,x,rfl,he,hI,?_⟩
  exact ⟨_,rfl,_,rfl,e,_,f,rfl,he,hI,L.NoText_q.q4,L.NoText_s,lkV_line,fun dx hdx nd=>q dx hdx nd⟩
 ·rw [List.append_nil] at hl ⊢
  match us,hl with
  | [a,b,c],_=>exact PySem.W.binds_K X rfl lk2 rfl rfl rfl
noncomputable abbrev penD (ns:List Int) (k l:Int):PyData:=.list [scrD ns,.int k,.int l]
noncomputable def cPen:Con:=fun args Q=>∃ ns:List Int,args = [.fz (scrD ns)] /\ ∀ o,Q (.ow (penD ns 0 0)) o
theorem scPen:FnScope ["_law_script"] ["_law_script"] (defScope (top 27)):=⟨rfl,rfl,rfl,by decide +kernel,rfl,by decide +kernel,by decide +kernel⟩
theorem ok_pen {f:Addr} {fd:FuncData} (F:Fun K "_law_pen" "_law_pen" (top 27) f fd):FnOk P w K mg base CX0 1 f fd ["_law_script"] (conSp K cPen):=by
 have S:=scPen
 refine wfn F S (fun cdv A outer s H E hr=>(s_one (s_ret (w_lst (wa_cons (wx (wv 0)) (wa_cons (wx w_int) (wa_cons (wx w_int) wa_nil))))))) ?_ ?_
 ·rintro args Qd ⟨ns,rfl,_⟩; rfl
 ·rintro args Qd ⟨ns,rfl,q⟩
  exact ⟨noOw_of rfl,q _⟩
noncomputable def cTake:Con:=fun args Q=>∃ (ns:List Int) (k l m:Int),args = [.io (penD ns k l),.fz (.int m)] /\ 0 <= k /\ 0 <= l /\ 0 < m /\ m < 1000000 /\
 ∀ (r k' l':Int) (o:Ev),0 <= r -> r < m -> 0 <= k' -> 0 <= l' -> Q (.fz (.int r)) (some (.io (penD ns k' l')) :: o)
theorem scTake:FnScope ["_law_pen_here","_law_most","_law_found","_law_at","_law_cell","_law_number"] ["_law_pen_here","_law_most"] (defScope (top 28)):=⟨rfl,rfl,rfl,by decide +kernel,rfl,by decide +kernel,by decide +kernel⟩
theorem ok_take {f:Addr} {fd:FuncData} (F:Fun K "_law_take" "_law_take" (top 28) f fd) (T:Txt mg):FnOk P w K mg base CX0 1 f fd ["_law_pen_here","_law_most"] (conSp K cTake):=by
 have S:=scTake
 refine wfn F S (fun cdv A outer s H E hr=>(s_cons (s_if (t_cmp ok_gt op_gt (wx (w_ix rfl (wn 0) (wx w_int))) (wx w_int)) (s_cons (s_set (i:=2) S.nd rfl (Or.inl rfl) (w_bin ok_mod op_mod (wx (w_ix rfl (wn 0) (wx w_int))) (wn 1)))
     (s_cons (s_ix (w_bin ok_fdiv op_fdiv (wx (w_ix rfl (wn 0) (wx w_int))) (wn 1)) (wn 0) (wx w_int))
     (s_one (s_retV (wn 2))))) s_nil)
     (s_cons (s_set (i:=3) S.nd rfl (Or.inl rfl) (w_ix rfl (wn 0) (wx w_int)))
     (s_cons (s_ix (w_bin ok_add op_addD (wn 3) (wx w_int)) (wn 0) (wx w_int))
     (s_cons (s_set (i:=4) S.nd rfl (Or.inl rfl) w_int)
     (s_cons (s_if (t_cmp ok_gt op_gt (wx (w_callB ok_len (call_lenK (K:=K) rfl) T.len_ PySem.boot_len (wa_cons (wx (w_ix rfl (wn 0) (wx w_int))) wa_nil))) (wx w_int)) (s_one (s_set (i:=4) S.nd rfl (Or.inl rfl) (w_ix rfl (wx (w_ix rfl (wn 0) (wx w_int))) (wx (w_bin ok_mod op_mod (wn 3) (wx (w_callB ok_len (call_lenK (K:=K) rfl) T.len_ PySem.boot_len (wa_cons (wx (w_ix rfl (wn 0) (wx w_int))) wa_nil)))))))) s_nil)
     (s_cons (s_if (t_w (t_and (t_cmp ok_lt op_lt (wn 3) (wx (w_callB ok_len (call_lenK (K:=K) rfl) T.len_ PySem.boot_len (wa_cons (wx (w_ix rfl (wn 0) (wx w_int))) wa_nil)))) (t_and1 (t_cmp ok_ge op_ge (wx (w_callB ok_abs call_abs T.abs_ boot_abs (wa_cons (wn 4) wa_nil))) (wx (w_bin ok_pow op_pow (wx w_int) (wx w_int))))))) (s_cons (s_ix (w_bin ok_fdiv op_fdiv (wx (w_callB ok_abs call_abs T.abs_ boot_abs (wa_cons (wn 4) wa_nil))) (wn 1)) (wn 0) (wx w_int))
     (s_one (s_ret (w_bin ok_mod op_mod (wx (w_callB ok_abs call_abs T.abs_ boot_abs (wa_cons (wn 4) wa_nil))) (wn 1))))) s_nil)
     (s_cons (s_set (i:=5) S.nd rfl (Or.inl rfl) (w_bin ok_mod op_mod (wx (w_bin ok_mul op_mulD (wx (w_bin ok_add op_addD (wx (w_bin ok_add op_addD (wx (w_bin ok_mod op_mod (wn 4) (wx w_int))) (wx (w_bin ok_mul op_mulD (wx w_int) (wn 3))))) (wx w_int))) (wx w_int))) (wx w_int)))
     (s_cons (s_set (i:=5) S.nd rfl (Or.inl rfl) (w_bin ok_mod op_mod (wx (w_bin ok_add op_addD (wx (w_bin ok_add op_addD (wx (w_bin ok_mul op_mulD (wn 5) (wn 5))) (wx (w_bin ok_mul op_mulD (wx w_int) (wn 5))))) (wn 3))) (wx w_int)))
     (s_one (s_ret (w_bin ok_mod op_mod (wx (w_bin ok_fdiv op_fdiv (wn 5) (wx w_int))) (wn 1))))))))))))) ?_ ?_
 ·rintro args Qd ⟨ns,k,l,m,rfl,_⟩; rfl
 ·rintro args Qd ⟨ns,k,l,m,rfl,hk,hl,m0,m1,q⟩
  have hmd:∀ x:Int,0 <= x % m /\ x % m < m:=fun x=>⟨Int.emod_nonneg _ (by omega),Int.emod_lt_of_pos _ m0⟩
  refine ⟨noOw_of rfl,?_⟩
  refine ⟨_,rfl,?_⟩
  refine ite2 (fun h1=>?_) (fun h1=>?_)
  ·refine ⟨_,rfl,m0,_,rfl,⟨m0,by omega⟩,2,rfl,?_⟩
   exact q _ _ _ _ (hmd _).1 (hmd _).2 hk (Int.ediv_nonneg hl (by omega))
  refine ⟨_,rfl,?_⟩
  refine ⟨1,rfl,?_⟩
  refine ⟨_,rfl,ns,rfl,?_⟩
  have ab:∀ c:Int,0 <= (if c < 0 then -c else c):=fun c=>by split <;> omega
  have pos:∀ n:Nat,0 < n -> 0 <= k % (n:Int) /\ k % (n:Int) < n:=fun n hn=>⟨Int.emod_nonneg _ (by omega),Int.emod_lt_of_pos _ (by omega)⟩
  refine ite2 (fun h2=>?_) (fun h2=>?_)
  ·have h2:0 < ns.length:=by have:(0:Int) < (ns.length:Int):=of_decide_eq_true h2; omega
   obtain ⟨j,hj⟩:=Int.eq_ofNat_of_zero_le (pos _ h2).1
   have hjl:j < ns.length:=by have:=(pos _ h2).2; omega
   refine ⟨_,rfl,_,rfl,ns,rfl,by show (0:Int) < (ns.length:Int); omega,ns,ns[j],rfl,by rw [hj]; exact atI_nat (List.getElem?_eq_getElem hjl),?_⟩
   refine ⟨_,rfl,ns,rfl,?_⟩
   refine ite2 (fun h3=>?_) (fun h3=>?_)
   ·refine ⟨⟨by decide,by decide,by decide⟩,?_⟩
    refine ite2 (fun h4=>?_) (fun h4=>?_)
    ·refine ⟨⟨m0,by omega⟩,2,rfl,m0,?_⟩
     exact q _ _ _ _ (hmd _).1 (hmd _).2 (by omega) (Int.ediv_nonneg (ab _) (by omega))
    ·refine ⟨by show (0:Int) < 2147483587; decide,.inl ⟨by decide,by decide⟩,.inr ⟨by decide,by decide⟩,by show (0:Int) < 2147483647; decide,?_⟩
     refine ⟨.inl ⟨by omega,by omega⟩,.inl ⟨by decide,by decide⟩,by show (0:Int) < 2147483629; decide,?_⟩
     exact ⟨⟨by decide,by decide⟩,m0,q _ _ _ _ (hmd _).1 (hmd _).2 (by omega) hl⟩
   ·refine ⟨by show (0:Int) < 2147483587; decide,.inl ⟨by decide,by decide⟩,.inr ⟨by decide,by decide⟩,by show (0:Int) < 2147483647; decide,?_⟩
    refine ⟨.inl ⟨by omega,by omega⟩,.inl ⟨by decide,by decide⟩,by show (0:Int) < 2147483629; decide,?_⟩
    exact ⟨⟨by decide,by decide⟩,m0,q _ _ _ _ (hmd _).1 (hmd _).2 (by omega) hl⟩
  ·refine ⟨_,rfl,ns,rfl,?_⟩
   refine ite2 (fun h3=>?_) (fun h3=>?_)
   ·exfalso
    have h3:k < (ns.length:Int):=of_decide_eq_true h3
    refine h2 (decide_eq_true ?_)
    omega
   ·refine ⟨by show (0:Int) < 2147483587; decide,.inl ⟨by decide,by decide⟩,.inr ⟨by decide,by decide⟩,by show (0:Int) < 2147483647; decide,?_⟩
    refine ⟨.inl ⟨by omega,by omega⟩,.inl ⟨by decide,by decide⟩,by show (0:Int) < 2147483629; decide,?_⟩
    exact ⟨⟨by decide,by decide⟩,m0,q _ _ _ _ (hmd _).1 (hmd _).2 (by omega) hl⟩
end
end R61
namespace R61
open PySem PySem.Spec PySem.NumText L2 L3 PyProof.Rows TX
theorem rangeD_succ (lo:Int) (n:Nat):rangeD lo (n + 1) = PyData.int lo :: rangeD (lo + 1) n:=by
 simp only [rangeD,List.range_succ_eq_map,List.map_cons,List.map_map]
 refine congr (congrArg List.cons (by simp)) (List.map_congr_left fun a _=>?_)
 simp only [Function.comp_def,PyData.int.injEq,Int.natCast_succ]
 omega
noncomputable def prodI:List Int -> Int
 | []=>1
 | a :: r=>a * prodI r
theorem prodI_pos:∀ {l:List Int},(∀ c ∈ l,1 <= c) -> 1 <= prodI l
 | [],_=>Int.le_refl _
 | a :: r,h=>by
  have h1:=h a List.mem_cons_self
  have h2:=prodI_pos (l:=r) fun c hc=>h c (List.mem_cons_of_mem _ hc)
  show 1 <= a * prodI r
  have:=Int.mul_le_mul h1 h2 (by decide) (by omega)
  omega
theorem prodI_append (l r:List Int):prodI (l ++ r) = prodI l * prodI r:=by
 induction l with
 | nil=>show prodI r = 1 * prodI r; rw [Int.one_mul]
 | cons a l ih=>show a * prodI (l ++ r) = a * prodI l * prodI r; rw [ih,Int.mul_assoc]
structure Sd (sd:List Int):Prop where
 l1:1 <= sd.length
 l3:sd.length <= 3
 p:∀ c ∈ sd,1 <= c
 m:prodI sd <= 120
theorem prodI_le {b:Int} (hb:1 <= b):∀ {l:List Int},(∀ c ∈ l,1 <= c /\ c <= b) -> prodI l <= b ^ l.length
 | [],_=>by show (1:Int) <= b ^ 0; rw [Int.pow_zero]; decide
 | a :: r,h=>by
  have h1:=h a List.mem_cons_self
  have h2:=prodI_le hb (l:=r) fun c hc=>h c (List.mem_cons_of_mem _ hc)
  have h3:=prodI_pos (l:=r) fun c hc=>(h c (List.mem_cons_of_mem _ hc)).1
  show a * prodI r <= b ^ (r.length + 1)
  rw [Int.pow_succ,Int.mul_comm (b ^ r.length) b]
  exact Int.mul_le_mul h1.2 h2 (by omega) (by omega)
noncomputable abbrev tupD (p:List Int):PyData:=.tuple (p.map PyData.int)
theorem dg_snoc {n d:Nat} (hn:0 < n) (hd:d < 10):dg (10 * n + d) = dg n ++ [48 + d]:=by
 rw [dg,Nat.toDigits_of_base_le (by decide) (by omega),List.map_append,show (10 * n + d) / 10 = n by omega,show (10 * n + d) % 10 = d by omega]
 have:∀ k:Nat,k < 10 -> [Nat.digitChar k].map Char.toNat = [48 + k]:=by decide
 rw [this d hd]
 rfl
theorem dg_one {d:Nat} (hd:d < 10):dg d = [48 + d]:=by
 have:∀ k:Nat,k < 10 -> dg k = [48 + k]:=by decide
 exact this d hd
theorem dg_of:∀ (k:Nat) (l:List Nat),l.length = k + 1 -> (∀ c ∈ l,48 <= c /\ c <= 57) -> (l[0]? ≠ some 48 \/ l = [48]) -> ∃ n,dg n = l /\ (l = [48] \/ 0 < n)
 | 0,l,hl,ha,h0=>by
  match l,hl with
  | [c],_ =>
   have:=ha c (by simp)
   refine ⟨c - 48,by rw [dg_one (by omega)]; congr 1; omega,?_⟩
   rcases h0 with h0 | h0
   ·refine .inr ?_
    have:c ≠ 48:=fun z=>h0 (by rw [z]; rfl)
    omega
   ·exact .inl h0
 | k + 1,l,hl,ha,h0=>by
  have hne:l ≠ []:=fun z=>by rw [z] at hl; cases hl
  obtain ⟨l',c,rfl⟩:∃ l' c,l = l' ++ [c]:=⟨l.dropLast,l.getLast hne,(List.dropLast_concat_getLast hne).symm⟩
  have hl':l'.length = k + 1:=by simpa using hl
  have h48:l'[0]? ≠ some 48:=by
   rcases h0 with h0 | h0
   ·rwa [List.getElem?_append_left (by omega)] at h0
   ·have:=congrArg List.length h0
    rw [List.length_append,hl'] at this
    simp at this
  obtain ⟨n,e,hn⟩:=dg_of k l' hl' (fun x hx=>ha x (by simp [hx])) (.inl h48)
  have hn:0 < n:=hn.resolve_left fun z=>h48 (by rw [z]; rfl)
  have hc:=ha c (by simp)
  exact ⟨10 * n + (c - 48),by rw [dg_snoc hn (by omega),e,show 48 + (c - 48) = c by omega],.inr (by omega)⟩
theorem dg_lt {n k:Nat} (hk:0 < k) (h:(dg n).length <= k):n < 10 ^ k:=by
 rw [dg,List.length_map] at h
 exact (Nat.length_toDigits_le_iff (by decide) hk).mp h
noncomputable def isF (c:Nat):Bool:=decide (48 <= c /\ c <= 57)
noncomputable def fgs (x:Str):Str:=if Txt.startswith x (Str.ofString "-") = true then Txt.slice x (some 1) none else x
noncomputable def wnB (x:Str):Bool:=decide (1 <= (fgs x).length /\ (fgs x).length <= 30) && (fgs x).cps.toList.all isF && (decide (x = Str.ofString "0") || !decide ((fgs x).cps.toList[0]? = some 48))
noncomputable def numI (x:Str):Int:=(intText? x).getD 0
theorem starts_iff (x:Str):Txt.startswith x (Str.ofString "-") = true ↔ x.cps.toList[0]? = some 45:=by
 rw [minus_is]
 have k:=StrLaws.subAt_one x 45 0
 unfold Txt.startswith
 rw [Bool.and_eq_true,decide_eq_true_eq]
 exact k
theorem cut_one {x:Str} {c:Nat} {r:List Nat} (h:x.cps.toList = c :: r):Txt.slice x (some 1) none = ⟨r.toArray⟩:=by
 have k:=StrLaws.sliceText_from (x:=x) (i:=1) (by rw [h,List.length_cons]; omega)
 show StrLaws.sliceText x (some 1) none = _
 rw [k]
 refine Str.ext' (Array.toList_inj.mp ?_)
 simp [h]
theorem str_list {x y:Str} (h:x.cps.toList = y.cps.toList):x = y:=Str.ext' (Array.toList_inj.mp h)
theorem zero_list {x:Str}:x = Str.ofString "0" ↔ x.cps.toList = [48]:=⟨fun h=>by rw [h]; rfl,fun h=>str_list (h.trans rfl)⟩
theorem len_list (x:Str):x.length = x.cps.toList.length:=by simp [Str.length]
theorem wnB_tx {x:Str} (h:wnB x = true):∃ n:Int,n.natAbs < 10 ^ 30 /\ x = tx n:=by
 simp only [wnB,Bool.and_eq_true,Bool.or_eq_true,decide_eq_true_eq,Bool.not_eq_true',decide_eq_false_iff_not,List.all_eq_true] at h
 obtain ⟨⟨⟨h1,h2⟩,h3⟩,h4⟩:=h
 have ha:∀ c ∈ (fgs x).cps.toList,48 <= c /\ c <= 57:=fun c hc=>of_decide_eq_true (h3 c hc)
 rw [len_list] at h1 h2
 by_cases hs:Txt.startswith x (Str.ofString "-") = true
 ·have e0:=(starts_iff x).mp hs
  obtain ⟨r,hr⟩:∃ r,x.cps.toList = 45 :: r:=by
   cases z:x.cps.toList with
   | nil=>rw [z] at e0; cases e0
   | cons c r=>rw [z] at e0; cases e0; exact ⟨r,rfl⟩
  have ef:(fgs x).cps.toList = r:=by rw [fgs,if_pos hs,cut_one hr]
  rw [ef] at h1 h2 ha h4
  have hz:¬ x = Str.ofString "0":=fun z=>by rw [zero_list.mp z] at hr; cases hr
  obtain ⟨n,en,hn⟩:=dg_of (r.length - 1) r (by omega) ha (.inl (h4.resolve_left hz))
  have hn:0 < n:=hn.resolve_left fun z=>h4.resolve_left hz (by rw [z]; rfl)
  have hb:=dg_lt (by decide) (show (dg n).length <= 30 by rw [en]; exact h2)
  refine ⟨-(n:Int),by rw [Int.natAbs_neg]; exact hb,str_list ?_⟩
  rw [tx_list,if_pos (by omega),hr,show (-(n:Int)).natAbs = n by omega,en]
 ·have ef:fgs x = x:=by rw [fgs,if_neg hs]
  rw [ef] at h1 h2 ha h4
  obtain ⟨n,en,hn⟩:=dg_of (x.cps.toList.length - 1) x.cps.toList (by omega) ha (h4.symm.imp id zero_list.mp)
  have hb:=dg_lt (by decide) (show (dg n).length <= 30 by rw [en]; exact h2)
  refine ⟨(n:Int),hb,str_list ?_⟩
  rw [tx_pos,en]
theorem tx_wnB {n:Int} (h:n.natAbs < 10 ^ 30):wnB (tx n) = true:=by
 have ef:fgs (tx n) = fg n:=by
  unfold fgs
  rw [starts_tx]
  by_cases z:n < 0
  ·rw [if_pos (decide_eq_true z),cut_tx z]
  ·rw [if_neg (by simpa using z),tx_fg z]
 have hl:(fg n).length <= 30:=by rw [fg_len]; exact dg_len (by decide) h
 have hp:1 <= (fg n).length:=by rw [fg_len]; exact List.length_pos_iff.mpr (dg_ne _)
 simp only [wnB,Bool.and_eq_true,Bool.or_eq_true,decide_eq_true_eq,Bool.not_eq_true',decide_eq_false_iff_not,List.all_eq_true,ef]
 refine ⟨⟨⟨hp,hl⟩,fun c hc=>?_⟩,?_⟩
 ·rw [fg_list] at hc
  exact decide_eq_true (dg_all _ c hc)
 ·by_cases z:n = 0
  ·exact .inl (by rw [z]; exact tx_zero)
  ·exact .inr (fg_zero z)
theorem num_tx {n:Int} (h:n.natAbs < 10 ^ 30):numI (tx n) = n:=by
 unfold numI
 rw [reads (Nat.lt_trans h (by decide +kernel))]
 rfl
theorem figs_is (c:Nat):(!(Builtin.Str.occurrences (Str.ofString "0123456789") ⟨#[c]⟩ 0 (Str.ofString "0123456789").length 1).isEmpty) = isF c:=by
 by_cases h:48 <= c /\ c <= 57
 ·rw [in_figs h]
  exact (decide_eq_true h).symm
 ·have e:isF c = false:=decide_eq_false h
  rw [e]
  refine Bool.eq_false_iff.mpr fun z=>h ?_
  obtain ⟨i,hi⟩:=(StrLaws.found_iff _ _).mp z
  have:=(StrLaws.subAt_one _ _ _).mp hi
  have m:=List.mem_of_getElem? this
  have e:(Str.ofString "0123456789").cps.toList = [48,49,50,51,52,53,54,55,56,57]:=by decide
  rw [e] at m
  simp at m
  omega
noncomputable def nums (ws:List Str):Option (List Int):=if ws.all wnB = true then some (ws.map numI) else none
theorem nums_ok {ws:List Str} (h:ws.all wnB = true):∃ ns:List Int,ws = ns.map tx /\ nums ws = some ns /\ ws.map numI = ns /\ ∀ n ∈ ns,n.natAbs < 10 ^ 30:=by
 have h0:=h
 rw [List.all_eq_true] at h
 have hx:∀ x ∈ ws,(numI x).natAbs < 10 ^ 30 /\ tx (numI x) = x:=fun x hx=>by
  obtain ⟨n,hn,e⟩:=wnB_tx (h x hx)
  rw [e,num_tx hn]
  exact ⟨hn,rfl⟩
 refine ⟨ws.map numI,?_,by rw [nums,if_pos h0],rfl,fun n hn=>?_⟩
 ·rw [List.map_map]
  exact (List.map_id ws).symm.trans (List.map_congr_left fun x h=>((hx x h).2).symm)
 ·obtain ⟨x,hx',rfl⟩:=List.mem_map.mp hn
  exact (hx x hx').1
theorem nums_no {ws:List Str} (h:¬ ws.all wnB = true):nums ws = none:=by rw [nums,if_neg h]
theorem nums_tx {ns:List Int} (h:∀ n ∈ ns,n.natAbs < 10 ^ 30):nums (ns.map tx) = some ns:=by
 rw [nums,if_pos (by rw [List.all_eq_true]; intro x hx; obtain ⟨n,hn,rfl⟩:=List.mem_map.mp hx; exact tx_wnB (h n hn)),List.map_map]
 exact congrArg some ((List.map_congr_left fun n hn=>num_tx (h n hn)).trans (List.map_id ns))
end R61
namespace R61
open PySem PySem.Spec L2 L3 PyProof.Rows
theorem zipD_ints (a b:List Int):zipD (a.map PyData.int) (b.map PyData.int) = (a.zip b).map fun p=>PyData.tuple [.int p.1,.int p.2]:=by
 rw [zipD,List.zip_map,List.map_map]; rfl
noncomputable def plB (sd ns:List Int):Bool:=decide (ns.length = sd.length) && (ns.zip sd).all fun p=>decide (0 <= p.1) && decide (p.1 < p.2)
noncomputable def leB (a b:List Int):Bool:=(a.zip b).all fun p=>decide (p.1 <= p.2)
noncomputable def bxB:List (List Int) -> Bool
 | [a,b]=>leB a b
 | _=>false
section
variable {P:Program} {w:World} {K:PySem.W.Frag} {mg:Str -> Option Value} {base:Heap}
noncomputable def cWh:Con:=fun args Q=>∃ i:Int,args = [.fz (.int i)] /\ ∀ o,Q (.fz (.bool true)) o
theorem scWh:FnScope ["thing"] ["thing"] (defScope (top 10)):=⟨rfl,rfl,rfl,by decide +kernel,rfl,by decide +kernel,by decide +kernel⟩
theorem ok_wh {f:Addr} {fd:FuncData} (F:Fun K "is_whole" "is_whole" (top 10) f fd) (T:Txt mg):FnOk P w K mg base CX0 1 f fd ["thing"] (conSp K cWh):=by
 have S:=scWh
 refine wfn F S (fun cdv A outer s H E hr=>(s_one (s_ret (w_and (w_isi .int rfl T.isinstance_ T.int_ boot_int (wn 0)) (w_one (w_not (w_isi .bl rfl T.isinstance_ T.bool_ boot_bool (wn 0)))))))) ?_ ?_
 ·rintro args Qd ⟨i,rfl,_⟩; rfl
 ·rintro args Qd ⟨i,rfl,q⟩
  exact ⟨noOw_of rfl,q _⟩
theorem all_tr:∀ l:List PyData,((l.map fun _=>true).all id) = true
 | []=>rfl
 | _ :: l=>by simp
theorem map_tr (l:List PyData):(l.map fun _=>PyData.bool true) = (l.map fun _=>true).map PyData.bool:=by rw [List.map_map]; rfl
structure CalsAW (P:Program) (w:World) (K:PySem.W.Frag) (mg:Str -> Option Value) (base:Heap):Prop where
 is_whole:Cal P w K mg base 1 "is_whole" ["thing"] (conSp K cWh)
noncomputable def cAW:Con:=fun args Q=>∃ (ns:List Int) (m:Int),args = [.fz (tupD ns),.fz (.int m)] /\ m <= 1000 /\ ∀ o,Q (.fz (.bool (decide ((ns.length:Int) = m)))) o
theorem scAW:FnScope ["thing","many"] ["thing","many"] (defScope (top 11)):=⟨rfl,rfl,rfl,by decide +kernel,rfl,by decide +kernel,by decide +kernel⟩
theorem ok_aw {f:Addr} {fd:FuncData} (F:Fun K "are_wholes" "are_wholes" (top 11) f fd) (T:Txt mg) (C:CalsAW P w K mg base):FnOk P w K mg base CX0 2 f fd ["thing","many"] (conSp K cAW):=by
 have S:=scAW
 refine wfn F S (fun cdv A outer s H E hr=>(s_cons (s_if (t_w (t_or (t_not (t_val (w_isi .tup rfl T.isinstance_ T.tuple_ boot_tuple (wn 0)))) (t_or1 (t_cmp ok_ne (op_neE (K:=K) rfl hr.units) (wx (w_callB ok_len (call_lenK (K:=K) rfl) T.len_ PySem.boot_len (wa_cons (wn 0) wa_nil))) (wn 1))))) (s_one (s_ret w_bl)) s_nil)
     (s_one (s_ret (w_callB ok_all (call_allK (K:=K) rfl rfl) T.all_ boot_all (wa_cons (wx (w_comp rfl (own:=["number"]) (fr:=[]) (by kernel_rfl) (i_seq rfl (wv 0)) (fun _ _ _ _=>(g_name (i:=0) (by decide +kernel:List.Nodup (["number"]:List Str)) rfl (Or.inl rfl))) (fun _ _ _ _=>if0) (fun _ _ _ _=>(w_fn C.is_whole (hr.mono (by first | decide | omega)) (wa_cons (wn 0) wa_nil))))) wa_nil)))))) ?_ ?_
 ·rintro args Qd ⟨ns,m,rfl,_⟩; rfl
 ·rintro args Qd ⟨ns,m,rfl,hm,q⟩
  refine ⟨noOw_of rfl,?_⟩
  have hk:(((ns.map PyData.int).length:Nat):Int) = (ns.length:Int):=by rw [List.length_map]
  refine ite2 (fun h=>?_) (fun h=>?_)
  ·have h:(!decide ((((ns.map PyData.int).length:Nat):Int) = m)) = true:=h
   rw [hk,Bool.not_eq_true'] at h
   rw [h] at q
   exact q _
  ·have h:¬ (!decide ((((ns.map PyData.int).length:Nat):Int) = m)) = true:=h
   rw [hk,Bool.not_eq_true',Bool.not_eq_false] at h
   have hl:=of_decide_eq_true h
   rw [h] at q
   refine ⟨by rw [List.length_map]; exact le_size (by omega),mapC (fun _=>.bool true) ?_ ?_⟩
   ·intro d hd N hN
    obtain ⟨i,hi,rfl⟩:=List.mem_map.mp hd
    exact ⟨i,rfl,fun o=>hN⟩
   ·refine ⟨_,map_tr _,?_⟩
    rw [all_tr]
    exact q _
structure CalsIP (P:Program) (w:World) (K:PySem.W.Frag) (mg:Str -> Option Value) (base:Heap):Prop where
 are_wholes:Cal P w K mg base 2 "are_wholes" ["thing","many"] (conSp K cAW)
noncomputable def cIP:Con:=fun args Q=>∃ sd ns:List Int,args = [.fz (tupD sd),.fz (tupD ns)] /\ sd.length <= 1000 /\ ∀ o,Q (.fz (.bool (plB sd ns))) o
noncomputable def wiD:PyData -> Bool
 | .tuple [.int a,.int b]=>decide (0 <= a) && decide (a < b)
 | _=>false
noncomputable def leD:PyData -> Bool
 | .tuple [.int a,.int b]=>decide (a <= b)
 | _=>false
theorem scIP:FnScope ["sides","thing"] ["sides","thing"] (defScope (top 13)):=⟨rfl,rfl,rfl,by decide +kernel,rfl,by decide +kernel,by decide +kernel⟩
theorem ok_ip {f:Addr} {fd:FuncData} (F:Fun K "is_place" "is_place" (top 13) f fd) (T:Txt mg) (C:CalsIP P w K mg base):FnOk P w K mg base CX0 3 f fd ["sides","thing"] (conSp K cIP):=by
 have S:=scIP
 refine wfn F S (fun cdv A outer s H E hr=>(s_cons (s_if (t_not (t_val (w_fn C.are_wholes (hr.mono (by first | decide | omega)) (wa_cons (wn 1) (wa_cons (wx (w_callB ok_len (call_lenK (K:=K) rfl) T.len_ PySem.boot_len (wa_cons (wn 0) wa_nil))) wa_nil))))) (s_one (s_ret w_bl)) s_nil)
     (s_one (s_ret (w_callB ok_all (call_allK (K:=K) rfl rfl) T.all_ boot_all (wa_cons (wx (w_comp rfl (own:=["number","side"]) (fr:=[]) (by kernel_rfl) (i_zip2 rfl T.zip_ (wa_cons (wn 1) (wa_cons (wn 0) wa_nil))) (fun _ _ _ _=>(g_tup rfl rfl (gs_cons (g_name (i:=0) (by decide +kernel:List.Nodup (["number","side"]:List Str)) rfl (Or.inl rfl)) (gs_cons (g_name (i:=1) (by decide +kernel:List.Nodup (["number","side"]:List Str)) rfl (Or.inl rfl)) gs_nil)))) (fun _ _ _ _=>if0) (fun _ _ _ _=>(w_chain op_le op_lt (wx w_int) (wn 0) (wn 1))))) wa_nil)))))) ?_ ?_
 ·rintro args Qd ⟨sd,ns,rfl,_⟩; rfl
 ·rintro args Qd ⟨sd,ns,rfl,hs,q⟩
  refine ⟨noOw_of rfl,?_⟩
  have hk:(((sd.map PyData.int).length:Nat):Int) = (sd.length:Int):=by rw [List.length_map]
  refine ⟨ns,_,rfl,by rw [hk]; omega,fun o=>?_⟩
  refine ite2 (fun h=>?_) (fun h=>?_)
  ·have h:(!decide ((ns.length:Int) = (((sd.map PyData.int).length:Nat):Int))) = true:=h
   rw [hk,Bool.not_eq_true',decide_eq_false_iff_not] at h
   have e:plB sd ns = false:=by unfold plB; rw [decide_eq_false (by omega)]; rfl
   rw [e] at q
   exact q _
  ·have h:¬ (!decide ((ns.length:Int) = (((sd.map PyData.int).length:Nat):Int))) = true:=h
   rw [hk,Bool.not_eq_true',decide_eq_false_iff_not,Classical.not_not] at h
   have e:plB sd ns = (ns.zip sd).all fun p=>decide (0 <= p.1) && decide (p.1 < p.2):=by unfold plB; rw [decide_eq_true (by omega)]; rfl
   rw [e] at q
   refine ⟨?_,?_⟩
   ·rw [zipD_ints,List.length_map,List.length_zip]
    exact le_size (by omega)
   rw [zipD_ints]
   refine mapC (fun d=>.bool (wiD d)) ?_ ?_
   ·intro d hd N hN
    obtain ⟨p,hp,rfl⟩:=List.mem_map.mp hd
    refine ⟨rfl,?_⟩
    refine ite2 (fun h=>?_) (fun h=>?_)
    ·have h:decide (0 <= p.1) = true:=h
     have hN:N (.bool (decide (0 <= p.1) && decide (p.1 < p.2))) _:=hN
     rw [h] at hN
     exact hN
    ·have h:¬ decide (0 <= p.1) = true:=h
     have hN:N (.bool (decide (0 <= p.1) && decide (p.1 < p.2))) _:=hN
     rw [Bool.eq_false_iff.mpr h] at hN
     exact hN
   ·refine ⟨(ns.zip sd).map fun p=>decide (0 <= p.1) && decide (p.1 < p.2),by rw [List.map_map,List.map_map]; rfl,?_⟩
    rw [List.all_map]
    exact q _
structure CalsIB (P:Program) (w:World) (K:PySem.W.Frag) (mg:Str -> Option Value) (base:Heap):Prop where
 is_place:Cal P w K mg base 3 "is_place" ["sides","thing"] (conSp K cIP)
noncomputable def cIB:Con:=fun args Q=>∃ (sd:List Int) (ps:List (List Int)),args = [.fz (tupD sd),.fz (.tuple (ps.map tupD))] /\ sd.length <= 1000 /\ (∀ p ∈ ps,plB sd p = true) /\ ∀ o,Q (.fz (.bool (bxB ps))) o
theorem plB_len {sd ns:List Int} (h:plB sd ns = true):ns.length = sd.length:=by
 unfold plB at h
 rw [Bool.and_eq_true] at h
 exact of_decide_eq_true h.1
theorem scIB:FnScope ["sides","thing"] ["sides","thing"] (defScope (top 14)):=⟨rfl,rfl,rfl,by decide +kernel,rfl,by decide +kernel,by decide +kernel⟩
theorem ok_ib {f:Addr} {fd:FuncData} (F:Fun K "is_box" "is_box" (top 14) f fd) (T:Txt mg) (C:CalsIB P w K mg base):FnOk P w K mg base CX0 4 f fd ["sides","thing"] (conSp K cIB):=by
 have S:=scIB
 refine wfn F S (fun cdv A outer s H E hr=>(s_cons (s_if (t_w (t_or (t_not (t_val (w_isi .tup rfl T.isinstance_ T.tuple_ boot_tuple (wn 1)))) (t_or1 (t_cmp ok_ne (op_neE (K:=K) rfl hr.units) (wx (w_callB ok_len (call_lenK (K:=K) rfl) T.len_ PySem.boot_len (wa_cons (wn 1) wa_nil))) (wx w_int))))) (s_one (s_ret w_bl)) s_nil)
     (s_cons (s_if (t_w (t_or (t_not (t_val (w_fn C.is_place (hr.mono (by first | decide | omega)) (wa_cons (wn 0) (wa_cons (wx (w_ix rfl (wn 1) (wx w_int))) wa_nil))))) (t_or1 (t_not (t_val (w_fn C.is_place (hr.mono (by first | decide | omega)) (wa_cons (wn 0) (wa_cons (wx (w_ix rfl (wn 1) (wx w_int))) wa_nil)))))))) (s_one (s_ret w_bl)) s_nil)
     (s_one (s_ret (w_callB ok_all (call_allK (K:=K) rfl rfl) T.all_ boot_all (wa_cons (wx (w_comp rfl (own:=["first","last"]) (fr:=[]) (by kernel_rfl) (i_zip2 rfl T.zip_ (wa_cons (wx (w_ix rfl (wn 1) (wx w_int))) (wa_cons (wx (w_ix rfl (wn 1) (wx w_int))) wa_nil))) (fun _ _ _ _=>(g_tup rfl rfl (gs_cons (g_name (i:=0) (by decide +kernel:List.Nodup (["first","last"]:List Str)) rfl (Or.inl rfl)) (gs_cons (g_name (i:=1) (by decide +kernel:List.Nodup (["first","last"]:List Str)) rfl (Or.inl rfl)) gs_nil)))) (fun _ _ _ _=>if0) (fun _ _ _ _=>(w_cmp ok_le op_le (wn 0) (wn 1))))) wa_nil))))))) ?_ ?_
 ·rintro args Qd ⟨sd,ps,rfl,_⟩; rfl
 ·rintro args Qd ⟨sd,ps,rfl,hs,hp,q⟩
  refine ⟨noOw_of rfl,?_⟩
  have hk:(((ps.map tupD).length:Nat):Int) = (ps.length:Int):=by rw [List.length_map]
  with_reducible refine cutS (fun ρ=>ps.length = 2 /\ ρ = [some (.fz (tupD sd)),some (.fz (.tuple (ps.map tupD)))]) ?_ ?_
  ·intro N hN
   refine ite2 (fun h=>?_) (fun h=>?_)
   ·have h:(!decide ((((ps.map tupD).length:Nat):Int) = 2)) = true:=h
    rw [hk,Bool.not_eq_true',decide_eq_false_iff_not] at h
    have e:bxB ps = false:=by
     match ps,h with
     | [],_=>rfl
     | [_],_=>rfl
     | [_,_],h=>exact absurd rfl h
     | _ :: _ :: _ :: _,_=>rfl
    rw [e] at q
    exact q _
   ·have h:¬ (!decide ((((ps.map tupD).length:Nat):Int) = 2)) = true:=h
    rw [hk,Bool.not_eq_true',decide_eq_false_iff_not,Classical.not_not] at h
    exact hN _ ⟨by omega,rfl⟩
  rintro _ ⟨h2,rfl⟩
  obtain ⟨a,b,rfl⟩:∃ a b,ps = [a,b]:=by
   match ps,h2 with
   | [a,b],_=>exact ⟨a,b,rfl⟩
  have ha:=hp a (by simp)
  have hb:=hp b (by simp)
  have la:=plB_len ha
  have lb:=plB_len hb
  refine ⟨tupD a,rfl,sd,a,rfl,hs,fun o=>?_⟩
  rw [ha]
  refine ⟨tupD b,rfl,sd,b,rfl,hs,fun o=>?_⟩
  rw [hb]
  refine ⟨tupD a,rfl,tupD b,rfl,?_,?_⟩
  ·rw [zipD_ints,List.length_map,List.length_zip]
   exact le_size (by omega)
  rw [zipD_ints]
  refine mapC (fun d=>.bool (leD d)) ?_ ?_
  ·intro d hd N hN
   obtain ⟨p,hp,rfl⟩:=List.mem_map.mp hd
   exact ⟨rfl,hN⟩
  ·refine ⟨(a.zip b).map fun p=>decide (p.1 <= p.2),by rw [List.map_map,List.map_map]; rfl,?_⟩
   rw [List.all_map]
   exact q _
noncomputable def cSame:Con:=fun args Q=>∃ (n:Nat) (d:PyData),args = [.fz d,.fz d] /\ Nice n d /\ n <= 60 /\ d.showable = true /\ d.shown.length <= sizeLine /\ ((∃ i,d = .str i) \/ (∃ i,d = .int i) \/ ∃ l,d = .tuple l) /\ ∀ o,Q (.fz (.bool true)) o
theorem scSame:FnScope ["_law_found","_law_due_here"] ["_law_found","_law_due_here"] (defScope (top 30)):=⟨rfl,rfl,rfl,by decide +kernel,rfl,by decide +kernel,by decide +kernel⟩
theorem ok_same {f:Addr} {fd:FuncData} (F:Fun K "_law_same" "_law_same" (top 30) f fd) (T:Txt mg):FnOk P w K mg base CX0 1 f fd ["_law_found","_law_due_here"] (conSp K cSame):=by
 have S:=scSame
 refine wfn F S (fun cdv A outer s H E hr=>(s_one (s_ret (w_and (w_cmp ok_eq (op_eqE (K:=K) rfl hr.units) (wn 0) (wn 1)) (w_one (w_cmp ok_eq (op_eqE (K:=K) rfl hr.units) (wx (w_callB ok_repr (call_reprK (K:=K) rfl hr) T.repr_ boot_repr (wa_cons (wn 0) wa_nil))) (wx (w_callB ok_repr (call_reprK (K:=K) rfl hr) T.repr_ boot_repr (wa_cons (wn 1) wa_nil))))))))) ?_ ?_
 ·rintro args Qd ⟨n,d,rfl,_⟩; rfl
 ·rintro args Qd ⟨n,d,rfl,nc,hn,hs,hz,hk,q⟩
  refine ⟨noOw_of rfl,?_⟩
  have hd:=nc.d
  have fin:∀ o,Qd (.fz (.bool (decide (d.shown = d.shown)))) o:=fun o=>by rw [decide_eq_true (rfl:d.shown = d.shown)]; exact q o
  rcases hk with ⟨i,rfl⟩ | ⟨i,rfl⟩ | ⟨l,rfl⟩
  ·refine ite2 (fun h=>?_) (fun h=>?_)
   ·exact ⟨nc.p,hs,by show (PyData.str i).depth + 1 <= 64; omega,hz,nc.p,hs,by show (PyData.str i).depth + 1 <= 64; omega,hz,fin _⟩
   ·exact absurd (decide_eq_true rfl) h
  ·refine ite2 (fun h=>?_) (fun h=>?_)
   ·exact ⟨nc.p,hs,by show (PyData.int i).depth + 1 <= 64; omega,hz,nc.p,hs,by show (PyData.int i).depth + 1 <= 64; omega,hz,fin _⟩
   ·exact absurd (decide_eq_true rfl) h
  ·refine ⟨nc.p,nc.p,nc.sh (by omega),nc.sh (by omega),noMix_self _ nc.p,?_⟩
   refine ite2 (fun h=>?_) (fun h=>?_)
   ·exact ⟨nc.p,hs,by show (PyData.tuple l).depth + 1 <= 64; omega,hz,nc.p,hs,by show (PyData.tuple l).depth + 1 <= 64; omega,hz,fin _⟩
   ·exact absurd (same_self _) h
end
end R61
namespace R61
open PySem PySem.Spec L2 L3 PyProof.Rows TX
section
variable {P:Program} {w:World} {K:PySem.W.Frag} {mg:Str -> Option Value} {base:Heap}
structure CalsI (P:Program) (w:World) (K:PySem.W.Frag) (mg:Str -> Option Value) (base:Heap):Prop where
 NoText:CalI P w K mg base 1 (cA mg "NoText")
noncomputable def isTx:PyData -> Bool
 | .str _=>true
 | _=>false
noncomputable def okA:PyData -> Bool
 | .dict es=>notScr es
 | _=>true
noncomputable def cAsk:ConM:=fun args Q Ex=>∃ d:PyData,args = [.fz d] /\ okA d = true /\ (isTx d = true -> ∀ o,Q (.fz .none) o) /\ (isTx d = false -> Ex 0)
theorem scAsk:FnScope ["thing"] ["thing"] (defScope (top 18)):=⟨rfl,rfl,rfl,by decide +kernel,rfl,by decide +kernel,by decide +kernel⟩
theorem ok_ask {f:Addr} {fd:FuncData} (F:Fun K "ask_for_text" "ask_for_text" (top 18) f fd) (T:Txt mg) (C:CalsI P w K mg base):FnOk P w K mg base (CXL P w) 3 f fd ["thing"] (conSpM K (cA mg "NoText") cAsk):=by
 have S:=scAsk
 refine wfnM F S (fun cdv A outer s H E hr Y=>(ms_one (m_if (t_not (t_val (w_isiA .str rfl T.isinstance_ T.str_ boot_str (wn 0)))) (ms_one (m_raise Y T.NoText_ C.NoText (hr.mono (by first | decide | omega)) (wa_cons (wx w_int) (wa_cons (wx w_str) wa_nil)))) ms_nil))) ?_ ?_
 ·rintro args Qd Ex ⟨d,rfl,_⟩; rfl
 ·rintro args Qd Ex ⟨d,rfl,hd,q,x⟩
  refine ⟨noOw_of rfl,?_⟩
  cases d with
  | str i=>exact q rfl _
  | dict es=>exact ⟨hd,_,_,rfl,x rfl⟩
  | int i=>exact ⟨_,_,rfl,x rfl⟩
  | bool b=>exact ⟨_,_,rfl,x rfl⟩
  | none=>exact ⟨_,_,rfl,x rfl⟩
  | list xs=>exact ⟨_,_,rfl,x rfl⟩
  | tuple xs=>exact ⟨_,_,rfl,x rfl⟩
theorem slice_le (x:Str) (l u:Option Int):(Txt.slice x l u).length <= x.length:=by
 unfold Txt.slice
 split
 ·exact Nat.le_refl _
 ·have h:=sliceIndices_le l u x.length
  rw [len_list]
  exact Nat.le_trans (List.length_filterMap_le _ _) h
theorem fgs_le (x:Str):(fgs x).length <= x.length:=by
 unfold fgs
 split
 ·exact slice_le _ _ _
 ·exact Nat.le_refl _
noncomputable def cWrites:Con:=fun args Q=>∃ x:Str,args = [.fz (.str x)] /\ x.length <= sizeLine /\ ∀ o,Q (.fz (.bool (wnB x))) o
theorem scWrites:FnScope ["word","figures"] ["word"] (defScope (top 19)):=⟨rfl,rfl,rfl,by decide +kernel,rfl,by decide +kernel,by decide +kernel⟩
theorem ok_writes {f:Addr} {fd:FuncData} (F:Fun K "writes_number" "writes_number" (top 19) f fd) (T:Txt mg):FnOk P w K mg base CX0 1 f fd ["word"] (conSp K cWrites):=by
 have S:=scWrites
 refine wfn F S (fun cdv A outer s H E hr=>(s_cons (s_set (i:=1) S.nd rfl (Or.inl rfl) (w_ifE (t_val (w_starts rfl (wn 0))) (w_slS (wn 0) (wx w_int)) (wv 0)))
     (s_cons (s_if (t_w (t_or (t_cmp ok_lt op_lt (wx (w_callB ok_lenS call_len_str T.len_ PySem.boot_len (wa_cons (wn 1) wa_nil))) (wx w_int)) (t_or1 (t_cmp ok_gt op_gt (wx (w_callB ok_lenS call_len_str T.len_ PySem.boot_len (wa_cons (wn 1) wa_nil))) (wx (w_gint T.MOST_FIGURES_)))))) (s_one (s_ret w_bl)) s_nil)
     (s_cons (s_if (t_not (t_val (w_callB ok_all (call_allK (K:=K) rfl rfl) T.all_ boot_all (wa_cons (wx (w_comp rfl (own:=["figure"]) (fr:=[]) (by kernel_rfl) (i_str (wv 1)) (fun _ _ _ _=>(g_name (i:=0) (by decide +kernel:List.Nodup (["figure"]:List Str)) rfl (Or.inl rfl))) (fun _ _ _ _=>if0) (fun _ _ _ _=>(w_inS (wn 0) (wx (w_gstr T.FIGURES_)))))) wa_nil)))) (s_one (s_ret w_bl)) s_nil)
     (s_one (s_ret (w_or (w_cmp ok_eq (op_eqE (K:=K) rfl hr.units) (wn 0) (wx w_str)) (w_one (w_cmp ok_ne (op_neE (K:=K) rfl hr.units) (wx (w_ixS (wn 1) (wx w_int))) (wx w_str)))))))))) ?_ ?_
 ·rintro args Qd ⟨n,rfl,_⟩; rfl
 ·rintro args Qd ⟨x,rfl,hz,q⟩
  refine ⟨noOw_of rfl,?_⟩
  with_reducible refine cutS (fun ρ=>ρ = [some (.fz (.str x)),some (.fz (.str (fgs x)))]) ?_ ?_
  ·intro N hN
   refine ite2 (fun h=>?_) (fun h=>?_)
   ·have h:Txt.startswith x (Str.ofString "-") = true:=h
    exact ⟨hz,hN _ (by rw [fgs,if_pos h]; rfl)⟩
   ·have h:¬ Txt.startswith x (Str.ofString "-") = true:=h
    exact hN _ (by rw [fgs,if_neg h]; rfl)
  rintro _ rfl
  have hz2:(fgs x).length <= sizeLine:=Nat.le_trans (fgs_le x) hz
  have no:¬ (1 <= (fgs x).length /\ (fgs x).length <= 30) -> ∀ o,Qd (.fz (.bool false)) o:=fun h o=>by
   have e:wnB x = false:=by unfold wnB; rw [decide_eq_false h]; rfl
   rw [<- e]
   exact q o
  refine ⟨hz2,?_⟩
  refine ite2 (fun h=>?_) (fun h1=>?_)
  ·have h:decide (((fgs x).length:Int) < 1) = true:=h
   have:=of_decide_eq_true h
   exact no (by omega) _
  have h1:¬ decide (((fgs x).length:Int) < 1) = true:=h1
  rw [decide_eq_true_eq] at h1
  refine ⟨hz2,?_⟩
  refine ite2 (fun h=>?_) (fun h2=>?_)
  ·have h:decide ((30:Int) < ((fgs x).length:Int)) = true:=h
   have:=of_decide_eq_true h
   exact no (by omega) _
  have h2:¬ decide ((30:Int) < ((fgs x).length:Int)) = true:=h2
  rw [decide_eq_true_eq] at h2
  have hsl:(sgnD (fgs x)).length = (fgs x).length:=by simp [sgnD,Str.length]
  have hB:decide (1 <= (fgs x).length /\ (fgs x).length <= 30) = true:=decide_eq_true (by omega)
  refine ⟨by rw [hsl]; exact hz2,mapC (fun d=>.bool (match d with | .str y=>y.cps.toList.all isF | _=>false)) ?_ ?_⟩
  ·rintro d hd R hR
   obtain ⟨c,hc,rfl⟩:=List.mem_map.mp hd
   have e:=figs_is c
   have e2:(⟨#[c]⟩:Str).cps.toList.all isF = isF c:=by simp
   have hR:R (.bool ((⟨#[c]⟩:Str).cps.toList.all isF)) _:=hR
   rw [e2,<- e] at hR
   exact hR
  ·refine ⟨(fgs x).cps.toList.map isF,?_,?_⟩
   ·rw [sgnD,List.map_map,List.map_map]
    exact List.map_congr_left fun c _=>by simp
   have ea:((fgs x).cps.toList.map isF).all id = (fgs x).cps.toList.all isF:=by rw [List.all_map]; rfl
   rw [ea]
   refine ite2 (fun h=>?_) (fun h3=>?_)
   ·have h:(!(fgs x).cps.toList.all isF) = true:=h
    rw [Bool.not_eq_true'] at h
    have e:wnB x = false:=by unfold wnB; rw [h,hB]; rfl
    rw [e] at q
    exact q _
   have h3:¬ (!(fgs x).cps.toList.all isF) = true:=h3
   rw [Bool.not_eq_true',Bool.not_eq_false] at h3
   have ew:wnB x = (decide (x = Str.ofString "0") || !decide ((fgs x).cps.toList[0]? = some 48)):=by unfold wnB; rw [h3,hB]; rfl
   rw [ew] at q
   refine ite2 (fun h=>?_) (fun h=>?_)
   ·have h:decide (x = Str.ofString "0") = true:=h
    rw [h] at q
    exact q _
   have h:¬ decide (x = Str.ofString "0") = true:=h
   rw [Bool.eq_false_iff.mpr h] at q
   obtain ⟨c,hc⟩:∃ c,(fgs x).cps.toList[0]? = some c:=⟨_,List.getElem?_eq_getElem (by rw [<- len_list]; omega)⟩
   refine ⟨c,hz2,atI_nat (j:=0) hc,?_⟩
   have e:(!decide ((⟨#[c]⟩:Str) = Str.ofString "0")) = (false || !decide ((fgs x).cps.toList[0]? = some 48)):=by
    rw [Bool.false_or,hc]
    congr 1
    rw [decide_eq_decide,zero_list]
    simp
   rw [<- e] at q
   exact q _
noncomputable def cNums:ConM:=fun args Q Ex=>∃ (ws:List Str) (ln:Int),args = [.fz (.list (ws.map PyData.str)),.fz (.int ln)] /\ ws.length <= sizeLine /\ (∀ x ∈ ws,x.length <= sizeLine) /\ (∀ ns,nums ws = some ns -> ∀ o,Q (.fz (tupD ns)) o) /\ (nums ws = none -> Ex ln)
structure CalsN (P:Program) (w:World) (K:PySem.W.Frag) (mg:Str -> Option Value) (base:Heap):Prop where
 writes_number:Cal P w K mg base 1 "writes_number" ["word"] (conSp K cWrites)
 NoText:CalI P w K mg base 1 (cA mg "NoText")
noncomputable def wnD:PyData -> Bool
 | .str x=>wnB x
 | _=>false
noncomputable def valS:PyData -> Int
 | .str x=>numI x
 | _=>0
theorem scNums:FnScope ["words","line"] ["words","line"] (defScope (top 20)):=⟨rfl,rfl,rfl,by decide +kernel,rfl,by decide +kernel,by decide +kernel⟩
theorem ok_nums {f:Addr} {fd:FuncData} (F:Fun K "numbers_by" "numbers_by" (top 20) f fd) (T:Txt mg) (C:CalsN P w K mg base):FnOk P w K mg base (CXL P w) 3 f fd ["words","line"] (conSpM K (cA mg "NoText") cNums):=by
 have S:=scNums
 refine wfnM F S (fun cdv A outer s H E hr Y=>(ms_cons (m_if (t_not (t_val (w_callB ok_all (call_allK (K:=K) rfl rfl) T.all_ boot_all (wa_cons (wx (w_comp rfl (own:=["word"]) (fr:=[]) (by kernel_rfl) (i_seq rfl (wv 0)) (fun _ _ _ _=>(g_name (i:=0) (by decide +kernel:List.Nodup (["word"]:List Str)) rfl (Or.inl rfl))) (fun _ _ _ _=>if0) (fun _ _ _ _=>(w_fn C.writes_number (hr.mono (by first | decide | omega)) (wa_cons (wn 0) wa_nil))))) wa_nil)))) (ms_one (m_raise Y T.NoText_ C.NoText (hr.mono (by first | decide | omega)) (wa_cons (wn 1) (wa_cons (wx w_str) wa_nil)))) ms_nil)
     (ms_one (m_ok (s_ret (w_callT ok_tuple (call_tupleK (K:=K) rfl) T.tuple_ boot_tuple (wa_cons (wx (w_comp rfl (own:=["word"]) (fr:=[]) (by kernel_rfl) (i_seq rfl (wv 0)) (fun _ _ _ _=>(g_name (i:=0) (by decide +kernel:List.Nodup (["word"]:List Str)) rfl (Or.inl rfl))) (fun _ _ _ _=>if0) (fun _ _ _ _=>(w_callT ok_intS call_intS T.int_ boot_int (wa_cons (wn 0) wa_nil))))) wa_nil))))))) ?_ ?_
 ·rintro args Qd Ex ⟨ws,ln,rfl,_⟩; rfl
 ·rintro args Qd Ex ⟨ws,ln,rfl,hl,hx,q,x⟩
  refine ⟨noOw_of rfl,?_⟩
  have hk:(ws.map PyData.str).length <= sizeLine:=by rw [List.length_map]; exact hl
  refine ⟨hk,mapC (fun d=>.bool (wnD d)) ?_ ?_⟩
  ·rintro d hd R hR
   obtain ⟨t,ht,rfl⟩:=List.mem_map.mp hd
   exact ⟨t,rfl,hx t ht,fun o=>hR⟩
  ·refine ⟨ws.map wnB,by rw [List.map_map,List.map_map]; rfl,?_⟩
   have ea:(ws.map wnB).all id = ws.all wnB:=by rw [List.all_map]; rfl
   rw [ea]
   refine ite2 (fun h=>?_) (fun h=>?_)
   ·have h:(!ws.all wnB) = true:=h
    rw [Bool.not_eq_true'] at h
    exact ⟨_,_,rfl,x (nums_no (by rw [h]; decide))⟩
   have h:¬ (!ws.all wnB) = true:=h
   rw [Bool.not_eq_true',Bool.not_eq_false] at h
   obtain ⟨ns,ew,en,em,hb⟩:=nums_ok h
   have hk2:(ws.map PyData.str).length <= sizeLine:=hk
   refine ⟨hk2,mapC (fun d=>.int (valS d)) ?_ ?_⟩
   ·rintro d hd R hR
    obtain ⟨t,ht,rfl⟩:=List.mem_map.mp hd
    rw [ew] at ht
    obtain ⟨n,hn,rfl⟩:=List.mem_map.mp ht
    have e:=reads (n:=n) (Nat.lt_trans (hb n hn) (by decide +kernel))
    have hR:R (.int (numI (tx n))) _:=hR
    rw [num_tx (hb n hn)] at hR
    exact ⟨n,e,Nat.le_trans (tx_len (by decide) (hb n hn)) (by decide),hR⟩
   ·have e:((ws.map PyData.str).map fun d=>PyData.int (valS d)) = ns.map PyData.int:=by
     rw [List.map_map,<- em,List.map_map]
     rfl
    rw [e]
    exact q ns en _
end
end R61
namespace R61
open PySem PySem.Spec L2 L3 PyProof.Rows TX
theorem jn_mem {c x:Nat}:∀ {ps:List (List Nat)},x ∈ jn c ps -> x = c \/ ∃ p ∈ ps,x ∈ p
 | [],h=>by cases h
 | [a],h=>.inr ⟨a,by simp,h⟩
 | a :: b :: r,h=>by
  have h:x ∈ a ++ c :: jn c (b :: r):=h
  rcases List.mem_append.mp h with h | h
  ·exact .inr ⟨a,by simp,h⟩
  ·rcases List.mem_cons.mp h with h | h
   ·exact .inl h
   ·rcases jn_mem h with h | ⟨p,hp,h⟩
    ·exact .inl h
    ·exact .inr ⟨p,List.mem_cons_of_mem _ hp,h⟩
theorem le_sum {x:Nat}:∀ {l:List Nat},x ∈ l -> x <= l.sum
 | a :: l,h=>by
  rw [List.sum_cons]
  rcases List.mem_cons.mp h with rfl | h
  ·omega
  ·have:=le_sum h
   omega
theorem nums_len {ws:List Str} {ns:List Int} (h:nums ws = some ns):ns.length = ws.length /\ ∀ n ∈ ns,n.natAbs < 10 ^ 30:=by
 by_cases z:ws.all wnB = true
 ·obtain ⟨ns',e1,e2,e3,e4⟩:=nums_ok z
  rw [h] at e2
  cases e2
  exact ⟨by rw [e1,List.length_map],e4⟩
 ·rw [nums_no z] at h
  cases h
noncomputable abbrev dots:Str:=Str.ofString ".."
noncomputable abbrev wdc (t:Str):List Str:=Txt.split t (Str.ofString ",")
noncomputable abbrev plT (ns:List Int):Str:=Txt.join (Str.ofString ",") (ns.map tx)
theorem comma_is:(Str.ofString ",") = ⟨#[44]⟩:=by rfl
theorem dots_is:dots.cps.toList = [46,46]:=by decide
theorem plT_split {ns:List Int} (h:ns ≠ []):wdc (plT ns) = ns.map tx:=by
 show Txt.split (Txt.join (Str.ofString ",") (ns.map tx)) (Str.ofString ",") = _
 rw [comma_is]
 refine split_join (by simpa using h) fun p hp=>?_
 obtain ⟨n,_,rfl⟩:=List.mem_map.mp hp
 intro z
 rcases tx_signs n 44 z with e | e <;> omega
theorem plT_of {t:Str} {ns:List Int} (h:nums (wdc t) = some ns):t = plT ns:=by
 by_cases z:(wdc t).all wnB = true
 ·obtain ⟨ns',e1,e2,e3,e4⟩:=nums_ok z
  rw [h] at e2
  cases e2
  have h1:Str.join (Str.ofString ",") (wdc t) = t:=StrLaws.join_split _ _
  rw [<- h1,e1]
  exact (StrLaws.glued_eq_join _ _).symm
 ·rw [nums_no z] at h
  cases h
theorem plT_mem {ns:List Int} {x:Nat} (h:x ∈ (plT ns).cps.toList):x = 44 \/ x = 45 \/ (48 <= x /\ x <= 57):=by
 have e:plT ns = Str.join ⟨#[44]⟩ (ns.map tx):=StrLaws.glued_eq_join _ _
 rw [e,join_jn] at h
 rcases jn_mem h with h | ⟨p,hp,h⟩
 ·exact .inl h
 ·obtain ⟨t,ht,rfl⟩:=List.mem_map.mp hp
  obtain ⟨n,_,rfl⟩:=List.mem_map.mp ht
  exact .inr (tx_signs n x h)
theorem plT_free (ns:List Int):46 ∉ (plT ns).cps.toList:=fun h=>by
 have:=plT_mem h
 omega
theorem dd_at {al bl:List Nat} {k:Nat} (ha:46 ∉ al) (hb:46 ∉ bl) (h0:(al ++ 46 :: 46 :: bl)[k]? = some 46) (h1:(al ++ 46 :: 46 :: bl)[k + 1]? = some 46):k = al.length:=by
 rcases Nat.lt_or_ge k al.length with z | z
 ·rw [List.getElem?_append_left z] at h0
  exact absurd (List.mem_of_getElem? h0) ha
 ·obtain ⟨j,rfl⟩:∃ j,k = al.length + j:=⟨k - al.length,by omega⟩
  rw [List.getElem?_append_right (by omega)] at h0 h1
  match j,h0,h1 with
  | 0,_,_=>rfl
  | 1,_,h1 =>
   rw [show al.length + 1 + 1 - al.length = 2 by omega] at h1
   exact absurd (List.mem_of_getElem? (show bl[0]? = some 46 from h1)) hb
  | j + 2,h0,_ =>
   rw [show al.length + (j + 2) - al.length = j + 2 by omega] at h0
   exact absurd (List.mem_of_getElem? (show bl[j]? = some 46 from h0)) hb
theorem three_list (a b:Str):(a ++ dots ++ b).cps.toList = a.cps.toList ++ 46 :: 46 :: b.cps.toList:=by
 rw [Str.cps_append,Str.cps_append,Array.toList_append,Array.toList_append,dots_is]
 simp
section
variable {a b:Str} (ha:46 ∉ a.cps.toList) (hb:46 ∉ b.cps.toList)
include ha hb
theorem dots_at {k:Nat} (h:StrLaws.At (a ++ dots ++ b) dots (a ++ dots ++ b).length k):k = a.length:=by
 have e:=h.2
 rw [StrLaws.subAt_eq,three_list,dots_is] at e
 have e:=eq_of_beq e
 have g:∀ j,j < 2 -> (a.cps.toList ++ 46 :: 46 :: b.cps.toList)[k + j]? = some 46:=fun j hj=>by
  have h2:(((a.cps.toList ++ 46 :: 46 :: b.cps.toList).drop k).take 2)[j]? = some 46:=by
   have:((a.cps.toList ++ 46 :: 46 :: b.cps.toList).drop k).take 2 = [46,46]:=e
   rw [this]
   match j,hj with
   | 0,_=>rfl
   | 1,_=>rfl
  rw [List.getElem?_take,if_pos hj,List.getElem?_drop] at h2
  exact h2
 rw [len_list]
 exact dd_at ha hb (g 0 (by decide)) (g 1 (by decide))
theorem is_at:StrLaws.At (a ++ dots ++ b) dots (a ++ dots ++ b).length a.length:=by
 refine ⟨by rw [Str.length_append,Str.length_append]; omega,?_⟩
 rw [StrLaws.subAt_eq,three_list,dots_is,len_list a,List.drop_left]
 rfl
theorem part_dots:Txt.partition (a ++ dots ++ b) dots = (a,dots,b):=by
 rcases partition_whole (a ++ dots ++ b) dots with ⟨_,h⟩ | ⟨i,h,h1,_⟩
 ·exact absurd (is_at ha hb) (h _)
 ·have:=dots_at ha hb h1
  subst this
  rw [h]
  have e1:Builtin.Str.strSub (a ++ dots ++ b) 0 a.length = a:=str_list (by rw [StrLaws.strSub_toList,three_list,len_list]; simp)
  have e2:Builtin.Str.strSub (a ++ dots ++ b) (a.length + dots.length) (a ++ dots ++ b).length = b:=str_list (by
    rw [StrLaws.strSub_toList,three_list,len_list a,show dots.length = 2 by decide,<- List.drop_drop,List.drop_left]
    refine List.take_of_length_le ?_
    rw [len_list,three_list]
    simp
    omega)
  rw [e1,e2]
end
theorem cnt_join:∀ ps:List Str,2 * (ps.length - 1) <= (Str.join dots ps).cps.toList.count 46
 | []=>Nat.zero_le _
 | [p]=>Nat.zero_le _
 | p :: q :: r=>by
  have ih:=cnt_join (q :: r)
  have e:Str.join dots (p :: q :: r) = p ++ dots ++ Str.join dots (q :: r):=rfl
  rw [e,three_list,List.count_append,List.count_cons_self,List.count_cons_self]
  simp only [List.length_cons] at ih ⊢
  omega
theorem split_dots {a b:Str} (ha:46 ∉ a.cps.toList) (hb:46 ∉ b.cps.toList):Txt.split (a ++ dots ++ b) dots = [a,b]:=by
 have hj:Str.join dots (Txt.split (a ++ dots ++ b) dots) = a ++ dots ++ b:=StrLaws.join_split _ _
 have c1:=cnt_join (Txt.split (a ++ dots ++ b) dots)
 have c2:(a ++ dots ++ b).cps.toList.count 46 = 2:=by
  rw [three_list,List.count_append,List.count_cons_self,List.count_cons_self,List.count_eq_zero_of_not_mem ha,List.count_eq_zero_of_not_mem hb]
 rw [hj,c2] at c1
 have c3:2 <= (Txt.split (a ++ dots ++ b) dots).length:=by
  have k:Txt.split (a ++ dots ++ b) dots = if (decide ((a ++ dots ++ b).length < dots.length) || decide (Builtin.Str.strKind (a ++ dots ++ b) < Builtin.Str.strKind dots)) = true then [a ++ dots ++ b] else if (Builtin.Str.occurrences (a ++ dots ++ b) dots 0 (a ++ dots ++ b).length ((a ++ dots ++ b).length + 1)).isEmpty = true then [a ++ dots ++ b]
   else Builtin.Str.partsBetween (a ++ dots ++ b) (Builtin.Str.occurrences (a ++ dots ++ b) dots 0 (a ++ dots ++ b).length ((a ++ dots ++ b).length + 1)) dots.length:=rfl
  rw [k,if_neg,if_neg,parts_len]
  ·rcases StrLaws.occ_head (a ++ dots ++ b) dots ((a ++ dots ++ b).length + 1) (by omega) with ⟨_,h⟩ | ⟨i,r,h,_⟩
   ·exact absurd (is_at ha hb) (h _)
   ·rw [h,List.length_cons]
    omega
  ·rcases StrLaws.occ_head (a ++ dots ++ b) dots ((a ++ dots ++ b).length + 1) (by omega) with ⟨_,h⟩ | ⟨i,r,h,_⟩
   ·exact absurd (is_at ha hb) (h _)
   ·rw [h]
    exact fun z=>by cases z
  ·have e1:Builtin.Str.strKind dots = 1:=by decide +kernel
   have e2:1 <= Builtin.Str.strKind (a ++ dots ++ b):=by
    unfold Builtin.Str.strKind
    split
    ·decide
    ·split <;> decide
   have e3:dots.length <= (a ++ dots ++ b).length:=by rw [Str.length_append,Str.length_append]; omega
   rw [Bool.or_eq_true,decide_eq_true_eq,decide_eq_true_eq,e1]
   omega
 generalize Txt.split (a ++ dots ++ b) dots = ps at hj c1 c3
 obtain ⟨p,q,rfl⟩:∃ p q,ps = [p,q]:=by
  match ps,c1,c3 with
  | [p,q],_,_=>exact ⟨p,q,rfl⟩
  | _ :: _ :: _ :: _,c1,_=>simp at c1; omega
 have hj:p ++ dots ++ q = a ++ dots ++ b:=hj
 have e:=congrArg (fun x:Str=>x.cps.toList) hj
 simp only [three_list] at e
 have c4:p.cps.toList.count 46 + (q.cps.toList.count 46 + 1 + 1) = 2:=by
  have:=congrArg (List.count 46) e
  rw [List.count_append,List.count_cons_self,List.count_cons_self,<- three_list,c2] at this
  exact this
 have hp:46 ∉ p.cps.toList:=List.count_eq_zero.mp (by omega)
 obtain ⟨e1,e2⟩:=cut_eq hp ha e
 injection e2 with _ e2
 rw [str_list e1,str_list e2]
structure IsBx (sd:List Int) (x:Str) (lo hi:List Int):Prop where
 l:plB sd lo = true
 h:plB sd hi = true
 o:leB lo hi = true
 t:x = plT lo ++ dots ++ plT hi
theorem IsBx.split {sd:List Int} {x:Str} {lo hi:List Int} (h:IsBx sd x lo hi):Txt.split x dots = [plT lo,plT hi]:=by rw [h.t]; exact split_dots (plT_free lo) (plT_free hi)
theorem IsBx.part {sd:List Int} {x:Str} {lo hi:List Int} (h:IsBx sd x lo hi):Txt.partition x dots = (plT lo,dots,plT hi):=by rw [h.t]; exact part_dots (plT_free lo) (plT_free hi)
noncomputable def plN (sd:List Int) (t:Str):Option (List Int):=match nums (wdc t) with
 | some ns=>if plB sd ns = true then some ns else none
 | none=>none
theorem plN_some {sd:List Int} {t:Str} {ns:List Int} (h:plN sd t = some ns):nums (wdc t) = some ns /\ plB sd ns = true /\ t = plT ns:=by
 unfold plN at h
 split at h
 ·rename_i ns' e
  split at h
  ·rename_i z
   cases h
   exact ⟨e,z,plT_of e⟩
  ·cases h
 ·cases h
structure Sdd (sd:List Int):Prop where
 l1:1 <= sd.length
 l3:sd.length <= 3
 p:∀ c ∈ sd,1 <= c /\ c <= 120
theorem plB_abs {sd ns:List Int} (hs:Sdd sd) (h:plB sd ns = true):∀ n ∈ ns,0 <= n /\ n < 120:=by
 have hl:=plB_len h
 unfold plB at h
 rw [Bool.and_eq_true,List.all_eq_true] at h
 intro n hn
 obtain ⟨i,hi,rfl⟩:=List.getElem_of_mem hn
 have hi2:i < sd.length:=by omega
 have:=h.2 (ns[i],sd[i]) (by
   have e:(ns.zip sd)[i]'(by rw [List.length_zip]; omega) = (ns[i],sd[i]):=List.getElem_zip
   rw [<- e]
   exact List.getElem_mem _)
 simp only [Bool.and_eq_true,decide_eq_true_eq] at this
 have:=hs.p sd[i] (List.getElem_mem _)
 omega
theorem plN_plT {sd ns:List Int} (hs:Sdd sd) (h:plB sd ns = true):plN sd (plT ns) = some ns:=by
 have hl:=plB_len h
 have h1:=hs.l1
 have hne:ns ≠ []:=fun z=>by rw [z] at hl; simp at hl; omega
 unfold plN
 rw [plT_split hne,nums_tx fun n hn=>by
   have:=plB_abs hs h n hn
   have:n.natAbs <= 120:=by omega
   exact Nat.lt_of_le_of_lt this (by decide +kernel)]
 exact if_pos h
theorem wdc_len {t:Str} (h:t.length + 2 <= sizeLine):(wdc t).length <= sizeLine /\ ∀ x ∈ wdc t,x.length <= sizeLine:=by
 have k:((wdc t).map (·.length)).sum + (wdc t).length <= t.length + 1:=split_weight t (Str.ofString ",") (by decide)
 refine ⟨by omega,fun x hx=>?_⟩
 have:x.length <= ((wdc t).map (·.length)).sum:=le_sum (List.mem_map.mpr ⟨x,hx,rfl⟩)
 omega
theorem dts_len {t:Str} (h:t.length + 2 <= sizeLine):(Txt.split t dots).length <= sizeLine /\ ∀ x ∈ Txt.split t dots,x.length + 2 <= sizeLine:=by
 have k:((Txt.split t dots).map (·.length)).sum + (Txt.split t dots).length <= t.length + 1:=split_weight t dots (by decide)
 have p:1 <= (Txt.split t dots).length:=split_pos _ _
 refine ⟨by omega,fun x hx=>?_⟩
 have:x.length <= ((Txt.split t dots).map (·.length)).sum:=le_sum (List.mem_map.mpr ⟨x,hx,rfl⟩)
 omega
noncomputable abbrev boxD (lo hi:List Int):PyData:=.tuple [tupD lo,tupD hi]
section
variable {P:Program} {w:World} {K:PySem.W.Frag} {mg:Str -> Option Value} {base:Heap}
structure CalsRP (P:Program) (w:World) (K:PySem.W.Frag) (mg:Str -> Option Value) (base:Heap):Prop where
 numbers_by:CalM P w K mg base 3 "numbers_by" ["words","line"] (conSpM K (cA mg "NoText") cNums)
 is_place:Cal P w K mg base 3 "is_place" ["sides","thing"] (conSp K cIP)
 NoText:CalI P w K mg base 1 (cA mg "NoText")
noncomputable def cRP:ConM:=fun args Q Ex=>∃ (sd:List Int) (t:Str),args = [.fz (tupD sd),.fz (.str t)] /\ Sdd sd /\ t.length + 2 <= sizeLine /\ (∀ ns,plN sd t = some ns -> ∀ o,Q (.fz (tupD ns)) o) /\ (plN sd t = none -> Ex 0)
theorem scRP:FnScope ["sides","word","place"] ["sides","word"] (defScope (top 21)):=⟨rfl,rfl,rfl,by decide +kernel,rfl,by decide +kernel,by decide +kernel⟩
theorem ok_rp {f:Addr} {fd:FuncData} (F:Fun K "read_place" "read_place" (top 21) f fd) (T:Txt mg) (C:CalsRP P w K mg base):FnOk P w K mg base (CXL P w) 4 f fd ["sides","word"] (conSpM K (cA mg "NoText") cRP):=by
 have S:=scRP
 refine wfnM F S (fun cdv A outer s H E hr Y=>(ms_cons (m_set (i:=2) S.nd rfl (Or.inl rfl) (m_fn Y rfl C.numbers_by (hr.mono (by first | decide | omega)) (wa_cons (wx (w_split rfl (wn 1))) (wa_cons (wx w_int) wa_nil))))
     (ms_cons (m_if (t_not (t_val (w_fn C.is_place (hr.mono (by first | decide | omega)) (wa_cons (wn 0) (wa_cons (wn 2) wa_nil))))) (ms_one (m_raise Y T.NoText_ C.NoText (hr.mono (by first | decide | omega)) (wa_cons (wx w_int) (wa_cons (wx w_str) wa_nil)))) ms_nil)
     (ms_one (m_ok (s_retV (wn 2))))))) ?_ ?_
 ·rintro args Qd Ex ⟨sd,t,rfl,_⟩; rfl
 ·rintro args Qd Ex ⟨sd,t,rfl,hs,hl,q,x⟩
  refine ⟨noOw_of rfl,?_⟩
  obtain ⟨k1,k2⟩:=wdc_len hl
  have h3:=hs.l3
  refine ⟨by decide,hl,?_⟩
  refine ⟨wdc t,0,rfl,k1,k2,fun ns e o=>?_,fun e=>?_⟩
  ·have er:plN sd t = if plB sd ns = true then some ns else none:=by unfold plN; rw [e]
   refine ⟨sd,ns,rfl,by omega,fun o=>?_⟩
   refine ite2 (fun h=>?_) (fun h=>?_)
   ·have h:(!plB sd ns) = true:=h
    rw [Bool.not_eq_true'] at h
    exact ⟨_,_,rfl,x (by rw [er,h]; rfl)⟩
   ·have h:¬ (!plB sd ns) = true:=h
    rw [Bool.not_eq_true',Bool.not_eq_false] at h
    exact q ns (by rw [er,h]; rfl) _
  ·exact x (by unfold plN; rw [e])
structure CalsRB (P:Program) (w:World) (K:PySem.W.Frag) (mg:Str -> Option Value) (base:Heap):Prop where
 ask_for_text:CalM P w K mg base 3 "ask_for_text" ["thing"] (conSpM K (cA mg "NoText") cAsk)
 read_place:CalM P w K mg base 4 "read_place" ["sides","word"] (conSpM K (cA mg "NoText") cRP)
 is_box:Cal P w K mg base 4 "is_box" ["sides","thing"] (conSp K cIB)
 NoText:CalI P w K mg base 1 (cA mg "NoText")
noncomputable def cRB:ConM:=fun args Q Ex=>∃ (sd:List Int) (d:PyData),args = [.fz (tupD sd),.fz d] /\ Sdd sd /\ okA d = true /\ (∀ t,d = .str t -> t.length + 2 <= sizeLine) /\ (∀ t lo hi,d = .str t -> IsBx sd t lo hi -> ∀ o,Q (.fz (boxD lo hi)) o) /\ ((∀ t lo hi,d = .str t -> ¬ IsBx sd t lo hi) -> Ex 0)
theorem scRB:FnScope ["sides","text","box"] ["sides","text"] (defScope (top 22)):=⟨rfl,rfl,rfl,by decide +kernel,rfl,by decide +kernel,by decide +kernel⟩
theorem ok_rb {f:Addr} {fd:FuncData} (F:Fun K "read_box" "read_box" (top 22) f fd) (T:Txt mg) (C:CalsRB P w K mg base):FnOk P w K mg base (CXL P w) 5 f fd ["sides","text"] (conSpM K (cA mg "NoText") cRB):=by
 have S:=scRB
 refine wfnM F S (fun cdv A outer s H E hr Y=>(ms_cons (m_expr (m_fn Y rfl C.ask_for_text (hr.mono (by first | decide | omega)) (wa_cons (wn 1) wa_nil)))
     (ms_cons (m_set (i:=2) S.nd rfl (Or.inl rfl) (m_tup rfl T.tuple_ (m_comp (own:=["end"]) (fr:=[0]) Y (by kernel_rfl) (i_seq rfl (w_split rfl (wn 1))) (fun _ _ _ _=>(g_name (i:=0) (by decide +kernel:List.Nodup (["end","sides"]:List Str)) rfl (Or.inl rfl))) (fun _ _ _ _=>if0) (fun _ _ _ _=>(m_fnC rfl C.read_place (hr.mono (by first | decide | omega)) (wa_cons (wn 1) (wa_cons (wn 0) wa_nil)))))))
     (ms_cons (m_if (t_not (t_val (w_fn C.is_box (hr.mono (by first | decide | omega)) (wa_cons (wn 0) (wa_cons (wn 2) wa_nil))))) (ms_one (m_raise Y T.NoText_ C.NoText (hr.mono (by first | decide | omega)) (wa_cons (wx w_int) (wa_cons (wx w_str) wa_nil)))) ms_nil)
     (ms_one (m_ok (s_retV (wn 2)))))))) ?_ ?_
 ·rintro args Qd Ex ⟨sd,d,rfl,_⟩; rfl
 ·rintro args Qd Ex ⟨sd,d,rfl,hs,hd0,hl,q,x⟩
  refine ⟨noOw_of rfl,?_⟩
  have h3:=hs.l3
  with_reducible refine cutM (fun ρ=>isTx d = true /\ ρ = [some (.fz (tupD sd)),some (.fz d),none]) ?_ ?_
  ·intro N hN
   refine ⟨d,rfl,hd0,fun h o=>hN _ ⟨h,rfl⟩,fun h=>x fun t lo hi e _=>?_⟩
   rw [e] at h
   cases h
  rintro _ ⟨ht,rfl⟩
  obtain ⟨t,rfl⟩:∃ t,d = .str t:=by cases d <;> first | exact ⟨_,rfl⟩ | cases ht
  have hl:=hl t rfl
  obtain ⟨k1,k2⟩:=dts_len hl
  have x:(∀ lo hi,¬ IsBx sd t lo hi) -> Ex 0:=fun h=>x fun t' lo hi e=>by cases e; exact h lo hi
  with_reducible refine cutM (fun ρ=>∃ pls:List (List Int),(Txt.split t dots).map (plN sd) = pls.map some /\ ρ = [some (.fz (tupD sd)),some (.fz (.str t)),some (.fz (.tuple (pls.map tupD)))]) ?_ ?_
  ·intro N hN
   refine ⟨by decide,hl,by rw [List.length_map]; exact k1,compN (fun rest acc τ=>∃ (dn rs:List Str) (pls:List (List Int)),Txt.split t dots = dn ++ rs /\ rest = rs.map PyData.str /\ acc = pls.map tupD /\ dn.map (plN sd) = pls.map some /\ τ = [none,some (.fz (tupD sd))]) ?_ ?_ ⟨[],_,[],rfl,rfl,rfl,rfl,rfl⟩⟩
   ·rintro d ds acc τ ⟨dn,rs,pls,es,er,rfl,ep,rfl⟩ N' hN'
    cases rs with
    | nil=>cases er
    | cons p rs =>
     cases er
     have hp:p ∈ Txt.split t dots:=by rw [es]; simp
     refine ⟨sd,p,rfl,hs,k2 p hp,fun ns e o=>hN' _ _ ⟨dn ++ [p],rs,pls ++ [ns],by rw [es]; simp,rfl,by simp [Sl.d],by simp [ep,e],rfl⟩,fun e=>x fun lo hi hb=>?_⟩
     rw [hb.split] at hp
     simp only [List.mem_cons,List.not_mem_nil,or_false] at hp
     rcases hp with rfl | rfl
     ·rw [plN_plT hs hb.l] at e; cases e
     ·rw [plN_plT hs hb.h] at e; cases e
   ·rintro acc τ ⟨dn,rs,pls,es,er,rfl,ep,rfl⟩
    cases rs with
    | cons _ _=>cases er
    | nil =>
     rw [List.append_nil] at es
     subst es
     exact hN _ ⟨pls,ep,rfl⟩
  rintro _ ⟨pls,ep,rfl⟩
  have hpl:∀ p ∈ pls,plB sd p = true:=fun p hp=>by
   have:some p ∈ pls.map some:=List.mem_map.mpr ⟨p,hp,rfl⟩
   rw [<- ep] at this
   obtain ⟨y,_,e⟩:=List.mem_map.mp this
   exact (plN_some e).2.1
  refine ⟨sd,pls,rfl,by omega,hpl,fun o=>?_⟩
  refine ite2 (fun h=>?_) (fun h=>?_)
  ·have h:(!bxB pls) = true:=h
   rw [Bool.not_eq_true'] at h
   refine ⟨_,_,rfl,x fun lo hi hb=>?_⟩
   rw [hb.split,List.map_cons,List.map_cons,List.map_nil,plN_plT hs hb.l,plN_plT hs hb.h] at ep
   have e:pls = [lo,hi]:=by
    match pls,ep with
    | [a,b],ep=>simp at ep; rw [ep.1,ep.2]
   rw [e] at h
   have ho:=hb.o
   rw [show bxB [lo,hi] = leB lo hi from rfl,ho] at h
   cases h
  ·have h:¬ (!bxB pls) = true:=h
   rw [Bool.not_eq_true',Bool.not_eq_false] at h
   obtain ⟨lo,hi,rfl⟩:∃ lo hi,pls = [lo,hi]:=by
    match pls,h with
    | [a,b],_=>exact ⟨a,b,rfl⟩
   have hj:Str.join dots (Txt.split t dots) = t:=StrLaws.join_split _ _
   generalize Txt.split t dots = ps at ep hj
   obtain ⟨p,r,rfl⟩:∃ p r,ps = [p,r]:=by
    have:=congrArg List.length ep
    simp at this
    match ps,this with
    | [p,r],_=>exact ⟨p,r,rfl⟩
   simp only [List.map_cons,List.map_nil,List.cons.injEq,and_true] at ep
   obtain ⟨_,g2,g3⟩:=plN_some ep.1
   obtain ⟨_,g5,g6⟩:=plN_some ep.2
   refine q t lo hi rfl ⟨g2,g5,h,?_⟩ _
   rw [<- hj,<- g3,<- g6]
   rfl
end
end R61
namespace R61
open PySem PySem.Spec L2 L3 PyProof.Rows TX
theorem head_minus (x:Str):decide (Txt.slice x none (some 1) = Str.ofString "-") = Txt.startswith x (Str.ofString "-"):=by
 rw [Bool.eq_iff_iff,decide_eq_true_eq,starts_iff]
 cases e:x.cps.toList with
 | nil =>
  have hl:x.length = 0:=by rw [len_list,e]; rfl
  have:=slice_le x none (some 1)
  refine ⟨fun z=>?_,fun z=>by cases z⟩
  rw [z,hl] at this
  exact absurd this (by decide)
 | cons c r =>
  have k:=StrLaws.sliceText_to (x:=x) (j:=1) (by rw [e,List.length_cons]; omega)
  have k:Txt.slice x none (some 1) = _:=k
  rw [k,e]
  show (⟨[c].toArray⟩:Str) = _ ↔ some c = some 45
  rw [minus_is]
  constructor
  ·intro z
   injection z with z
   simp at z
   rw [z]
  ·intro z
   cases z
   rfl
theorem empty_list {x:Str}:x = Str.ofString "" ↔ x.length = 0:=⟨fun h=>by rw [h]; rfl,fun h=>str_list (by rw [len_list] at h; rw [List.length_eq_zero_iff.mp h]; rfl)⟩
noncomputable def okS (x:Str):Prop:=∀ c ∈ x.cps.toList,c < 0x110000
theorem Nice.str {n:Nat} {x:Str} (h:okS x):Nice n (.str x):=⟨rfl,by
  show PyData.strOk x = true
  unfold PyData.strOk
  rw [Array.all_eq_true_iff_forall_mem]
  intro c hc
  exact decide_eq_true (h c (by simpa using hc)),by simp [PyData.depth]⟩
theorem strs_nice {ts:List Str} (h:∀ t ∈ ts,okS t):Nice 1 (.list (ts.map PyData.str)):=.list fun d hd=>by
 obtain ⟨t,ht,rfl⟩:=List.mem_map.mp hd
 exact Nice.str (h t ht)
theorem slice_mem {x:Str} {l u:Option Int} {c:Nat} (h:c ∈ (Txt.slice x l u).cps.toList):c ∈ x.cps.toList:=by
 unfold Txt.slice at h
 split at h
 ·exact h
 ·obtain ⟨i,_,e⟩:=List.mem_filterMap.mp h
  have:=Array.mem_of_getElem? e
  simpa using this
theorem okS_slice {x:Str} (h:okS x) (l u:Option Int):okS (Txt.slice x l u):=fun c hc=>h c (slice_mem hc)
theorem okS_fgs {x:Str} (h:okS x):okS (fgs x):=by
 unfold fgs
 split
 ·exact okS_slice h _ _
 ·exact h
theorem strs_mix (ts:List Str):SeqAt.noMix (.list (ts.map PyData.str)) (.list []) = true:=by cases ts <;> simp [SeqAt.noMix,SeqAt.noMixAll]
theorem strs_same (ts:List Str):same (.list (ts.map PyData.str)) (.list []) = decide (ts = []):=by cases ts <;> simp [same,sameAll]
noncomputable def ni (x:Str):Option Int:=if wnB x = true then some (numI x) else none
theorem jn_sub {c x:Nat}:∀ {ps:List (List Nat)} {p:List Nat},p ∈ ps -> x ∈ p -> x ∈ jn c ps
 | [a],p,h,hx=>by
  rw [List.mem_singleton.mp h] at hx
  exact hx
 | a :: b :: r,p,h,hx=>by
  show x ∈ a ++ c :: jn c (b :: r)
  rcases List.mem_cons.mp h with rfl | h
  ·exact List.mem_append_left _ hx
  ·exact List.mem_append_right _ (List.mem_cons_of_mem _ (jn_sub h hx))
theorem split_mem {x p:Str} {s c:Nat} (hp:p ∈ Txt.split x ⟨#[s]⟩) (hc:c ∈ p.cps.toList):c ∈ x.cps.toList:=by
 have h:=join_jn s (Txt.split x ⟨#[s]⟩)
 rw [StrLaws.join_split] at h
 rw [h]
 exact jn_sub (List.mem_map.mpr ⟨p,hp,rfl⟩) hc
theorem okS_wdc {t:Str} (h:okS t):∀ x ∈ wdc t,okS x:=fun x hx c hc=>h c (split_mem (s:=44) (by rw [<- comma_is]; exact hx) hc)
theorem ints_nice (ns:List Int):Nice 1 (.list (ns.map PyData.int)):=.list fun d hd=>by
 obtain ⟨n,_,rfl⟩:=List.mem_map.mp hd
 exact Nice.int 0 n
theorem ints_mix (ns:List Int):SeqAt.noMix (.list (ns.map PyData.int)) (.list []) = true:=by cases ns <;> simp [SeqAt.noMix,SeqAt.noMixAll]
theorem ints_same (ns:List Int):same (.list (ns.map PyData.int)) (.list []) = decide (ns = []):=by cases ns <;> simp [same,sameAll]
theorem okS_app {x y:Str} (h1:okS x) (h2:okS y):okS (x ++ y):=fun c hc=>by
 rw [Str.cps_append,Array.toList_append] at hc
 rcases List.mem_append.mp hc with h | h
 ·exact h1 c h
 ·exact h2 c h
theorem sub_mem {x:Str} {i j c:Nat} (h:c ∈ (Builtin.Str.strSub x i j).cps.toList):c ∈ x.cps.toList:=by
 rw [StrLaws.strSub_toList] at h
 exact List.mem_of_mem_drop (List.mem_of_mem_take h)
structure Cut (x a d b:Str):Prop where
 e:Txt.partition x dots = (a,d,b)
 d:d = Str.ofString "" \/ (d = dots /\ x = a ++ dots ++ b)
 a:okS a /\ a.length <= x.length
 b:okS b /\ b.length <= x.length
theorem part_ok {x:Str} (h:okS x):∃ a d b,Cut x a d b:=by
 rcases partition_whole x dots with ⟨e,_⟩ | ⟨i,e,_⟩
 ·exact ⟨_,_,_,e,.inl rfl,⟨h,Nat.le_refl _⟩,⟨fun c hc=>(by cases hc),Nat.zero_le _⟩⟩
 ·have hs:=StrLaws.partition_sum x dots
  rw [e] at hs
  exact ⟨_,_,_,e,.inr ⟨rfl,hs.symm⟩,⟨fun c hc=>h c (sub_mem hc),le_strSub _ _ _⟩,⟨fun c hc=>h c (sub_mem hc),le_strSub _ _ _⟩⟩
theorem plB_false {sd ns:List Int} (h:(ns.length:Int) ≠ (sd.length:Int)):plB sd ns = false:=by unfold plB; rw [decide_eq_false (by omega)]; rfl
theorem one_ints {α:Type} (l:List α):(l.map fun _=>PyData.int 1) = (l.map fun _=>(1:Int)).map PyData.int:=by rw [List.map_map]; rfl
theorem plN_no {sd:List Int} {t:Str} {ns:List Int} (e:nums (wdc t) = some ns) (h:plB sd ns = false):plN sd t = none:=by unfold plN; rw [e]; exact if_neg (by rw [h]; decide)
theorem plN_yes {sd:List Int} {t:Str} {ns:List Int} (e:nums (wdc t) = some ns) (h:plB sd ns = true):plN sd t = some ns:=by unfold plN; rw [e]; exact if_pos h
section
variable {P:Program} {w:World} {K:PySem.W.Frag} {mg:Str -> Option Value} {base:Heap}
noncomputable def cNI:Con:=fun args Q=>∃ x:Str,args = [.fz (.str x)] /\ x.length <= sizeLine /\ okS x /\ ∀ o,Q (.fz (optD (ni x))) o
theorem scNI:FnScope ["_law_word","_law_figures"] ["_law_word"] (defScope (top 31)):=⟨rfl,rfl,rfl,by decide +kernel,rfl,by decide +kernel,by decide +kernel⟩
theorem ok_ni {f:Addr} {fd:FuncData} (F:Fun K "_law_number_in" "_law_number_in" (top 31) f fd) (T:Txt mg):FnOk P w K mg base CX0 1 f fd ["_law_word"] (conSp K cNI):=by
 have S:=scNI
 refine wfn F S (fun cdv A outer s H E hr=>(s_cons (s_move (i:=1) S.nd rfl (Or.inl rfl) (wn 0))
     (s_cons (s_if (t_cmp ok_eq (op_eqE (K:=K) rfl hr.units) (wx (w_slSU (wn 0) (wx w_int))) (wx w_str)) (s_one (s_set (i:=1) S.nd rfl (Or.inl rfl) (w_slS (wn 0) (wx w_int)))) s_nil)
     (s_cons (s_if (t_w (t_or (t_cmp ok_eq (op_eqE (K:=K) rfl hr.units) (wn 1) (wx w_str)) (t_or (t_cmp ok_gt op_gt (wx (w_callB ok_lenS call_len_str T.len_ PySem.boot_len (wa_cons (wn 1) wa_nil))) (wx w_int)) (t_or1 (t_cmp ok_ne (op_neE (K:=K) rfl hr.units) (wx (w_comp rfl (own:=["_law_sign_here"]) (fr:=[]) (by kernel_rfl) (i_str (wv 1)) (fun _ _ _ _=>(g_name (i:=0) (by decide +kernel:List.Nodup (["_law_sign_here"]:List Str)) rfl (Or.inl rfl))) (fun _ _ _ _=>if1 (t_notinS (wn 0) (wx w_str))) (fun _ _ _ _=>(wv 0)))) (wx (w_lst wa_nil))))))) (s_one (s_ret w_non)) s_nil)
     (s_cons (s_if (t_w (t_and (t_cmp ok_eq (op_eqE (K:=K) rfl hr.units) (wx (w_ixS (wn 1) (wx w_int))) (wx w_str)) (t_and1 (t_cmp ok_ne (op_neE (K:=K) rfl hr.units) (wn 0) (wx w_str))))) (s_one (s_ret w_non)) s_nil)
     (s_one (s_ret (w_callT ok_intS call_intS T.int_ boot_int (wa_cons (wn 0) wa_nil))))))))) ?_ ?_
 ·rintro args Qd ⟨n,rfl,_⟩; rfl
 ·rintro args Qd ⟨x,rfl,hz,hk,q⟩
  refine ⟨noOw_of rfl,?_⟩
  have no:wnB x = false -> ∀ o,Qd (.fz .none) o:=fun h o=>by
   have e:ni x = none:=by unfold ni; rw [h]; rfl
   have:=q o
   rw [e] at this
   exact this
  with_reducible refine cutS (fun ρ=>ρ = [some (.fz (.str x)),some (.fz (.str x))]) ?_ ?_
  ·intro N hN
   exact hN _ rfl
  rintro _ rfl
  with_reducible refine cutS (fun ρ=>ρ = [some (.fz (.str x)),some (.fz (.str (fgs x)))]) ?_ ?_
  ·intro N hN
   refine ⟨hz,?_⟩
   refine ite2 (fun h=>?_) (fun h=>?_)
   ·have h:decide (Txt.slice x none (some 1) = Str.ofString "-") = true:=h
    rw [head_minus] at h
    exact ⟨hz,hN _ (by rw [fgs,if_pos h]; rfl)⟩
   ·have h:¬ decide (Txt.slice x none (some 1) = Str.ofString "-") = true:=h
    rw [head_minus] at h
    exact hN _ (by rw [fgs,if_neg h])
  rintro _ rfl
  have hz2:(fgs x).length <= sizeLine:=Nat.le_trans (fgs_le x) hz
  have no1:¬ (1 <= (fgs x).length /\ (fgs x).length <= 30) -> ∀ o,Qd (.fz .none) o:=fun h=>no (by unfold wnB; rw [decide_eq_false h]; rfl)
  with_reducible refine cutS (fun ρ=>(1 <= (fgs x).length /\ (fgs x).length <= 30) /\ (fgs x).cps.toList.all isF = true /\ ρ = [some (.fz (.str x)),some (.fz (.str (fgs x)))]) ?_ ?_
  ·intro N hN
   refine ite2 (fun h=>?_) (fun h1=>?_)
   ·have h:decide (fgs x = Str.ofString "") = true:=h
    have:=empty_list.mp (of_decide_eq_true h)
    exact no1 (by omega) _
   have h1:¬ decide (fgs x = Str.ofString "") = true:=h1
   rw [decide_eq_true_eq,empty_list] at h1
   refine ⟨hz2,?_⟩
   refine ite2 (fun h=>?_) (fun h2=>?_)
   ·have h:decide ((30:Int) < ((fgs x).length:Int)) = true:=h
    have:=of_decide_eq_true h
    exact no1 (by omega) _
   have h2:¬ decide ((30:Int) < ((fgs x).length:Int)) = true:=h2
   rw [decide_eq_true_eq] at h2
   have hsl:(sgnD (fgs x)).length = (fgs x).length:=by simp [sgnD,Str.length]
   refine ⟨by rw [hsl]; exact hz2,filC (fun d=>match d with | .str y=>!y.cps.toList.all isF | _=>false) id ?_ ?_⟩
   ·rintro d hd R M hR hM
    obtain ⟨c,hc,rfl⟩:=List.mem_map.mp hd
    have e:=figs_is c
    have e2:(⟨#[c]⟩:Str).cps.toList.all isF = isF c:=by simp
    simp only [e2] at hR hM
    rw [<- e] at hR hM
    refine ite2 (fun h=>hR h) (fun h=>hM ?_)
    exact Bool.eq_false_iff.mpr h
   ·have ef:((sgnD (fgs x)).filter fun d=>match d with | .str y=>!y.cps.toList.all isF | _=>false).map id = (((fgs x).cps.toList.filter fun c=>!isF c).map fun c=>(⟨#[c]⟩:Str)).map PyData.str:=by
     rw [List.map_id,sgnD,List.filter_map,List.map_map]
     congr 1
     refine List.filter_congr fun c _=>?_
     simp
    rw [ef]
    generalize eb:((fgs x).cps.toList.filter fun c=>!isF c).map (fun c=>(⟨#[c]⟩:Str)) = bs
    have hb:(fgs x).cps.toList.all isF = decide (bs = []):=by
     rw [<- eb,Bool.eq_iff_iff,decide_eq_true_eq,List.map_eq_nil_iff,List.filter_eq_nil_iff,List.all_eq_true]
     simp
    have hw:=strs_nice (ts:=bs) fun t ht=>by
     rw [<- eb] at ht
     obtain ⟨c,hc,rfl⟩:=List.mem_map.mp ht
     intro c' hc'
     have:c' = c:=by simpa using hc'
     rw [this]
     exact okS_fgs hk c (List.mem_filter.mp hc).1
    refine ⟨hw.p,rfl,hw.sh (by decide),rfl,strs_mix _,?_⟩
    refine ite2 (fun h=>?_) (fun h=>?_)
    ·have h:(!same (.list (bs.map PyData.str)) (.list [])) = true:=h
     rw [strs_same,<- hb,Bool.not_eq_true'] at h
     exact no (by unfold wnB; rw [h,Bool.and_false]; rfl) _
    ·have h:¬ (!same (.list (bs.map PyData.str)) (.list [])) = true:=h
     rw [strs_same,<- hb,Bool.not_eq_true',Bool.not_eq_false] at h
     exact hN _ ⟨by omega,h,rfl⟩
  rintro _ ⟨hB,ha,rfl⟩
  have ew:wnB x = (decide (x = Str.ofString "0") || !decide ((fgs x).cps.toList[0]? = some 48)):=by unfold wnB; rw [ha,decide_eq_true hB]; rfl
  obtain ⟨c,hc⟩:∃ c,(fgs x).cps.toList[0]? = some c:=⟨_,List.getElem?_eq_getElem (by rw [<- len_list]; omega)⟩
  have ec:decide ((⟨#[c]⟩:Str) = Str.ofString "0") = decide ((fgs x).cps.toList[0]? = some 48):=by
   rw [hc,decide_eq_decide,zero_list]
   simp
  have yes:wnB x = true -> ∃ n:Int,intText? x = some n /\ x.length <= 640 /\ ∀ o,Qd (.fz (.int n)) o:=fun h=>by
   obtain ⟨n,hn,e⟩:=wnB_tx h
   have e1:ni x = some n:=by unfold ni; rw [if_pos h,e,num_tx hn]
   rw [e1] at q
   exact ⟨n,by rw [e]; exact reads (Nat.lt_trans hn (by decide +kernel)),by rw [e]; exact Nat.le_trans (tx_len (by decide) hn) (by decide),q⟩
  refine ⟨c,hz2,atI_nat (j:=0) hc,?_⟩
  refine ite2 (fun h=>?_) (fun h=>?_)
  ·have h:decide ((⟨#[c]⟩:Str) = Str.ofString "0") = true:=h
   rw [ec] at h
   rw [h] at ew
   refine ite2 (fun h2=>?_) (fun h2=>?_)
   ·have h2:(!decide (x = Str.ofString "0")) = true:=h2
    rw [Bool.not_eq_true'] at h2
    exact no (by rw [ew,h2]; rfl) _
   ·have h2:¬ (!decide (x = Str.ofString "0")) = true:=h2
    rw [Bool.not_eq_true',Bool.not_eq_false] at h2
    obtain ⟨n,g1,g2,g3⟩:=yes (by rw [ew,h2]; rfl)
    exact ⟨n,g1,g2,g3 _⟩
  ·have h:¬ decide ((⟨#[c]⟩:Str) = Str.ofString "0") = true:=h
   rw [ec] at h
   rw [Bool.eq_false_iff.mpr h] at ew
   obtain ⟨n,g1,g2,g3⟩:=yes (by rw [ew]; cases decide (x = Str.ofString "0") <;> rfl)
   exact ⟨n,g1,g2,g3 _⟩
noncomputable def niD:PyData -> PyData
 | .str x=>optD (ni x)
 | _=>.none
theorem ni_some {ws:List Str} (h:ws.all wnB = true):ws.map ni = (ws.map numI).map some:=by
 rw [List.all_eq_true] at h
 rw [List.map_map]
 exact List.map_congr_left fun x hx=>by show ni x = _; unfold ni; rw [if_pos (h x hx)]; rfl
theorem ni_none {ws:List Str} (h:¬ ws.all wnB = true):none ∈ ws.map ni:=by
 rw [List.all_eq_true] at h
 have:∃ x,x ∈ ws /\ ¬ wnB x = true:=Classical.byContradiction fun z=>h fun x hx=>Classical.byContradiction fun y=>z ⟨x,hx,y⟩
 obtain ⟨x,hx,hn⟩:=this
 exact List.mem_map.mpr ⟨x,hx,by unfold ni; rw [if_neg hn]⟩
structure CalsDu (P:Program) (w:World) (K:PySem.W.Frag) (mg:Str -> Option Value) (base:Heap):Prop where
 law_number_in:Cal P w K mg base 1 "_law_number_in" ["_law_word"] (conSp K cNI)
noncomputable def cDue:Con:=fun args Q=>∃ (sd:List Int) (x:Str),args = [.fz (tupD sd),.fz (.str x)] /\ Sdd sd /\ x.length + 2 <= sizeLine /\ okS x /\ (∀ lo hi,IsBx sd x lo hi -> ∀ o,Q (.fz (boxD lo hi)) o) /\ ((∀ lo hi,¬ IsBx sd x lo hi) -> ∀ o,Q (.fz .none) o)
theorem scDue:FnScope ["_law_sides","_law_text_here","_law_low","_law_dots","_law_high","_law_found","_law_part","_law_numbers"] ["_law_sides","_law_text_here"] (defScope (top 33)):=⟨rfl,rfl,rfl,by decide +kernel,rfl,by decide +kernel,by decide +kernel⟩
theorem ok_due {f:Addr} {fd:FuncData} (F:Fun K "_law_due" "_law_due" (top 33) f fd) (T:Txt mg) (C:CalsDu P w K mg base):FnOk P w K mg base CX0 2 f fd ["_law_sides","_law_text_here"] (conSp K cDue):=by
 have S:=scDue
 refine wfn F S (fun cdv A outer s H E hr=>(s_cons (s_asgG (w_part rfl (wn 1)) (g_tup rfl rfl (gs_cons (g_name (i:=2) S.nd rfl (Or.inl rfl)) (gs_cons (g_name (i:=3) S.nd rfl (Or.inl rfl)) (gs_cons (g_name (i:=4) S.nd rfl (Or.inl rfl)) gs_nil)))))
     (s_cons (s_set (i:=5) S.nd rfl (Or.inl rfl) (w_lst wa_nil))
     (s_cons (s_for [6,7] PassesOwn.never rfl (i_seq rfl (w_tup (wa_cons (wx (wv 2)) (wa_cons (wx (wv 4)) wa_nil)))) (g_name (i:=6) S.nd rfl (Or.inl rfl)) (s_cons (s_setC (i:=7) S.nd rfl rfl rfl (own:=["_law_word"]) (fr:=[]) (by kernel_rfl) (i_seq rfl (w_split rfl (wn 6))) (fun _ _ _ _=>(g_name (i:=0) (by decide +kernel:List.Nodup (["_law_word"]:List Str)) rfl (Or.inl rfl))) (fun _ _ _ _=>if0) (fun _ _ _ _=>(w_fn C.law_number_in (hr.mono (by first | decide | omega)) (wa_cons (wn 0) wa_nil))))
     (s_cons (s_if (t_w (t_or (t_cmp ok_eq (op_eqE (K:=K) rfl hr.units) (wn 3) (wx w_str)) (t_or (t_inN rfl (wx w_non) (wn 7)) (t_or1 (t_cmp ok_ne (op_neE (K:=K) rfl hr.units) (wx (w_callB ok_len (call_lenK (K:=K) rfl) T.len_ PySem.boot_len (wa_cons (wn 7) wa_nil))) (wx (w_callB ok_len (call_lenK (K:=K) rfl) T.len_ PySem.boot_len (wa_cons (wn 0) wa_nil)))))))) (s_one (s_ret w_non)) s_nil)
     (s_cons (s_if (t_cmp ok_ne (op_neE (K:=K) rfl hr.units) (wx (w_comp rfl (own:=["_law_number","_law_side"]) (fr:=[]) (by kernel_rfl) (i_zip2 rfl T.zip_ (wa_cons (wx (wv 7)) (wa_cons (wx (wv 0)) wa_nil))) (fun _ _ _ _=>(g_tup rfl rfl (gs_cons (g_name (i:=0) (by decide +kernel:List.Nodup (["_law_number","_law_side"]:List Str)) rfl (Or.inl rfl)) (gs_cons (g_name (i:=1) (by decide +kernel:List.Nodup (["_law_number","_law_side"]:List Str)) rfl (Or.inl rfl)) gs_nil)))) (fun _ _ _ _=>if1 (t_not (t_chain op_le op_lt (wx w_int) (wn 0) (wn 1)))) (fun _ _ _ _=>w_int))) (wx (w_lst wa_nil))) (s_one (s_ret w_non)) s_nil)
     (s_one (s_expr (w_m ok_append rfl PySem.F.slot_list_append PySem.F.type_list_append mt_append (wn 5) (wa_cons (wx (w_callT ok_tuple (call_tupleK (K:=K) rfl) T.tuple_ boot_tuple (wa_cons (wn 7) wa_nil))) wa_nil))))))))
     (s_cons (s_if (t_cmp ok_ne (op_neE (K:=K) rfl hr.units) (wx (w_comp rfl (own:=["_law_a","_law_b"]) (fr:=[]) (by kernel_rfl) (i_zip2 rfl T.zip_ (wa_cons (wx (w_ix rfl (wn 5) (wx w_int))) (wa_cons (wx (w_ix rfl (wn 5) (wx w_int))) wa_nil))) (fun _ _ _ _=>(g_tup rfl rfl (gs_cons (g_name (i:=0) (by decide +kernel:List.Nodup (["_law_a","_law_b"]:List Str)) rfl (Or.inl rfl)) (gs_cons (g_name (i:=1) (by decide +kernel:List.Nodup (["_law_a","_law_b"]:List Str)) rfl (Or.inl rfl)) gs_nil)))) (fun _ _ _ _=>if1 (t_cmp ok_gt op_gt (wn 0) (wn 1))) (fun _ _ _ _=>w_int))) (wx (w_lst wa_nil))) (s_one (s_ret w_non)) s_nil)
     (s_one (s_ret (w_tup (wa_cons (wx (w_ix rfl (wn 5) (wx w_int))) (wa_cons (wx (w_ix rfl (wn 5) (wx w_int))) wa_nil)))))))))) ?_ ?_
 ·rintro args Qd ⟨sd,x,rfl,_⟩; rfl
 ·rintro args Qd ⟨sd,x,rfl,hs,hl,hk,q,xn⟩
  refine ⟨noOw_of rfl,?_⟩
  have h1:=hs.l1
  have h3:=hs.l3
  obtain ⟨a,d,b,hc⟩:=part_ok hk
  have hal:=hc.a.2
  have hbl:=hc.b.2
  have bad:∀ p ∈ [a,b],plN sd p = none -> ∀ o,Qd (.fz .none) o:=fun p hp e=>xn fun lo hi hb=>by
   have:=hc.e
   rw [hb.part] at this
   cases this
   simp only [List.mem_cons,List.not_mem_nil,or_false] at hp
   rcases hp with rfl | rfl
   ·rw [plN_plT hs hb.l] at e; cases e
   ·rw [plN_plT hs hb.h] at e; cases e
  have bad0:d = Str.ofString "" -> ∀ o,Qd (.fz .none) o:=fun e=>xn fun lo hi hb=>by
   have:=hc.e
   rw [hb.part] at this
   cases this
   exact absurd e (by decide)
  with_reducible refine cutS (fun ρ=>ρ = [some (.fz (tupD sd)),some (.fz (.str x)),some (.fz (.str a)),some (.fz (.str d)),some (.fz (.str b)),none,none,none]) ?_ ?_
  ·intro N hN
   refine ⟨by decide,by omega,?_⟩
   rw [hc.e]
   exact ⟨rfl,hN _ rfl⟩
  rintro _ rfl
  with_reducible refine cutS (fun ρ=>ρ = [some (.fz (tupD sd)),some (.fz (.str x)),some (.fz (.str a)),some (.fz (.str d)),some (.fz (.str b)),some (.ow (.list [])),none,none]) ?_ ?_
  ·intro N hN
   exact hN _ rfl
  rintro _ rfl
  with_reducible refine cutS (fun ρ=>∃ lo hi,plN sd a = some lo /\ plN sd b = some hi /\ d = dots /\ ρ = [some (.fz (tupD sd)),some (.fz (.str x)),some (.fz (.str a)),some (.fz (.str d)),some (.fz (.str b)),some (.ow (.list [tupD lo,tupD hi])),none,none]) ?_ ?_
  ·intro NE hE
   refine loopC (fun rest ρ=>∃ (dn rs:List Str) (pls:List (List Int)),dn ++ rs = [a,b] /\ rest = rs.map PyData.str /\ dn.map (plN sd) = pls.map some /\ (dn = [] \/ d = dots) /\ ρ = [some (.fz (tupD sd)),some (.fz (.str x)),some (.fz (.str a)),some (.fz (.str d)),some (.fz (.str b)),some (.ow (.list (pls.map tupD))),none,none]) ?_ ?_ ⟨[],[a,b],[],rfl,rfl,rfl,.inl rfl,rfl⟩
   ·rintro _ ds _ ⟨dn,rs,pls,es,er,ep,hd,rfl⟩ N hN
    cases rs with
    | nil=>cases er
    | cons p rs =>
     cases er
     have hp:p ∈ [a,b]:=by rw [<- es]; simp
     have hpk:okS p /\ p.length <= x.length:=by
      simp only [List.mem_cons,List.not_mem_nil,or_false] at hp
      rcases hp with rfl | rfl
      ·exact hc.a
      ·exact hc.b
     have hpl:=hpk.2
     obtain ⟨k1,k2⟩:=wdc_len (t:=p) (by omega)
     have k3:=okS_wdc hpk.1
     with_reducible refine gnC rfl ?_
     with_reducible refine cutS (fun ρ=>ρ = [some (.fz (tupD sd)),some (.fz (.str x)),some (.fz (.str a)),some (.fz (.str d)),some (.fz (.str b)),some (.ow (.list (pls.map tupD))),some (.fz (.str p)),some (.ow (.list (((wdc p).map ni).map optD)))]) ?_ ?_
     ·intro M hM
      refine ⟨by decide,by omega,by rw [List.length_map]; exact k1,mapC niD ?_ ?_⟩
      ·rintro d' hd' R hR
       obtain ⟨t,ht,rfl⟩:=List.mem_map.mp hd'
       exact ⟨t,rfl,k2 t ht,k3 t ht,fun o=>hR⟩
      ·refine hM _ ?_
       rw [List.map_map,List.map_map]
       rfl
     rintro _ rfl
     with_reducible refine cutS (fun ρ=>∃ ns:List Int,nums (wdc p) = some ns /\ ns.length = sd.length /\ d = dots /\ ρ = [some (.fz (tupD sd)),some (.fz (.str x)),some (.fz (.str a)),some (.fz (.str d)),some (.fz (.str b)),some (.ow (.list (pls.map tupD))),some (.fz (.str p)),some (.ow (.list (ns.map PyData.int)))]) ?_ ?_
     ·intro M hM
      refine ite2 (fun h=>bad0 (of_decide_eq_true h) _) (fun h0=>?_)
      have h0:¬ decide (d = Str.ofString "") = true:=h0
      rw [decide_eq_true_eq] at h0
      have hdd:d = dots:=(hc.d.resolve_left h0).1
      refine ⟨(wdc p).map ni,rfl,?_⟩
      refine ite2 (fun h=>?_) (fun h=>?_)
      ·have h:decide (none ∈ (wdc p).map ni) = true:=h
       refine bad p hp ?_ _
       have hn:¬ (wdc p).all wnB = true:=fun z=>by
        have:=of_decide_eq_true h
        rw [ni_some z] at this
        obtain ⟨_,_,e⟩:=List.mem_map.mp this
        cases e
       unfold plN
       rw [nums_no hn]
      have h:¬ decide (none ∈ (wdc p).map ni) = true:=h
      have ha:(wdc p).all wnB = true:=Classical.byContradiction fun z=>h (decide_eq_true (ni_none z))
      obtain ⟨ns,ew,en,em,hb⟩:=nums_ok ha
      have e:((wdc p).map ni).map optD = ns.map PyData.int:=by
       rw [ni_some ha,em,List.map_map]
       rfl
      have el:((((wdc p).map ni).map optD).length:Int) = (ns.length:Int):=by rw [e,List.length_map]
      have esl:(((sd.map PyData.int).length:Nat):Int) = (sd.length:Int):=by rw [List.length_map]
      refine ite2 (fun h=>?_) (fun h=>?_)
      ·have h:(!decide (((((wdc p).map ni).map optD).length:Int) = (((sd.map PyData.int).length:Nat):Int))) = true:=h
       rw [el,esl,Bool.not_eq_true',decide_eq_false_iff_not] at h
       exact bad p hp (plN_no en (plB_false h)) _
      ·have h:¬ (!decide (((((wdc p).map ni).map optD).length:Int) = (((sd.map PyData.int).length:Nat):Int))) = true:=h
       rw [el,esl,Bool.not_eq_true',decide_eq_false_iff_not,Classical.not_not] at h
       exact hM _ ⟨ns,en,by omega,hdd,by rw [e]⟩
     rintro _ ⟨ns,en,hln,hdd,rfl⟩
     with_reducible refine cutS (fun ρ=>plB sd ns = true /\ ρ = [some (.fz (tupD sd)),some (.fz (.str x)),some (.fz (.str a)),some (.fz (.str d)),some (.fz (.str b)),some (.ow (.list (pls.map tupD))),some (.fz (.str p)),some (.fz (.list (ns.map PyData.int)))]) ?_ ?_
     ·intro M hM
      have ew:plB sd ns = (ns.zip sd).all fun p=>decide (0 <= p.1) && decide (p.1 < p.2):=by unfold plB; rw [decide_eq_true hln]; rfl
      refine ⟨?_,?_⟩
      ·rw [zipD_ints,List.length_map,List.length_zip]
       exact le_size (by omega)
      rw [zipD_ints]
      refine filC (fun d=>!wiD d) (fun _=>.int 1) ?_ ?_
      ·intro d' hd' R M' hR hM'
       obtain ⟨u,hu,rfl⟩:=List.mem_map.mp hd'
       have e:wiD (.tuple [.int u.1,.int u.2]) = (decide (0 <= u.1) && decide (u.1 < u.2)):=rfl
       simp only [e] at hR hM'
       refine ⟨rfl,?_⟩
       refine ite2 (fun h=>?_) (fun h=>?_)
       ·have h:decide (0 <= u.1) = true:=h
        rw [h,Bool.true_and] at hR hM'
        exact ite2 (fun h2=>hR h2) (fun h2=>hM' (Bool.eq_false_iff.mpr h2))
       ·have h:¬ decide (0 <= u.1) = true:=h
        rw [Bool.eq_false_iff.mpr h,Bool.false_and] at hR
        exact hR rfl
      ·have eo:∀ f:List PyData,(f.map fun _=>PyData.int 1) = (f.map fun _=>(1:Int)).map PyData.int:=fun f=>by rw [List.map_map]; rfl
       rw [eo]
       generalize eb:(((ns.zip sd).map fun p=>PyData.tuple [.int p.1,.int p.2]).filter fun d=>!wiD d).map (fun _=>(1:Int)) = bs
       have hb:plB sd ns = decide (bs = []):=by
        rw [ew,<- eb,Bool.eq_iff_iff,decide_eq_true_eq,List.map_eq_nil_iff,List.filter_eq_nil_iff,List.all_eq_true]
        constructor
        ·intro h d hd
         obtain ⟨u,hu,rfl⟩:=List.mem_map.mp hd
         have:=h u hu
         show ¬ (!(decide (0 <= u.1) && decide (u.1 < u.2))) = true
         rw [this]
         decide
        ·intro h u hu
         have:=h _ (List.mem_map.mpr ⟨u,hu,rfl⟩)
         have this:¬ (!(decide (0 <= u.1) && decide (u.1 < u.2))) = true:=this
         rw [Bool.not_eq_true',Bool.not_eq_false] at this
         exact this
       have hw:=ints_nice bs
       refine ⟨hw.p,rfl,hw.sh (by decide),rfl,ints_mix _,?_⟩
       refine ite2 (fun h=>?_) (fun h=>?_)
       ·have h:(!same (.list (bs.map PyData.int)) (.list [])) = true:=h
        rw [ints_same,<- hb,Bool.not_eq_true'] at h
        exact bad p hp (plN_no en h) _
       ·have h:¬ (!same (.list (bs.map PyData.int)) (.list [])) = true:=h
        rw [ints_same,<- hb,Bool.not_eq_true',Bool.not_eq_false] at h
        exact hM _ ⟨h,rfl⟩
     rintro _ ⟨hpb,rfl⟩
     have hpls:pls.length <= 2:=by
      have e3:=congrArg List.length ep
      have e4:=congrArg List.length es
      simp at e3 e4
      omega
     refine ⟨by rw [List.length_map]; exact Nat.lt_of_le_of_lt hpls (by decide),?_⟩
     exact hN _ ⟨dn ++ [p],rs,pls ++ [ns],by rw [<- es]; simp,rfl,by rw [List.map_append,List.map_append,ep,List.map_singleton,plN_yes en hpb]; rfl,.inr hdd,by rw [List.map_append]; rfl⟩
   ·rintro ρ ⟨dn,rs,pls,es,er,ep,hd,rfl⟩
    cases rs with
    | cons _ _=>cases er
    | nil =>
     rw [List.append_nil] at es
     subst es
     have hdd:=hd.resolve_left (by simp)
     obtain ⟨lo,hi,rfl⟩:∃ lo hi,pls = [lo,hi]:=by
      have:=congrArg List.length ep
      simp at this
      match pls,this with
      | [u,v],_=>exact ⟨u,v,rfl⟩
     simp only [List.map_cons,List.map_nil,List.cons.injEq,and_true] at ep
     exact hE _ ⟨lo,hi,ep.1,ep.2,hdd,rfl⟩
  rintro _ ⟨lo,hi,e1,e2,hdd,rfl⟩
  obtain ⟨_,g2,g3⟩:=plN_some e1
  obtain ⟨_,g5,g6⟩:=plN_some e2
  have hx:x = plT lo ++ dots ++ plT hi:=by
   rcases hc.d with z | z
   ·rw [z] at hdd; exact absurd hdd (by decide)
   ·rw [z.2,g3,g6]
  have hb:leB lo hi = true -> IsBx sd x lo hi:=fun h=>⟨g2,g5,h,hx⟩
  have hb':∀ lo' hi',IsBx sd x lo' hi' -> leB lo hi = true:=fun lo' hi' h=>by
   have e:=h.part
   rw [hc.e,g3,g6] at e
   have e3:plT lo = plT lo':=congrArg Prod.fst e
   have e4:plT hi = plT hi':=congrArg (fun z=>z.2.2) e
   have a1:=plN_plT hs h.l
   have a2:=plN_plT hs h.h
   rw [<- e3,plN_plT hs g2] at a1
   rw [<- e4,plN_plT hs g5] at a2
   cases a1
   cases a2
   exact h.o
  have l1:=plB_len g2
  have l2:=plB_len g5
  with_reducible refine cutS (fun ρ=>leB lo hi = true /\ ρ = [some (.fz (tupD sd)),some (.fz (.str x)),some (.fz (.str a)),some (.fz (.str d)),some (.fz (.str b)),some (.ow (.list [tupD lo,tupD hi])),none,none]) ?_ ?_
  ·intro N hN
   refine ⟨_,rfl,_,rfl,?_,?_⟩
   ·rw [zipD_ints,List.length_map,List.length_zip]
    exact le_size (by omega)
   rw [zipD_ints]
   refine filC (fun d=>!leD d) (fun _=>.int 1) ?_ ?_
   ·intro d' hd' R M' hR hM'
    obtain ⟨u,hu,rfl⟩:=List.mem_map.mp hd'
    have e:(!leD (.tuple [.int u.1,.int u.2])) = decide (u.2 < u.1):=by
     show (!decide (u.1 <= u.2)) = _
     rw [<- decide_not]
     exact decide_eq_decide.mpr (by omega)
    rw [e] at hR hM'
    refine ⟨rfl,?_⟩
    exact ite2 (fun h2=>hR h2) (fun h2=>hM' (Bool.eq_false_iff.mpr h2))
   ·have eo:∀ f:List PyData,(f.map fun _=>PyData.int 1) = (f.map fun _=>(1:Int)).map PyData.int:=fun f=>by rw [List.map_map]; rfl
    rw [eo]
    generalize eb:(((lo.zip hi).map fun p=>PyData.tuple [.int p.1,.int p.2]).filter fun d=>!leD d).map (fun _=>(1:Int)) = bs
    have hb2:leB lo hi = decide (bs = []):=by
     unfold leB
     rw [<- eb,Bool.eq_iff_iff,decide_eq_true_eq,List.map_eq_nil_iff,List.filter_eq_nil_iff,List.all_eq_true]
     constructor
     ·intro h d hd
      obtain ⟨u,hu,rfl⟩:=List.mem_map.mp hd
      have:=h u hu
      show ¬ (!decide (u.1 <= u.2)) = true
      rw [this]
      decide
     ·intro h u hu
      have:=h _ (List.mem_map.mpr ⟨u,hu,rfl⟩)
      have this:¬ (!decide (u.1 <= u.2)) = true:=this
      rw [Bool.not_eq_true',Bool.not_eq_false] at this
      exact this
    have hw:=ints_nice bs
    refine ⟨hw.p,rfl,hw.sh (by decide),rfl,ints_mix _,?_⟩
    refine ite2 (fun h=>?_) (fun h=>?_)
    ·have h:(!same (.list (bs.map PyData.int)) (.list [])) = true:=h
     rw [ints_same,<- hb2,Bool.not_eq_true'] at h
     exact xn (fun lo' hi' z=>by rw [hb' lo' hi' z] at h; cases h) _
    ·have h:¬ (!same (.list (bs.map PyData.int)) (.list [])) = true:=h
     rw [ints_same,<- hb2,Bool.not_eq_true',Bool.not_eq_false] at h
     exact hN _ ⟨h,rfl⟩
  rintro _ ⟨h,rfl⟩
  exact ⟨_,rfl,_,rfl,q lo hi (hb h) _⟩
end
end R61
namespace R61
open PySem PySem.Spec L2 L3 PyProof.Rows TX
structure Tk (n:Nat) (x:Str):Prop where
 l:x.length <= n
 o:okS x
instance (x:Str):Decidable (okS x):=by unfold okS; infer_instance
theorem Tk.mono {n m:Nat} {x:Str} (h:Tk n x) (k:n <= m):Tk m x:=⟨Nat.le_trans h.l k,h.o⟩
theorem Tk.app {n m:Nat} {x y:Str} (h1:Tk n x) (h2:Tk m y):Tk (n + m) (x ++ y):=⟨by rw [Str.length_append]; have:=h1.l; have:=h2.l; omega,okS_app h1.o h2.o⟩
theorem Tk.slice {n:Nat} {x:Str} (h:Tk n x) (l u:Option Int):Tk n (Txt.slice x l u):=⟨Nat.le_trans (slice_le _ _ _) h.l,okS_slice h.o _ _⟩
theorem tk_one {c:Nat} (h:c < 0x110000):Tk 1 ⟨#[c]⟩:=⟨Nat.le_refl _,fun c' hc'=>by
  have:c' = c:=by simpa using hc'
  rw [this]
  exact h⟩
theorem tk_tx {n:Int} {k:Nat} (hk:0 < k) (h:n.natAbs < 10 ^ k):Tk (k + 1) (tx n):=⟨tx_len hk h,fun c hc=>by rcases tx_signs n c hc with e | e <;> omega⟩
noncomputable def wt (ts:List Str):Nat:=(ts.map (·.length)).sum + ts.length
theorem wt_cons (x:Str) (ts:List Str):wt (x :: ts) = x.length + 1 + wt ts:=by
 unfold wt
 rw [List.map_cons,List.sum_cons,List.length_cons]
 omega
structure Ws (n:Nat) (ts:List Str):Prop where
 l:wt ts <= n
 o:∀ x ∈ ts,okS x
theorem Ws.join {n c:Nat} {ts:List Str} (h:Ws n ts) (hn:n <= 1048576) (hc:c < 0x110000):JoinOk ⟨#[c]⟩ ts = true /\ Tk n (Txt.join ⟨#[c]⟩ ts):=by
 have e:Txt.join ⟨#[c]⟩ ts = Str.join ⟨#[c]⟩ ts:=StrLaws.glued_eq_join _ _
 have hw:=h.l
 have hs:(⟨#[c]⟩:Str).length = 1:=rfl
 refine ⟨?_,?_,fun x hx=>?_⟩
 ·unfold JoinOk
  rw [joinFits_of_weight (show (ts.map (·.length)).sum + ts.length <= 1048576 from Nat.le_trans hw hn) (by rw [hs]; decide)]
  rfl
 ·have:=StrLaws.join_length_le ⟨#[c]⟩ ts
  rw [hs] at this
  unfold wt at hw
  rw [e]
  omega
 ·rw [e,join_jn] at hx
  rcases jn_mem hx with h1 | ⟨p,hp,h1⟩
  ·rw [h1]; exact hc
  ·obtain ⟨t,ht,rfl⟩:=List.mem_map.mp hp
   exact h.o t ht x h1
noncomputable def unI:PyData -> Int
 | .int i=>i
 | _=>0
noncomputable def stT:PyData -> Str
 | .int i=>tx i
 | .str x=>x
 | _=>Str.ofString ""
inductive El:PyData -> Prop
 | int {n:Int} (h:n.natAbs < 10 ^ 30):El (.int n)
 | str {x:Str} (h:Tk 40 x):El (.str x)
theorem El.tk {d:PyData} (h:El d):Tk 40 (stT d):=by
 cases h with
 | int h=>exact (tk_tx (by decide) h).mono (by decide)
 | str h=>exact h
noncomputable abbrev jnT (ds:List PyData):Str:=Txt.join (Str.ofString ",") (ds.map stT)
structure Els (ds:List PyData):Prop where
 l:ds.length <= 5
 e:∀ d ∈ ds,El d
theorem els_ws:∀ {ds:List PyData},(∀ d ∈ ds,El d) -> Ws (ds.length * 41) (ds.map stT)
 | [],_=>⟨by simp [wt],fun x hx=>by cases hx⟩
 | d :: ds,h=>by
  have h1:=(h d (by simp)).tk
  have h2:=els_ws (ds:=ds) fun x hx=>h x (by simp [hx])
  refine ⟨?_,fun x hx=>?_⟩
  ·have:=h1.l
   have:=h2.l
   rw [List.map_cons,wt_cons,List.length_cons]
   omega
  ·rcases List.mem_cons.mp hx with rfl | hx
   ·exact h1.o
   ·exact h2.o x hx
theorem Els.join {ds:List PyData} (h:Els ds):JoinOk (Str.ofString ",") (ds.map stT) = true /\ Tk 205 (jnT ds):=by
 have hl:=h.l
 have k:ds.length * 41 <= 1048576:=by omega
 have:=(els_ws h.e).join (c:=44) k (by decide)
 exact ⟨this.1,this.2.mono (by omega)⟩
theorem els_ints {ns:List Int} (hl:ns.length <= 5) (h:∀ n ∈ ns,n.natAbs < 10 ^ 30):Els (ns.map PyData.int):=⟨by rw [List.length_map]; exact hl,fun d hd=>by
  obtain ⟨n,hn,rfl⟩:=List.mem_map.mp hd
  exact .int (h n hn)⟩
theorem jnT_ints (ns:List Int):jnT (ns.map PyData.int) = plT ns:=by
 show Txt.join _ ((ns.map PyData.int).map stT) = Txt.join _ (ns.map tx)
 rw [List.map_map]
 rfl
theorem plB_snoc {sd ns:List Int} {s n:Int} (h:plB sd ns = true) (h0:0 <= n) (h1:n < s):plB (sd ++ [s]) (ns ++ [n]) = true:=by
 have hl:=plB_len h
 unfold plB at h ⊢
 rw [Bool.and_eq_true] at h ⊢
 refine ⟨decide_eq_true (by rw [List.length_append,List.length_append,hl]; rfl),?_⟩
 rw [List.zip_append hl,List.all_append,h.2]
 simp [h0,h1]
theorem leB_snoc {as bs:List Int} {a b:Int} (hl:as.length = bs.length) (h:leB as bs = true) (h1:a <= b):leB (as ++ [a]) (bs ++ [b]) = true:=by
 unfold leB at h ⊢
 rw [List.zip_append hl,List.all_append,h]
 simp [h1]
theorem leB_refl:∀ l:List Int,leB l l = true
 | []=>rfl
 | a :: l=>by
  have:=leB_refl l
  unfold leB at this ⊢
  rw [List.zip_cons_cons,List.all_cons,this]
  simp
theorem whole_ok:∀ {sd:List Int},(∀ c ∈ sd,1 <= c) -> plB sd (sd.map fun _=>0) = true /\ plB sd (sd.map fun s=>s - 1) = true /\ leB (sd.map fun _=>0) (sd.map fun s=>s - 1) = true
 | [],_=>⟨rfl,rfl,rfl⟩
 | c :: sd,h=>by
  obtain ⟨h1,h2,h3⟩:=whole_ok (sd:=sd) fun x hx=>h x (by simp [hx])
  have hc:=h c (by simp)
  unfold plB leB at *
  simp at *
  refine ⟨⟨by omega,h1⟩,⟨by omega,h2⟩,by omega,h3⟩
structure Bx (sd lo hi:List Int):Prop where
 l:plB sd lo = true
 h:plB sd hi = true
 o:leB lo hi = true
section
variable {P:Program} {w:World} {K:PySem.W.Frag} {mg:Str -> Option Value} {base:Heap}
noncomputable def cLT:Con:=fun args Q=>∃ as bs:List PyData,args = [.fz (.tuple [.tuple as,.tuple bs])] /\ Els as /\ Els bs /\ ∀ o,Q (.fz (.str (jnT as ++ dots ++ jnT bs))) o
theorem scLT:FnScope ["_law_box_here","_law_low","_law_high"] ["_law_box_here"] (defScope (top 32)):=⟨rfl,rfl,rfl,by decide +kernel,rfl,by decide +kernel,by decide +kernel⟩
theorem ok_ltx {f:Addr} {fd:FuncData} (F:Fun K "_law_text" "_law_text" (top 32) f fd) (T:Txt mg):FnOk P w K mg base CX0 1 f fd ["_law_box_here"] (conSp K cLT):=by
 have S:=scLT
 refine wfn F S (fun cdv A outer s H E hr=>(s_cons (s_asgG (wv 0) (g_tup rfl rfl (gs_cons (g_name (i:=1) S.nd rfl (Or.inl rfl)) (gs_cons (g_name (i:=2) S.nd rfl (Or.inl rfl)) gs_nil))))
     (s_one (s_ret (w_bin ok_addS op_add_str (wx (w_bin ok_addS op_add_str (wx (w_join rfl (wx (w_comp rfl (own:=["_law_number"]) (fr:=[]) (by kernel_rfl) (i_seq rfl (wv 1)) (fun _ _ _ _=>(g_name (i:=0) (by decide +kernel:List.Nodup (["_law_number"]:List Str)) rfl (Or.inl rfl))) (fun _ _ _ _=>if0) (fun _ _ _ _=>(w_callT ok_strA call_strA T.str_ boot_str (wa_cons (wn 0) wa_nil))))))) (wx w_str))) (wx (w_join rfl (wx (w_comp rfl (own:=["_law_number"]) (fr:=[]) (by kernel_rfl) (i_seq rfl (wv 2)) (fun _ _ _ _=>(g_name (i:=0) (by decide +kernel:List.Nodup (["_law_number"]:List Str)) rfl (Or.inl rfl))) (fun _ _ _ _=>if0) (fun _ _ _ _=>(w_callT ok_strA call_strA T.str_ boot_str (wa_cons (wn 0) wa_nil)))))))))))) ?_ ?_
 ·rintro args Qd ⟨as,bs,rfl,_⟩; rfl
 ·rintro args Qd ⟨as,bs,rfl,ha,hb,q⟩
  refine ⟨noOw_of rfl,?_⟩
  have szl:sizeLine = 16777216:=sizeLine_eq
  have la:=ha.l
  have lb:=hb.l
  have ja:=ha.join
  have jb:=hb.join
  have ka:=ja.2.l
  have kb:=jb.2.l
  have st:∀ {d:PyData} {Q:Sl -> Prop},El d -> Q (.fz (.str (stT d))) -> fStrA d Q:=fun {d Q} h hQ=>by
   cases h with
   | int h=>exact ⟨log_ok (Nat.lt_trans h (by decide +kernel)),hQ⟩
   | str h=>exact hQ
  with_reducible refine cutS (fun ρ=>ρ = [some (.fz (.tuple [.tuple as,.tuple bs])),some (.fz (.tuple as)),some (.fz (.tuple bs))]) ?_ ?_
  ·intro N hN
   exact ⟨rfl,hN _ rfl⟩
  rintro _ rfl
  refine ⟨by omega,mapC (fun d=>.str (stT d)) ?_ ?_⟩
  ·intro d hd R hR
   exact st (ha.e d hd) hR
  refine ⟨as.map stT,by rw [List.map_map]; rfl,ja.1,?_,by omega,mapC (fun d=>.str (stT d)) ?_ ?_⟩
  ·show (jnT as).length + 2 <= sizeLine
   omega
  ·intro d hd R hR
   exact st (hb.e d hd) hR
  refine ⟨bs.map stT,by rw [List.map_map]; rfl,jb.1,?_,q _⟩
  rw [Str.length_append]
  show (jnT as).length + 2 + (jnT bs).length <= sizeLine
  omega
noncomputable def Num5 (ns:List Int):Prop:=ns.length <= 5 /\ ∀ n ∈ ns,n.natAbs < 10 ^ 30
theorem Num5.els {ns:List Int} (h:Num5 ns):Els (ns.map PyData.int):=els_ints h.1 h.2
theorem Num5.join {ns:List Int} (h:Num5 ns):JoinOk (Str.ofString ",") (ns.map tx) = true /\ Tk 205 (plT ns):=by
 have:=h.els.join
 rw [jnT_ints,List.map_map] at this
 exact this
noncomputable def cSP:Con:=fun args Q=>∃ ns:List Int,args = [.fz (tupD ns)] /\ Num5 ns /\ ∀ o,Q (.fz (.str (plT ns))) o
theorem scSP:FnScope ["place"] ["place"] (defScope (top 24)):=⟨rfl,rfl,rfl,by decide +kernel,rfl,by decide +kernel,by decide +kernel⟩
theorem ok_sp {f:Addr} {fd:FuncData} (F:Fun K "show_place" "show_place" (top 24) f fd) (T:Txt mg):FnOk P w K mg base CX0 1 f fd ["place"] (conSp K cSP):=by
 have S:=scSP
 refine wfn F S (fun cdv A outer s H E hr=>(s_one (s_ret (w_join rfl (wx (w_comp rfl (own:=["number"]) (fr:=[]) (by kernel_rfl) (i_seq rfl (wv 0)) (fun _ _ _ _=>(g_name (i:=0) (by decide +kernel:List.Nodup (["number"]:List Str)) rfl (Or.inl rfl))) (fun _ _ _ _=>if0) (fun _ _ _ _=>(w_callT ok_strI call_str_int T.str_ boot_str (wa_cons (wn 0) wa_nil))))))))) ?_ ?_
 ·rintro args Qd ⟨ns,rfl,_⟩; rfl
 ·rintro args Qd ⟨ns,rfl,h,q⟩
  refine ⟨noOw_of rfl,?_⟩
  have h5:=h.1
  refine ⟨by rw [List.length_map]; exact le_size (by omega),mapC (fun d=>.str (stT d)) ?_ ?_⟩
  ·intro d hd R hR
   obtain ⟨n,hn,rfl⟩:=List.mem_map.mp hd
   exact ⟨log_ok (Nat.lt_trans (h.2 n hn) (by decide +kernel)),hR⟩
  ·exact ⟨ns.map tx,by rw [List.map_map,List.map_map]; rfl,h.join.1,q _⟩
structure CalsSB (P:Program) (w:World) (K:PySem.W.Frag) (mg:Str -> Option Value) (base:Heap):Prop where
 show_place:Cal P w K mg base 1 "show_place" ["place"] (conSp K cSP)
noncomputable def cSB:Con:=fun args Q=>∃ lo hi:List Int,args = [.fz (boxD lo hi)] /\ Num5 lo /\ Num5 hi /\ ∀ o,Q (.fz (.str (plT lo ++ dots ++ plT hi))) o
theorem scSB:FnScope ["box"] ["box"] (defScope (top 25)):=⟨rfl,rfl,rfl,by decide +kernel,rfl,by decide +kernel,by decide +kernel⟩
theorem ok_sb {f:Addr} {fd:FuncData} (F:Fun K "show_box" "show_box" (top 25) f fd) (T:Txt mg) (C:CalsSB P w K mg base):FnOk P w K mg base CX0 2 f fd ["box"] (conSp K cSB):=by
 have S:=scSB
 refine wfn F S (fun cdv A outer s H E hr=>(s_one (s_ret (w_bin ok_addS op_add_str (wx (w_bin ok_addS op_add_str (wx (w_fn C.show_place (hr.mono (by first | decide | omega)) (wa_cons (wx (w_ix rfl (wn 0) (wx w_int))) wa_nil))) (wx w_str))) (wx (w_fn C.show_place (hr.mono (by first | decide | omega)) (wa_cons (wx (w_ix rfl (wn 0) (wx w_int))) wa_nil))))))) ?_ ?_
 ·rintro args Qd ⟨lo,hi,rfl,_⟩; rfl
 ·rintro args Qd ⟨lo,hi,rfl,h1,h2,q⟩
  refine ⟨noOw_of rfl,?_⟩
  have szl:sizeLine = 16777216:=sizeLine_eq
  have k1:=h1.join.2.l
  have k2:=h2.join.2.l
  refine ⟨_,rfl,lo,rfl,h1,fun o=>?_⟩
  refine ⟨by show (plT lo).length + 2 <= sizeLine; omega,?_⟩
  refine ⟨_,rfl,hi,rfl,h2,fun o=>?_⟩
  refine ⟨?_,q _⟩
  rw [Str.length_append]
  show (plT lo).length + 2 + (plT hi).length <= sizeLine
  omega
structure CalsBo (P:Program) (w:World) (K:PySem.W.Frag) (mg:Str -> Option Value) (base:Heap):Prop where
 law_take:Cal P w K mg base 1 "_law_take" ["_law_pen_here","_law_most"] (conSp K cTake)
noncomputable def cBox:Con:=fun args Q=>∃ (ns:List Int) (k l:Int) (sd:List Int),args = [.io (penD ns k l),.fz (tupD sd)] /\ 0 <= k /\ 0 <= l /\ Sdd sd /\ ∀ (lo hi:List Int) (k' l':Int) (o:Ev),Bx sd lo hi -> 0 <= k' -> 0 <= l' -> Q (.fz (boxD lo hi)) (some (.io (penD ns k' l')) :: o)
theorem scBox:FnScope ["_law_pen_here","_law_sides","_law_way","_law_low","_law_high"] ["_law_pen_here","_law_sides"] (defScope (top 29)):=⟨rfl,rfl,rfl,by decide +kernel,rfl,by decide +kernel,by decide +kernel⟩
theorem ok_box {f:Addr} {fd:FuncData} (F:Fun K "_law_box" "_law_box" (top 29) f fd) (T:Txt mg) (C:CalsBo P w K mg base):FnOk P w K mg base CX0 2 f fd ["_law_pen_here","_law_sides"] (conSp K cBox):=by
 have S:=scBox
 refine wfn F S (fun cdv A outer s H E hr=>(s_cons (s_set (i:=2) S.nd rfl (Or.inl rfl) (w_fnI C.law_take (hr.mono (by first | decide | omega)) (wa_cons (wn 0) (wa_cons (wx w_int) wa_nil))))
     (s_cons (s_if (t_cmp ok_eq (op_eqE (K:=K) rfl hr.units) (wn 2) (wx w_int)) (s_one (s_ret (w_tup (wa_cons (wx (w_callT ok_tuple (call_tupleK (K:=K) rfl) T.tuple_ boot_tuple (wa_cons (wx (w_comp rfl (own:=["_law_side"]) (fr:=[]) (by kernel_rfl) (i_seq rfl (wv 1)) (fun _ _ _ _=>(g_name (i:=0) (by decide +kernel:List.Nodup (["_law_side"]:List Str)) rfl (Or.inl rfl))) (fun _ _ _ _=>if0) (fun _ _ _ _=>w_int))) wa_nil))) (wa_cons (wx (w_callT ok_tuple (call_tupleK (K:=K) rfl) T.tuple_ boot_tuple (wa_cons (wx (w_comp rfl (own:=["_law_side"]) (fr:=[]) (by kernel_rfl) (i_seq rfl (wv 1)) (fun _ _ _ _=>(g_name (i:=0) (by decide +kernel:List.Nodup (["_law_side"]:List Str)) rfl (Or.inl rfl))) (fun _ _ _ _=>if0) (fun _ _ _ _=>(w_bin ok_sub op_sub (wn 0) (wx w_int))))) wa_nil))) wa_nil))))) s_nil)
     (s_cons (s_setC (i:=3) S.nd rfl rfl rfl (own:=["_law_side"]) (fr:=[0]) (by kernel_rfl) (i_seq rfl (wv 1)) (fun _ _ _ _=>(g_name (i:=0) (by decide +kernel:List.Nodup (["_law_side","_law_pen_here"]:List Str)) rfl (Or.inl rfl))) (fun _ _ _ _=>if0) (fun _ _ _ _=>(w_fnI C.law_take (hr.mono (by first | decide | omega)) (wa_cons (wn 1) (wa_cons (wn 0) wa_nil)))))
     (s_cons (s_if (t_cmp ok_eq (op_eqE (K:=K) rfl hr.units) (wn 2) (wx w_int)) (s_one (s_ret (w_tup (wa_cons (wx (w_callT ok_tuple (call_tupleK (K:=K) rfl) T.tuple_ boot_tuple (wa_cons (wn 3) wa_nil))) (wa_cons (wx (w_callT ok_tuple (call_tupleK (K:=K) rfl) T.tuple_ boot_tuple (wa_cons (wn 3) wa_nil))) wa_nil))))) s_nil)
     (s_cons (s_setC (i:=4) S.nd rfl rfl rfl (own:=["_law_a","_law_side"]) (fr:=[0]) (by kernel_rfl) (i_zip2 rfl T.zip_ (wa_cons (wx (wv 3)) (wa_cons (wx (wv 1)) wa_nil))) (fun _ _ _ _=>(g_tup rfl rfl (gs_cons (g_name (i:=0) (by decide +kernel:List.Nodup (["_law_a","_law_side","_law_pen_here"]:List Str)) rfl (Or.inl rfl)) (gs_cons (g_name (i:=1) (by decide +kernel:List.Nodup (["_law_a","_law_side","_law_pen_here"]:List Str)) rfl (Or.inl rfl)) gs_nil)))) (fun _ _ _ _=>if0) (fun _ _ _ _=>(w_bin ok_add op_addD (wn 0) (wx (w_fnI C.law_take (hr.mono (by first | decide | omega)) (wa_cons (wn 2) (wa_cons (wx (w_bin ok_sub op_sub (wn 1) (wn 0))) wa_nil)))))))
     (s_one (s_ret (w_tup (wa_cons (wx (w_callT ok_tuple (call_tupleK (K:=K) rfl) T.tuple_ boot_tuple (wa_cons (wn 3) wa_nil))) (wa_cons (wx (w_callT ok_tuple (call_tupleK (K:=K) rfl) T.tuple_ boot_tuple (wa_cons (wn 4) wa_nil))) wa_nil))))))))))) ?_ ?_
 ·rintro args Qd ⟨ns,k,l,sd,rfl,_⟩; rfl
 ·rintro args Qd ⟨ns,k,l,sd,rfl,hk,hl,hs,q⟩
  refine ⟨noOw_of rfl,?_⟩
  have h3:=hs.l3
  have hsl:(sd.map PyData.int).length <= sizeLine:=by rw [List.length_map]; exact le_size (by omega)
  with_reducible refine cutS (fun ρ=>∃ (wy k l:Int),0 <= k /\ 0 <= l /\ ρ = [some (.io (penD ns k l)),some (.fz (tupD sd)),some (.fz (.int wy)),none,none]) ?_ ?_
  ·intro N hN
   exact ⟨ns,k,l,6,rfl,hk,hl,by decide,by decide,fun r k1 l1 _ r0 r1 hk1 hl1=>hN _ ⟨r,k1,l1,hk1,hl1,rfl⟩⟩
  clear hk hl
  rintro _ ⟨wy,k,l,hk,hl,rfl⟩
  with_reducible refine cutS (fun ρ=>ρ = [some (.io (penD ns k l)),some (.fz (tupD sd)),some (.fz (.int wy)),none,none]) ?_ ?_
  ·intro N hN
   refine ite2 (fun h=>?_) (fun h=>hN _ rfl)
   obtain ⟨w1,w2,w3⟩:=whole_ok fun c hc=>(hs.p c hc).1
   refine ⟨hsl,mapC (fun _=>.int 0) (fun d hd R hR=>hR) ?_⟩
   refine ⟨hsl,mapC (fun d=>.int (unI d - 1)) ?_ ?_⟩
   ·intro d hd R hR
    obtain ⟨n,hn,rfl⟩:=List.mem_map.mp hd
    exact hR
   ·have e1:((sd.map PyData.int).map fun _=>PyData.int 0) = (sd.map fun _=>(0:Int)).map PyData.int:=by rw [List.map_map,List.map_map]; rfl
    have e2:((sd.map PyData.int).map fun d=>PyData.int (unI d - 1)) = (sd.map fun s=>s - 1).map PyData.int:=by rw [List.map_map,List.map_map]; rfl
    rw [e1,e2]
    exact q (sd.map fun _=>0) (sd.map fun s=>s - 1) k l _ ⟨w1,w2,w3⟩ hk hl
  rintro _ rfl
  with_reducible refine cutS (fun ρ=>∃ (lo:List Int) (k l:Int),plB sd lo = true /\ 0 <= k /\ 0 <= l /\ ρ = [some (.io (penD ns k l)),some (.fz (tupD sd)),some (.fz (.int wy)),some (.ow (.list (lo.map PyData.int))),none]) ?_ ?_
  ·intro N hN
   refine ⟨hsl,compN (fun rest acc τ=>∃ (dn rs cs:List Int) (k4 l4:Int),sd = dn ++ rs /\ rest = rs.map PyData.int /\ acc = cs.map PyData.int /\ plB dn cs = true /\ τ = [none,some (.io (penD ns k4 l4))] /\ 0 <= k4 /\ 0 <= l4) ?_ ?_ ⟨[],sd,[],k,l,rfl,rfl,rfl,rfl,rfl,hk,hl⟩⟩
   ·rintro d ds acc τ ⟨dn,rs,cs,k4,l4,em,er,rfl,hle,rfl,hk4,hl4⟩ N' hN'
    cases rs with
    | nil=>cases er
    | cons m rs =>
     cases er
     have hm:=hs.p m (by rw [em]; simp)
     refine ⟨ns,k4,l4,m,rfl,hk4,hl4,by omega,by omega,fun x k5 l5 _ x0 x1 hk5 hl5=>?_⟩
     exact hN' _ _ ⟨dn ++ [m],rs,cs ++ [x],k5,l5,by rw [em]; simp,rfl,by simp [Sl.d],plB_snoc hle x0 x1,rfl,hk5,hl5⟩
   ·rintro acc τ ⟨dn,rs,cs,k4,l4,em,er,rfl,hle,rfl,hk4,hl4⟩
    cases rs with
    | cons _ _=>cases er
    | nil =>
     rw [List.append_nil] at em
     subst em
     exact hN _ ⟨cs,k4,l4,hle,hk4,hl4,rfl⟩
  clear hk hl
  rintro _ ⟨lo,k,l,hlo,hk,hl,rfl⟩
  have hll:=plB_len hlo
  with_reducible refine cutS (fun ρ=>ρ = [some (.io (penD ns k l)),some (.fz (tupD sd)),some (.fz (.int wy)),some (.ow (.list (lo.map PyData.int))),none]) ?_ ?_
  ·intro N hN
   refine ite2 (fun h=>?_) (fun h=>hN _ rfl)
   exact q lo lo k l _ ⟨hlo,hlo,leB_refl lo⟩ hk hl
  rintro _ rfl
  have hzl:(zipD (lo.map PyData.int) (sd.map PyData.int)).length <= sizeLine:=by
   rw [zipD_ints,List.length_map,List.length_zip]
   exact le_size (by omega)
  refine ⟨hzl,compN (fun rest acc τ=>∃ (da ra dn rs cs:List Int) (k4 l4:Int),lo = da ++ ra /\ sd = dn ++ rs /\ da.length = dn.length /\ rest = zipD (ra.map PyData.int) (rs.map PyData.int) /\ acc = cs.map PyData.int /\ plB dn cs = true /\ leB da cs = true /\ τ = [none,none,some (.io (penD ns k4 l4))] /\ 0 <= k4 /\ 0 <= l4) ?_ ?_ ⟨[],lo,[],sd,[],k,l,rfl,rfl,rfl,rfl,rfl,rfl,rfl,rfl,hk,hl⟩⟩
  ·rintro d ds acc τ ⟨da,ra,dn,rs,cs,k4,l4,ea,em,hdl,er,rfl,hpb,hle,rfl,hk4,hl4⟩ N' hN'
   rcases rs with _ | ⟨m,rs⟩ <;> rcases ra with _ | ⟨a,ra⟩ <;> first | (cases er; done) | skip
   cases er
   have hm:=hs.p m (by rw [em]; simp)
   have hcl:=plB_len hpb
   have ha:0 <= a /\ a < m:=by
    rw [ea,em] at hlo
    unfold plB at hlo
    rw [Bool.and_eq_true,List.zip_append hdl,List.all_append,Bool.and_eq_true,List.zip_cons_cons,List.all_cons,Bool.and_eq_true,Bool.and_eq_true] at hlo
    exact ⟨of_decide_eq_true hlo.2.2.1.1,of_decide_eq_true hlo.2.2.1.2⟩
   refine ⟨rfl,ns,k4,l4,m - a,rfl,hk4,hl4,by omega,by omega,fun x k5 l5 _ x0 x1 hk5 hl5=>?_⟩
   exact hN' _ _ ⟨da ++ [a],ra,dn ++ [m],rs,cs ++ [a + x],k5,l5,by rw [ea]; simp,by rw [em]; simp,by simp [hdl],rfl,by simp [Sl.d],plB_snoc hpb (by omega) (by omega),leB_snoc (by omega) hle (by omega),rfl,hk5,hl5⟩
  ·rintro acc τ ⟨da,ra,dn,rs,cs,k4,l4,ea,em,hdl,er,rfl,hpb,hle,rfl,hk4,hl4⟩
   have h0:=congrArg List.length ea
   have h1:=congrArg List.length em
   rw [List.length_append] at h0 h1
   rcases rs with _ | ⟨m,rs⟩ <;> rcases ra with _ | ⟨a,ra⟩ <;> first | (cases er; done) | (simp at h0 h1; omega) | skip
   rw [List.append_nil] at ea em
   subst ea
   subst em
   exact q _ cs k4 l4 _ ⟨hlo,hpb,hle⟩ hk4 hl4
end
end R61
namespace R61
open PySem PySem.Spec L2 L3 PyProof.Rows TX
theorem at_sign {x:Str} {r:Int} (hk:okS x) (r0:0 <= r) (r1:r < (x.length:Int)):∃ c,atI x.cps.toList r = some c /\ c < 0x110000:=by
 obtain ⟨j,rfl⟩:=Int.eq_ofNat_of_zero_le r0
 have hj:j < x.cps.toList.length:=by rw [<- len_list]; omega
 exact ⟨_,atI_nat (List.getElem?_eq_getElem hj),hk _ (List.getElem_mem hj)⟩
theorem at_text {ts:List Str} {r:Int} (r0:0 <= r) (r1:r < (ts.length:Int)):∃ x ∈ ts,atI (ts.map PyData.str) r = some (.str x):=by
 obtain ⟨j,rfl⟩:=Int.eq_ofNat_of_zero_le r0
 have hj:j < ts.length:=by omega
 exact ⟨_,List.getElem_mem hj,atI_nat (by simp [hj])⟩
noncomputable abbrev prD (p:List PyData × List PyData):PyData:=.tuple [.tuple p.1,.tuple p.2]
theorem at_pair {ts:List (List PyData × List PyData)} {r:Int} (r0:0 <= r) (r1:r < (ts.length:Int)):∃ x ∈ ts,atI (ts.map prD) r = some (prD x):=by
 obtain ⟨j,rfl⟩:=Int.eq_ofNat_of_zero_le r0
 have hj:j < ts.length:=by omega
 exact ⟨_,List.getElem_mem hj,atI_nat (by simp [hj])⟩
theorem Els.snoc {ds:List PyData} {d:PyData} (h:Els ds) (hl:ds.length <= 4) (hd:El d):Els (ds ++ [d]):=⟨by rw [List.length_append]; show ds.length + 1 <= 5; omega,fun x hx=>by
  rcases List.mem_append.mp hx with z | z
  · exact h.e x z
  · rw [List.mem_singleton.mp z]; exact hd⟩
theorem Els.drop {ds:List PyData} (h:Els ds) (i:Nat):Els (ds.drop i):=⟨by rw [List.length_drop]; have:=h.l; omega,fun x hx=>h.e x (List.mem_of_mem_drop hx)⟩
theorem Els.take {ds:List PyData} (h:Els ds) (i:Nat):Els (ds.take i):=⟨by rw [List.length_take]; have:=h.l; omega,fun x hx=>h.e x (List.mem_of_mem_take hx)⟩
theorem Els.rev {ds:List PyData} (h:Els ds):Els ds.reverse:=⟨by rw [List.length_reverse]; exact h.l,fun x hx=>h.e x (List.mem_reverse.mp hx)⟩
theorem fc {α:Type} {p:α -> Prop} {a:α} {l:List α} (h:p a) (t:∀ y ∈ l,p y):∀ y ∈ a :: l,p y:=fun y hy=>by
 rcases List.mem_cons.mp hy with z | z
 ·rw [z]; exact h
 ·exact t y z
theorem fn {α:Type} {p:α -> Prop}:∀ y ∈ ([]:List α),p y:=fun y hy=>by cases hy
section
variable {P:Program} {w:World} {K:PySem.W.Frag} {mg:Str -> Option Value} {base:Heap}
noncomputable def cSign:Con:=fun args Q=>∃ (ns:List Int) (k l:Int) (own:Str),args = [.io (penD ns k l),.fz (.str own)] /\ 0 <= k /\ 0 <= l /\ Tk 1000 own /\ 1 <= own.length /\ ∀ (x:Str) (k' l':Int) (o:Ev),Tk 1 x -> 0 <= k' -> 0 <= l' -> Q (.fz (.str x)) (some (.io (penD ns k' l')) :: o)
theorem scSign:FnScope ["_law_pen_here","_law_own","_law_some"] ["_law_pen_here","_law_own"] (defScope (top 34)):=⟨rfl,rfl,rfl,by decide +kernel,rfl,by decide +kernel,by decide +kernel⟩
theorem ok_sign {f:Addr} {fd:FuncData} (F:Fun K "_law_sign" "_law_sign" (top 34) f fd) (T:Txt mg) (C:CalsBo P w K mg base):FnOk P w K mg base CX0 2 f fd ["_law_pen_here","_law_own"] (conSp K cSign):=by
 have S:=scSign
 refine wfn F S (fun cdv A outer s H E hr=>(s_cons (s_set (i:=2) S.nd rfl (Or.inl rfl) w_str)
     (s_cons (s_if (t_cmp ok_eq (op_eqE (K:=K) rfl hr.units) (wx (w_fnI C.law_take (hr.mono (by first | decide | omega)) (wa_cons (wn 0) (wa_cons (wx w_int) wa_nil)))) (wx w_int)) (s_one (s_ret (w_ixS (wn 2) (wx (w_fnI C.law_take (hr.mono (by first | decide | omega)) (wa_cons (wn 0) (wa_cons (wx (w_callB ok_lenS call_len_str T.len_ PySem.boot_len (wa_cons (wn 2) wa_nil))) wa_nil))))))) s_nil)
     (s_one (s_ret (w_ixS (wn 1) (wx (w_fnI C.law_take (hr.mono (by first | decide | omega)) (wa_cons (wn 0) (wa_cons (wx (w_callB ok_lenS call_len_str T.len_ PySem.boot_len (wa_cons (wn 1) wa_nil))) wa_nil)))))))))) ?_ ?_
 ·rintro args Qd ⟨ns,k,l,own,rfl,_⟩; rfl
 ·rintro args Qd ⟨ns,k,l,own,rfl,hk,hl,ho,h1,q⟩
  refine ⟨noOw_of rfl,?_⟩
  have pk:∀ {x:Str} {k l:Int},Tk 1000 x -> 1 <= x.length -> x.length <= sizeLine /\ (0:Int) < (x.length:Int) /\ (x.length:Int) < 1000000:=fun {x k l} h h1=>⟨Nat.le_trans h.l (by decide),by omega,by have:=h.l; omega⟩
  with_reducible refine cutS (fun ρ=>∃ sm:Str,Tk 1000 sm /\ 1 <= sm.length /\ ρ = [some (.io (penD ns k l)),some (.fz (.str own)),some (.fz (.str sm))]) ?_ ?_
  ·intro N hN
   exact hN _ ⟨_,⟨by decide,by decide +kernel⟩,by decide,rfl⟩
  rintro _ ⟨sm,hs,hs1,rfl⟩
  obtain ⟨a1,a2,a3⟩:=pk (k:=0) (l:=0) hs hs1
  obtain ⟨b1,b2,b3⟩:=pk (k:=0) (l:=0) ho h1
  refine ⟨ns,k,l,2,rfl,hk,hl,by decide,by decide,fun r k1 l1 _ r0 r1 hk1 hl1=>?_⟩
  refine ite2 (fun h=>?_) (fun h=>?_)
  ·refine ⟨a1,ns,k1,l1,_,rfl,hk1,hl1,a2,a3,fun x k2 l2 _ x0 x1 hk2 hl2=>?_⟩
   obtain ⟨c,e,hc⟩:=at_sign hs.o x0 x1
   exact ⟨c,a1,e,q _ _ _ _ (tk_one hc) hk2 hl2⟩
  ·refine ⟨b1,ns,k1,l1,_,rfl,hk1,hl1,b2,b3,fun x k2 l2 _ x0 x1 hk2 hl2=>?_⟩
   obtain ⟨c,e,hc⟩:=at_sign ho.o x0 x1
   exact ⟨c,b1,e,q _ _ _ _ (tk_one hc) hk2 hl2⟩
structure CalsSpo (P:Program) (w:World) (K:PySem.W.Frag) (mg:Str -> Option Value) (base:Heap):Prop where
 law_take:Cal P w K mg base 1 "_law_take" ["_law_pen_here","_law_most"] (conSp K cTake)
 law_sign:Cal P w K mg base 2 "_law_sign" ["_law_pen_here","_law_own"] (conSp K cSign)
 law_text:Cal P w K mg base 1 "_law_text" ["_law_box_here"] (conSp K cLT)
noncomputable def cSpoilt:Con:=fun args Q=>∃ (ns:List Int) (k l:Int) (sd lo hi:List Int) (t:Str),args = [.io (penD ns k l),.fz (tupD sd),.fz (boxD lo hi),.fz (.str t)] /\ 0 <= k /\ 0 <= l /\ Sdd sd /\ Bx sd lo hi /\ Tk 1000 t /\ ∀ (y:Str) (k' l':Int) (o:Ev),Tk 5000 y -> 0 <= k' -> 0 <= l' -> Q (.fz (.str y)) (some (.io (penD ns k' l')) :: o)
noncomputable abbrev iS (n:Int):Option Sl:=some (.fz (.int n))
noncomputable abbrev tS (x:Str):Option Sl:=some (.fz (.str x))
noncomputable abbrev eS (ns:List Int) (k l:Int) (sd lo hi:List Int) (t:Str) (r:Ev):Ev:=some (.io (penD ns k l)) :: some (.fz (tupD sd)) :: some (.fz (boxD lo hi)) :: some (.fz (.str t)) :: r
theorem scSpoilt:FnScope ["_law_pen_here","_law_sides","_law_box_here","_law_text_here","_law_way","_law_spot","_law_sign_here","_law_low","_law_high","_law_some","_law_odd","_law_first","_law_dots","_law_second"] ["_law_pen_here","_law_sides","_law_box_here","_law_text_here"] (defScope (top 35)):=⟨rfl,rfl,rfl,by decide +kernel,rfl,by decide +kernel,by decide +kernel⟩
theorem ok_spoilt {f:Addr} {fd:FuncData} (F:Fun K "_law_spoilt" "_law_spoilt" (top 35) f fd) (T:Txt mg) (C:CalsSpo P w K mg base):FnOk P w K mg base CX0 3 f fd ["_law_pen_here","_law_sides","_law_box_here","_law_text_here"] (conSp K cSpoilt):=by
 have S:=scSpoilt
 refine wfn F S (fun cdv A outer s H E hr=>(s_cons (s_set (i:=4) S.nd rfl (Or.inl rfl) (w_fnI C.law_take (hr.mono (by first | decide | omega)) (wa_cons (wn 0) (wa_cons (wx w_int) wa_nil))))
     (s_cons (s_set (i:=5) S.nd rfl (Or.inl rfl) (w_fnI C.law_take (hr.mono (by first | decide | omega)) (wa_cons (wn 0) (wa_cons (wx (w_bin ok_add op_addD (wx (w_callB ok_lenS call_len_str T.len_ PySem.boot_len (wa_cons (wn 3) wa_nil))) (wx w_int))) wa_nil))))
     (s_cons (s_set (i:=6) S.nd rfl (Or.inl rfl) (w_fnI C.law_sign (hr.mono (by first | decide | omega)) (wa_cons (wn 0) (wa_cons (wx w_str) wa_nil))))
     (s_cons (s_asgG (wv 2) (g_tup rfl rfl (gs_cons (g_name (i:=7) S.nd rfl (Or.inl rfl)) (gs_cons (g_name (i:=8) S.nd rfl (Or.inl rfl)) gs_nil))))
     (s_cons (s_if (t_cmp ok_lt op_lt (wn 4) (wx w_int)) (s_one (s_ret (w_bin ok_addS op_add_str (wx (w_bin ok_addS op_add_str (wx (w_slSU (wn 3) (wn 5))) (wx (w_ix rfl (wx (w_lst (wa_cons (wx (wv 6)) (wa_cons (wx w_str) (wa_cons (wx (wv 6)) wa_nil))))) (wn 4))))) (wx (w_slS (wn 3) (wx (w_bin ok_add op_addD (wn 5) (wx (w_callT ok_int call_int1 T.int_ boot_int (wa_cons (wx (w_cmp ok_gt op_gt (wn 4) (wx w_int))) wa_nil)))))))))) s_nil)
     (s_cons (s_set (i:=9) S.nd rfl (Or.inl rfl) (w_lst (wa_cons (wx (w_tup (wa_cons (wx (wv 8)) (wa_cons (wx (wv 7)) wa_nil)))) (wa_cons (wx (w_tup (wa_cons (wx (wv 7)) (wa_cons (wx (wv 1)) wa_nil)))) (wa_cons (wx (w_tup (wa_cons (wx (w_bin ok_add op_addD (wn 7) (wx (w_tup (wa_cons (wx w_int) wa_nil))))) (wa_cons (wx (w_bin ok_add op_addD (wn 8) (wx (w_tup (wa_cons (wx w_int) wa_nil))))) wa_nil)))) (wa_cons (wx (w_tup (wa_cons (wx (w_slLo rfl (wn 7) (wx w_int))) (wa_cons (wx (w_slLo rfl (wn 8) (wx w_int))) wa_nil)))) (wa_cons (wx (w_tup (wa_cons (wx (wv 7)) (wa_cons (wx (w_revT rfl (wn 8) (wx (w_neg (wx w_int))))) wa_nil)))) wa_nil)))))))
     (s_cons (s_if (t_cmp ok_eq (op_eqE (K:=K) rfl hr.units) (wn 4) (wx w_int)) (s_one (s_ret (w_fn C.law_text (hr.mono (by first | decide | omega)) (wa_cons (wx (w_ix rfl (wn 9) (wx (w_fnI C.law_take (hr.mono (by first | decide | omega)) (wa_cons (wn 0) (wa_cons (wx w_int) wa_nil)))))) wa_nil)))) s_nil)
     (s_cons (s_set (i:=10) S.nd rfl (Or.inl rfl) (w_ix rfl (wx (w_lst (wa_cons (wx w_str) (wa_cons (wx w_str) (wa_cons (wx (w_bin ok_mulS op_mulS (wx w_str) (wx w_int))) (wa_cons (wx w_str) (wa_cons (wx w_str) (wa_cons (wx w_str) (wa_cons (wx w_str) (wa_cons (wx w_str) (wa_cons (wx w_str) (wa_cons (wx w_str) (wa_cons (wx (wv 6)) (wa_cons (wx (w_bin ok_addS op_add_str (wx w_str) (wn 6))) wa_nil)))))))))))))) (wx (w_fnI C.law_take (hr.mono (by first | decide | omega)) (wa_cons (wn 0) (wa_cons (wx w_int) wa_nil))))))
     (s_cons (s_if (t_cmp ok_eq (op_eqE (K:=K) rfl hr.units) (wn 4) (wx w_int)) (s_one (s_ret (w_fn C.law_text (hr.mono (by first | decide | omega)) (wa_cons (wx (w_tup (wa_cons (wx (w_bin ok_add op_addD (wx (w_slHi rfl (wn 7) (wx (w_neg (wx w_int))))) (wx (w_tup (wa_cons (wx (wv 10)) wa_nil))))) (wa_cons (wx (wv 8)) wa_nil)))) wa_nil)))) s_nil)
     (s_cons (s_asgG (w_part rfl (wn 3)) (g_tup rfl rfl (gs_cons (g_name (i:=11) S.nd rfl (Or.inl rfl)) (gs_cons (g_name (i:=12) S.nd rfl (Or.inl rfl)) (gs_cons (g_name (i:=13) S.nd rfl (Or.inl rfl)) gs_nil)))))
     (s_cons (s_set (i:=9) S.nd rfl (Or.inl rfl) (w_lst (wa_cons (wx (wv 11)) (wa_cons (wx (w_bin ok_addS op_add_str (wn 3) (wx w_str))) (wa_cons (wx (w_bin ok_addS op_add_str (wx (w_bin ok_addS op_add_str (wn 11) (wx w_str))) (wn 13))) (wa_cons (wx (w_bin ok_addS op_add_str (wx (w_bin ok_addS op_add_str (wn 11) (wx w_str))) (wn 13))) (wa_cons (wx (w_bin ok_addS op_add_str (wx (w_bin ok_addS op_add_str (wn 11) (wx w_str))) (wn 13))) (wa_cons (wx (w_bin ok_addS op_add_str (wx w_str) (wn 3))) wa_nil))))))))
     (s_one (s_ret (w_ix rfl (wx (w_bin ok_add op_addD (wn 9) (wx (w_lst (wa_cons (wx (w_bin ok_addS op_add_str (wx (w_bin ok_addS op_add_str (wn 13) (wx w_str))) (wn 11))) (wa_cons (wx (w_bin ok_addS op_add_str (wn 3) (wx w_str))) (wa_cons (wx (w_bin ok_addS op_add_str (wn 11) (wx w_str))) (wa_cons (wx (w_bin ok_addS op_add_str (wx (w_bin ok_addS op_add_str (wn 11) (wx w_str))) (wn 13))) wa_nil)))))))) (wx (w_fnI C.law_take (hr.mono (by first | decide | omega)) (wa_cons (wn 0) (wa_cons (wx w_int) wa_nil))))))))))))))))))) ?_ ?_
 ·rintro args Qd ⟨ns,k,l,sd,lo,hi,t,rfl,_⟩; rfl
 ·rintro args Qd ⟨ns,k,l,sd,lo,hi,t,rfl,hk,hl,hsd,hbx,ht,q⟩
  refine ⟨noOw_of rfl,?_⟩
  have szl:sizeLine = 16777216:=sizeLine_eq
  have htl:=ht.l
  have h1:=hsd.l1
  have h3:=hsd.l3
  have ll:=plB_len hbx.l
  have lh:=plB_len hbx.h
  have b30:∀ {ns:List Int},plB sd ns = true -> ∀ n ∈ ns,n.natAbs < 10 ^ 30:=fun h n hn=>by
   have:=plB_abs hsd h n hn
   have:n.natAbs <= 120:=by omega
   exact Nat.lt_of_le_of_lt this (by decide +kernel)
  have blo:=b30 hbx.l
  have bhi:=b30 hbx.h
  have bsd:∀ n ∈ sd,n.natAbs < 10 ^ 30:=fun n hn=>by
   have:=hsd.p n hn
   have:n.natAbs <= 120:=by omega
   exact Nat.lt_of_le_of_lt this (by decide +kernel)
  have fin:∀ {y:Str} {k l:Int},Tk 5000 y -> 0 <= k -> 0 <= l -> ∀ o,Qd (.fz (.str y)) (some (.io (penD ns k l)) :: o):=fun h hk hl o=>q _ _ _ o h hk hl
  with_reducible refine cutS (fun ρ=>∃ (way k l:Int),(0 <= way /\ way < 6) /\ (0 <= k /\ 0 <= l) /\ ρ = eS ns k l sd lo hi t [iS way,none,none,none,none,none,none,none,none,none]) ?_ ?_
  ·intro N hN
   exact ⟨ns,k,l,_,rfl,hk,hl,by decide,by decide,fun r k1 l1 _ r0 r1 hk1 hl1=>hN _ ⟨r,k1,l1,⟨r0,r1⟩,⟨hk1,hl1⟩,rfl⟩⟩
  clear hk hl
  rintro _ ⟨way,k,l,⟨w0,w9⟩,⟨hk,hl⟩,rfl⟩
  with_reducible refine cutS (fun ρ=>∃ (sp k l:Int),0 <= sp /\ (0 <= k /\ 0 <= l) /\ ρ = eS ns k l sd lo hi t [iS way,iS sp,none,none,none,none,none,none,none,none]) ?_ ?_
  ·intro N hN
   exact ⟨by omega,ns,k,l,_,rfl,hk,hl,by omega,by omega,fun r k1 l1 _ r0 r1 hk1 hl1=>hN _ ⟨r,k1,l1,r0,⟨hk1,hl1⟩,rfl⟩⟩
  clear hk hl
  rintro _ ⟨sp,k,l,p0,⟨hk,hl⟩,rfl⟩
  with_reducible refine cutS (fun ρ=>∃ (sg:Str) (k l:Int),Tk 1 sg /\ (0 <= k /\ 0 <= l) /\ ρ = eS ns k l sd lo hi t [iS way,iS sp,tS sg,none,none,none,none,none,none,none]) ?_ ?_
  ·intro N hN
   exact ⟨ns,k,l,_,rfl,hk,hl,⟨by decide,by decide +kernel⟩,by decide,fun r k1 l1 _ r0 hk1 hl1=>hN _ ⟨r,k1,l1,r0,⟨hk1,hl1⟩,rfl⟩⟩
  clear hk hl
  rintro _ ⟨sg,k,l,hsg,⟨hk,hl⟩,rfl⟩
  have hgl:=hsg.l
  with_reducible refine cutS (fun ρ=>ρ = eS ns k l sd lo hi t [iS way,iS sp,tS sg,some (.fz (tupD lo)),some (.fz (tupD hi)),none,none,none,none,none]) ?_ ?_
  ·intro N hN
   exact ⟨rfl,hN _ rfl⟩
  rintro _ rfl
  with_reducible refine cutS (fun ρ=>3 <= way /\ ρ = eS ns k l sd lo hi t [iS way,iS sp,tS sg,some (.fz (tupD lo)),some (.fz (tupD hi)),none,none,none,none,none]) ?_ ?_
  ·intro N hN
   refine ite2 (fun h=>?_) (fun h=>?_)
   ·have h:decide (way < 3) = true:=h
    rw [decide_eq_true_eq] at h
    have c1:=ht.slice none (some sp)
    have e0:Tk 1 (Str.ofString ""):=⟨by decide,by decide +kernel⟩
    have go:∀ {m:Str},Tk 1 m -> ∀ {u v:Str},Tk 1000 u -> Tk 1000 v -> u.length + m.length <= sizeLine /\ (u ++ m).length + v.length <= sizeLine /\ Tk 5000 (u ++ m ++ v):=fun {m} hm {u v} hu hv=>by
     have:=hm.l
     have:=hu.l
     have:=hv.l
     exact ⟨by omega,by rw [Str.length_append]; omega,((hu.app hm).app hv).mono (by omega)⟩
    have three:way = 0 \/ way = 1 \/ way = 2:=by omega
    rcases three with rfl | rfl | rfl
    ·obtain ⟨g1,g2,g3⟩:=go hsg c1 (ht.slice (some (sp + 0)) none)
     exact ⟨by omega,_,rfl,g1,by omega,g2,fin g3 hk hl _⟩
    ·obtain ⟨g1,g2,g3⟩:=go e0 c1 (ht.slice (some (sp + 1)) none)
     exact ⟨by omega,_,rfl,g1,by omega,g2,fin g3 hk hl _⟩
    ·obtain ⟨g1,g2,g3⟩:=go hsg c1 (ht.slice (some (sp + 1)) none)
     exact ⟨by omega,_,rfl,g1,by omega,g2,fin g3 hk hl _⟩
   ·have h:¬ decide (way < 3) = true:=h
    rw [decide_eq_true_eq] at h
    exact hN _ ⟨by omega,rfl⟩
  rintro _ ⟨w3,rfl⟩
  have elo:=els_ints (by omega) blo
  have ehi:=els_ints (by omega) bhi
  have esd:=els_ints (by omega) bsd
  have kl:(lo.map PyData.int).length = lo.length:=List.length_map ..
  have kh:(hi.map PyData.int).length = hi.length:=List.length_map ..
  have z0:El (.int 0):=.int (by decide +kernel)
  with_reducible refine cutS (fun ρ=>∃ ps:List (List PyData × List PyData),ps.length = 5 /\ (∀ p ∈ ps,Els p.1 /\ Els p.2) /\ ρ = eS ns k l sd lo hi t [iS way,iS sp,tS sg,some (.fz (tupD lo)),some (.fz (tupD hi)),some (.ow (.list (ps.map prD))),none,none,none,none]) ?_ ?_
  ·intro N hN
   exact ⟨by rw [kl]; show lo.length + 1 <= sizeLine; omega,by rw [kh]; show hi.length + 1 <= sizeLine; omega,by decide,by rw [kl]; omega,by decide,by rw [kh]; omega,rfl,hN _ ⟨[(hi.map PyData.int,lo.map PyData.int),(lo.map PyData.int,sd.map PyData.int),(lo.map PyData.int ++ [.int 0],hi.map PyData.int ++ [.int 0]),((lo.map PyData.int).drop 1,(hi.map PyData.int).drop 1),(lo.map PyData.int,(hi.map PyData.int).reverse)],rfl,fc ⟨ehi,elo⟩ (fc ⟨elo,esd⟩ (fc ⟨elo.snoc (by omega) z0,ehi.snoc (by omega) z0⟩ (fc ⟨elo.drop 1,ehi.drop 1⟩ (fc ⟨elo,ehi.rev⟩ fn)))),rfl⟩⟩
  rintro _ ⟨ps,hp5,hps,rfl⟩
  with_reducible refine cutS (fun ρ=>4 <= way /\ ρ = eS ns k l sd lo hi t [iS way,iS sp,tS sg,some (.fz (tupD lo)),some (.fz (tupD hi)),some (.ow (.list (ps.map prD))),none,none,none,none]) ?_ ?_
  ·intro N hN
   refine ite2 (fun h=>?_) (fun h=>?_)
   ·refine ⟨ns,k,l,_,rfl,hk,hl,by decide,by decide,fun r k1 l1 _ r0 r1 hk1 hl1=>?_⟩
    obtain ⟨p,hp,e⟩:=at_pair (ts:=ps) r0 (by rw [hp5]; exact r1)
    obtain ⟨g1,g2⟩:=hps p hp
    exact ⟨_,e,p.1,p.2,rfl,g1,g2,fun o=>fin (((g1.join.2.app (m:=2) ⟨by decide,by decide +kernel⟩).app g2.join.2).mono (by decide)) hk1 hl1 _⟩
   ·have h:¬ decide (way = 3) = true:=h
    rw [decide_eq_true_eq] at h
    exact hN _ ⟨by omega,rfl⟩
  rintro _ ⟨w4,rfl⟩
  with_reducible refine cutS (fun ρ=>∃ (od:Str) (k l:Int),Tk 40 od /\ (0 <= k /\ 0 <= l) /\ ρ = eS ns k l sd lo hi t [iS way,iS sp,tS sg,some (.fz (tupD lo)),some (.fz (tupD hi)),some (.ow (.list (ps.map prD))),tS od,none,none,none]) ?_ ?_
  ·intro N hN
   have d:∀ {y:Str},y.length <= 40 -> okS y -> Tk 40 y:=fun h1 h2=>⟨h1,h2⟩
   obtain ⟨us,eu,hu⟩:∃ us:List Str,us = [Str.ofString "-0",Str.ofString "01",Str.ofString "9999999999999999999999999999999",Str.ofString "",Str.ofString "+1",Str.ofString "120",Str.ofString "-1",Str.ofString "0 ",Str.ofString "1_0",Str.ofString "0_0",sg,Str.ofString "0" ++ sg] /\ ∀ y ∈ us,Tk 40 y :=
    ⟨_,rfl,fc (d (by decide) (by decide +kernel)) (fc (d (by decide) (by decide +kernel)) (fc (d (by decide) (by decide +kernel)) (fc (d (by decide) (by decide +kernel)) (fc (d (by decide) (by decide +kernel)) (fc (d (by decide) (by decide +kernel)) (fc (d (by decide) (by decide +kernel)) (fc (d (by decide) (by decide +kernel)) (fc (d (by decide) (by decide +kernel)) (fc (d (by decide) (by decide +kernel)) (fc (hsg.mono (by decide)) (fc ((Tk.app (n:=1) ⟨by decide,by decide +kernel⟩ hsg).mono (by decide)) fn)))))))))))⟩
   refine ⟨by decide,by decide,by decide,by decide,by show 1 + sg.length <= sizeLine; omega,?_⟩
   refine ⟨ns,k,l,_,rfl,hk,hl,by decide,by decide,fun r k1 l1 _ r0 r1 hk1 hl1=>?_⟩
   obtain ⟨y,hy,e⟩:=at_text (ts:=us) r0 (by rw [eu]; exact r1)
   rw [eu] at e
   exact ⟨_,e,hN _ ⟨y,k1,l1,hu y hy,⟨hk1,hl1⟩,rfl⟩⟩
  clear hk hl
  rintro _ ⟨od,k,l,hod,⟨hk,hl⟩,rfl⟩
  with_reducible refine cutS (fun ρ=>ρ = eS ns k l sd lo hi t [iS way,iS sp,tS sg,some (.fz (tupD lo)),some (.fz (tupD hi)),some (.ow (.list (ps.map prD))),tS od,none,none,none]) ?_ ?_
  ·intro N hN
   refine ite2 (fun h=>?_) (fun h=>hN _ rfl)
   have hif:(if (-1:Int) < 0 then ((-1:Int) + ((lo.map PyData.int).length:Nat)).toNat else (-1:Int).toNat) <= 4:=by rw [if_pos (by decide)]; omega
   have g1:Els ((lo.map PyData.int).take (if (-1:Int) < 0 then ((-1:Int) + ((lo.map PyData.int).length:Nat)).toNat else (-1:Int).toNat) ++ [.str od]):=(elo.take _).snoc (by rw [List.length_take]; omega) (.str hod)
   have g2:=((g1.join.2.app (m:=2) (y:=dots) ⟨by decide,by decide +kernel⟩).app ehi.join.2).mono (show 205 + 2 + 205 <= 5000 by decide)
   refine ⟨by show 1 <= (lo.map PyData.int).length; rw [kl]; omega,?_⟩
   refine ⟨?_,?_⟩
   ·show ((lo.map PyData.int).take _).length + 1 <= sizeLine
    rw [List.length_take]
    omega
   refine ⟨_,_,rfl,g1,ehi,fun o=>?_⟩
   exact fin g2 hk hl _
  rintro _ rfl
  obtain ⟨a,dd,b,hc⟩:=part_ok ht.o
  have ha:Tk 1000 a:=⟨Nat.le_trans hc.a.2 htl,hc.a.1⟩
  have hb:Tk 1000 b:=⟨Nat.le_trans hc.b.2 htl,hc.b.1⟩
  have hal:=ha.l
  have hbl:=hb.l
  with_reducible refine cutS (fun ρ=>ρ = eS ns k l sd lo hi t [iS way,iS sp,tS sg,some (.fz (tupD lo)),some (.fz (tupD hi)),some (.ow (.list (ps.map prD))),tS od,tS a,tS dd,tS b]) ?_ ?_
  ·intro N hN
   refine ⟨by decide,by omega,?_⟩
   rw [hc.e]
   exact ⟨rfl,hN _ rfl⟩
  rintro _ rfl
  have c:∀ {y:Str} {n:Nat},y.length <= n -> okS y -> Tk n y:=fun h1 h2=>⟨h1,h2⟩
  have c1:Tk 4 (Str.ofString "."):=c (by decide) (by decide +kernel)
  have c2:Tk 4 (Str.ofString ".."):=c (by decide) (by decide +kernel)
  have c3:Tk 4 (Str.ofString "..."):=c (by decide) (by decide +kernel)
  have c4:Tk 4 (Str.ofString " .. "):=c (by decide) (by decide +kernel)
  have c5:Tk 4 (Str.ofString "\n"):=c (by decide) (by decide +kernel)
  have c6:Tk 4 (Str.ofString ",.."):=c (by decide) (by decide +kernel)
  have two:∀ {x y:Str} {m n:Nat},Tk m x -> Tk n y -> m + n <= 5000 -> x.length + y.length <= sizeLine /\ Tk 5000 (x ++ y):=fun hx hy h=>⟨by have:=hx.l; have:=hy.l; omega,(hx.app hy).mono h⟩
  have thr:∀ {x y z:Str},Tk 1000 x -> Tk 4 y -> Tk 1000 z -> x.length + y.length <= sizeLine /\ (x ++ y).length + z.length <= sizeLine /\ Tk 5000 (x ++ y ++ z):=fun hx hy hz=>⟨(two hx hy (by decide)).1,(two (hx.app hy) hz (by decide)).1,(two (hx.app hy) hz (by decide)).2⟩
  with_reducible refine cutS (fun ρ=>∃ us:List Str,us.length = 6 /\ (∀ y ∈ us,Tk 5000 y) /\ ρ = eS ns k l sd lo hi t [iS way,iS sp,tS sg,some (.fz (tupD lo)),some (.fz (tupD hi)),some (.ow (.list (us.map PyData.str))),tS od,tS a,tS dd,tS b]) ?_ ?_
  ·intro N hN
   exact ⟨(two ht c2 (by decide)).1,(thr ha c1 hb).1,(thr ha c1 hb).2.1,(thr ha c3 hb).1,(thr ha c3 hb).2.1,(thr ha c4 hb).1,(thr ha c4 hb).2.1,(two c2 ht (by decide)).1,hN _ ⟨[_,_,_,_,_,_],rfl,fc (ha.mono (by decide)) (fc (two ht c2 (by decide)).2 (fc (thr ha c1 hb).2.2 (fc (thr ha c3 hb).2.2 (fc (thr ha c4 hb).2.2 (fc (two c2 ht (by decide)).2 fn))))),rfl⟩⟩
  rintro _ ⟨us,h6,hus,rfl⟩
  refine ⟨(thr hb c2 ha).1,(thr hb c2 ha).2.1,(two ht c5 (by decide)).1,(two ha c2 (by decide)).1,(thr ha c6 hb).1,(thr ha c6 hb).2.1,?_,?_⟩
  ·rw [List.length_map,h6]
   show 6 + 4 <= sizeLine
   omega
  refine ⟨ns,k,l,_,rfl,hk,hl,by decide,by decide,fun r k1 l1 _ r0 r1 hk1 hl1=>?_⟩
  obtain ⟨vs,ev,hv⟩:∃ vs:List Str,vs = us ++ [b ++ Str.ofString ".." ++ a,t ++ Str.ofString "\n",a ++ Str.ofString "..",a ++ Str.ofString ",.." ++ b] /\ ∀ y ∈ vs,Tk 5000 y:=by
   refine ⟨_,rfl,fun y hy=>?_⟩
   rcases List.mem_append.mp hy with h | h
   ·exact hus y h
   ·exact fc (thr hb c2 ha).2.2 (fc (two ht c5 (by decide)).2 (fc (two ha c2 (by decide)).2 (fc (thr ha c6 hb).2.2 fn))) y h
  obtain ⟨y,hy,e⟩:=at_text (ts:=vs) r0 (by rw [ev,List.length_append,h6]; exact r1)
  rw [ev,List.map_append] at e
  exact ⟨_,e,fin (hv y hy) hk1 hl1 _⟩
end
end R61
namespace R61
open PySem PySem.Spec L2 L3 PyProof.Rows TX
theorem sh_int {c:Int} (h:c.natAbs < 10 ^ 32):(PyData.int c).shown.length <= 33 /\ (PyData.int c).showable = true :=
 ⟨shown_int (k:=32) (by decide) h,showable_int (k:=140) (Nat.lt_of_lt_of_le h (by decide)) (by decide)⟩
theorem sh_tup {l:List Int} (h:∀ c ∈ l,c.natAbs < 10 ^ 32):(tupD l).shown.length <= l.length * 35 + 3 /\ (tupD l).showable = true:=by
 refine ⟨?_,L3.showableAll_of fun d hd=>?_⟩
 ·have h2:=shown_tuple (l:=l.map PyData.int) (b:=33) fun d hd=>by
   obtain ⟨c,hc,rfl⟩:=List.mem_map.mp hd
   exact (sh_int (h c hc)).1
  rw [List.length_map] at h2
  exact Nat.le_trans h2 (by omega)
 ·obtain ⟨c,hc,rfl⟩:=List.mem_map.mp hd
  exact (sh_int (h c hc)).2
theorem sh_two {a b:PyData} {n:Nat} (ha:a.shown.length <= n /\ a.showable = true) (hb:b.shown.length <= n /\ b.showable = true):(PyData.tuple [a,b]).shown.length <= 2 * n + 7 /\ (PyData.tuple [a,b]).showable = true:=by
 refine ⟨?_,L3.showableAll_of fun d hd=>?_⟩
 ·have h2:=shown_tuple (l:=[a,b]) (b:=n) fun d hd=>by
   simp only [List.mem_cons,List.not_mem_nil,or_false] at hd
   rcases hd with rfl | rfl
   ·exact ha.1
   ·exact hb.1
  exact Nat.le_trans h2 (by simp only [List.length_cons,List.length_nil]; omega)
 ·simp only [List.mem_cons,List.not_mem_nil,or_false] at hd
  rcases hd with rfl | rfl
  ·exact ha.2
  ·exact hb.2
theorem IsBx.uniq {sd:List Int} {x:Str} {lo hi lo' hi':List Int} (hs:Sdd sd) (h:IsBx sd x lo hi) (h':IsBx sd x lo' hi'):lo' = lo /\ hi' = hi:=by
 have e:=h.split
 rw [h'.split] at e
 have e1:plT lo' = plT lo:=by injection e
 have e2:plT hi' = plT hi:=by injection e with _ e; injection e
 have a1:=plN_plT hs h.l
 have a2:=plN_plT hs h.h
 rw [<- e1,plN_plT hs h'.l] at a1
 rw [<- e2,plN_plT hs h'.h] at a2
 exact ⟨by injection a1,by injection a2⟩
theorem plB_30 {sd ns:List Int} (hs:Sdd sd) (h:plB sd ns = true):∀ n ∈ ns,n.natAbs < 10 ^ 30:=fun n hn=>by
 have:=plB_abs hs h n hn
 have:n.natAbs <= 120:=by omega
 exact Nat.lt_of_le_of_lt this (by decide +kernel)
theorem bx_sh {sd lo hi:List Int} (hs:Sdd sd) (h1:plB sd lo = true) (h2:plB sd hi = true):Nice 2 (boxD lo hi) /\ (boxD lo hi).showable = true /\ (boxD lo hi).shown.length <= sizeLine:=by
 have h3:=hs.l3
 have l1:=plB_len h1
 have l2:=plB_len h2
 have s1:=sh_tup (l:=lo) fun c hc=>Nat.lt_trans (plB_30 hs h1 c hc) (by decide +kernel)
 have s2:=sh_tup (l:=hi) fun c hc=>Nat.lt_trans (plB_30 hs h2 c hc) (by decide +kernel)
 have t:=sh_two (n:=5000) (And.intro (Nat.le_trans s1.1 (by omega)) s1.2) (And.intro (Nat.le_trans s2.1 (by omega)) s2.2)
 refine ⟨.tuple fun d hd=>?_,t.2,Nat.le_trans t.1 (by decide)⟩
 simp only [List.mem_cons,List.not_mem_nil,or_false] at hd
 rcases hd with rfl | rfl
 ·exact Nice.tup lo
 ·exact Nice.tup hi
inductive Due (sd:List Int):PyData -> PyData -> Prop
 | box {t:Str} {lo hi:List Int} (h:IsBx sd t lo hi):Due sd (.str t) (boxD lo hi)
 | no {d:PyData} (h:∀ t lo hi,d = .str t -> ¬ IsBx sd t lo hi):Due sd d .none
section
variable {P:Program} {w:World} {K:PySem.W.Frag} {mg:Str -> Option Value} {base:Heap}
noncomputable def cOthers (mg:Str -> Option Value):Con:=fun args Q=>∃ n:Int,args = [.fz (excLD (cA mg "NoText") n)] /\ ∀ o,Q (.fz (.bool false)) o
theorem scOthers:FnScope ["_law_caught"] ["_law_caught"] (defScope (top 36)):=⟨rfl,rfl,rfl,by decide +kernel,rfl,by decide +kernel,by decide +kernel⟩
theorem ok_others {f:Addr} {fd:FuncData} (F:Fun K "_law_others" "_law_others" (top 36) f fd) (T:Txt mg) (L:Cls K mg):FnOk P w K mg base CX0 1 f fd ["_law_caught"] (conSp K (cOthers mg)):=by
 have S:=scOthers
 refine wfn F S (fun cdv A outer s H E hr=>(s_cons (s_if (t_w (t_or (t_not (t_val (w_isXJ rfl T.isinstance_ T.BoxError_ (wn 0)))) (t_or1 (t_not (t_val (w_isXVJ rfl T.isinstance_ T.ValueError_ (wn 0))))))) (s_one (s_ret w_bl)) s_nil)
     (s_one (s_ret (w_isXTJ rfl T.isinstance_ (wc_cons T.NoBack_ (wc_cons T.NoBox_ (wc_cons T.NoField_ (wc_cons T.NoNumber_ (wc_cons T.NoRow_ (wc_cons T.NoTurn_ wc_nil)))))) (wn 0)))))) ?_ ?_
 ·rintro args Qd ⟨n,rfl,_⟩; rfl
 ·rintro args Qd ⟨n,rfl,q⟩
  refine ⟨noOw_of rfl,?_⟩
  refine ⟨_,rfl,L.NoText_q,L.BoxError_c,?_⟩
  rw [L.NoText_BoxError]
  refine ⟨_,rfl,L.NoText_q,?_⟩
  refine ⟨by simp,_,rfl,L.NoText_q,?_,?_⟩
  ·intro B hB
   simp only [List.mem_cons,List.not_mem_nil,or_false] at hB
   rcases hB with rfl | rfl | rfl | rfl | rfl | rfl
   ·exact L.NoBack_c
   ·exact L.NoBox_c
   ·exact L.NoField_c
   ·exact L.NoNumber_c
   ·exact L.NoRow_c
   ·exact L.NoTurn_c
  ·have e:([cA mg "NoBack",cA mg "NoBox",cA mg "NoField",cA mg "NoNumber",cA mg "NoRow",cA mg "NoTurn"].any (subIn K (cA mg "NoText"))) = false:=by
    simp only [List.any_cons,List.any_nil,L.NoText_NoBack,L.NoText_NoBox,L.NoText_NoField,L.NoText_NoNumber,L.NoText_NoRow,L.NoText_NoTurn]
    rfl
   rw [e]
   exact q _
structure CalsRi (P:Program) (w:World) (K:PySem.W.Frag) (mg:Str -> Option Value) (base:Heap):Prop where
 read_box:CalM P w K mg base 5 "read_box" ["sides","text"] (conSpM K (cA mg "NoText") cRB)
 law_same:Cal P w K mg base 1 "_law_same" ["_law_found","_law_due_here"] (conSp K cSame)
 law_others:Cal P w K mg base 1 "_law_others" ["_law_caught"] (conSp K (cOthers mg))
noncomputable def cRight:Con:=fun args Q=>∃ (sd:List Int) (d due:PyData),args = [.fz (tupD sd),.fz d,.fz due] /\ Sdd sd /\ Due sd d due /\ okA d = true /\ (∀ t,d = .str t -> t.length + 2 <= sizeLine) /\ ∀ o,Q (.fz (.bool true)) o
theorem scRight:FnScope ["_law_sides","_law_thing","_law_due_here","_law_caught","_law_found","e"] ["_law_sides","_law_thing","_law_due_here"] (defScope (top 37)):=⟨rfl,rfl,rfl,by decide +kernel,rfl,by decide +kernel,by decide +kernel⟩
theorem ok_right {f:Addr} {fd:FuncData} (F:Fun K "_law_right" "_law_right" (top 37) f fd) (T:Txt mg) (L:Cls K mg) (C:CalsRi P w K mg base):FnOk P w K mg base CX0 6 f fd ["_law_sides","_law_thing","_law_due_here"] (conSp K cRight):=by
 have S:=scRight
 refine wfn F S (fun cdv A outer s H E hr=>(s_cons (s_set (i:=3) S.nd rfl (Or.inl rfl) w_non)
     (s_cons (s_set (i:=4) S.nd rfl (Or.inl rfl) w_non)
     (s_cons (s_tryM (iE:=5) (iC:=3) (iy:=4) rfl ⟨rfl,rfl,rfl,S.nd,rfl,rfl,rfl,rfl,rfl,T.BoxError_,L.BoxError_e,rfl,by decide,by decide,by decide⟩ C.read_box (hr.mono (by first | decide | omega)) (wa_cons (wn 0) (wa_cons (wn 1) wa_nil)) rfl (Or.inl rfl))
     (s_cons (s_if (t_cmp ok_notN op_notN (wn 2) (wx w_non)) (s_one (s_ret (w_and (w_cmp ok_isN op_isN (wn 3) (wx w_non)) (w_one (w_fn C.law_same (hr.mono (by first | decide | omega)) (wa_cons (wn 4) (wa_cons (wn 2) wa_nil))))))) s_nil)
     (s_one (s_ret (w_and (w_isXJ rfl T.isinstance_ T.NoText_ (wn 3)) (w_and (w_not (w_fn C.law_others (hr.mono (by first | decide | omega)) (wa_cons (wn 3) wa_nil))) (w_one (w_fn C.law_same (hr.mono (by first | decide | omega)) (wa_cons (wx (w_line rfl (wn 3))) (wa_cons (wx w_int) wa_nil))))))))))))) ?_ ?_
 ·rintro args Qd ⟨sd,d,due,rfl,_⟩; rfl
 ·rintro args Qd ⟨sd,d,due,rfl,hs,hd,ho,hl,q⟩
  refine ⟨noOw_of rfl,?_⟩
  with_reducible refine cutS (fun ρ=>ρ = [some (.fz (tupD sd)),some (.fz d),some (.fz due),some (.fz .none),none,none]) ?_ ?_
  ·intro N hN
   exact hN _ rfl
  rintro _ rfl
  with_reducible refine cutS (fun ρ=>ρ = [some (.fz (tupD sd)),some (.fz d),some (.fz due),some (.fz .none),some (.fz .none),none]) ?_ ?_
  ·intro N hN
   exact hN _ rfl
  rintro _ rfl
  with_reducible refine cutS (fun ρ=>(∃ lo hi,plB sd lo = true /\ plB sd hi = true /\ due = boxD lo hi /\ ρ = [some (.fz (tupD sd)),some (.fz d),some (.fz due),some (.fz .none),some (.fz (boxD lo hi)),none]) \/ (due = .none /\ ρ = [some (.fz (tupD sd)),some (.fz d),some (.fz due),some (.fz (excLD (cA mg "NoText") 0)),some (.fz .none),none])) ?_ ?_
  ·intro N hN
   refine ⟨⟨L.NoText_q.c,L.NoText_BoxError,rfl,by decide,trivial,trivial⟩,sd,d,rfl,hs,ho,hl,fun t lo hi e hb o=>?_,fun h=>?_⟩
   ·cases hd with
    | box h =>
     cases e
     obtain ⟨rfl,rfl⟩:=IsBx.uniq hs h hb
     exact hN _ (.inl ⟨_,_,h.l,h.h,rfl,rfl⟩)
    | no h=>exact absurd hb (h t lo hi e)
   ·cases hd with
    | box h'=>exact absurd h' (h _ _ _ rfl)
    | no h=>exact hN _ (.inr ⟨rfl,rfl⟩)
  rintro _ (⟨lo,hi,h1,h2,rfl,rfl⟩ | ⟨rfl,rfl⟩)
  ·obtain ⟨nc,hs,hz⟩:=bx_sh hs h1 h2
   exact ⟨2,boxD lo hi,rfl,nc,by decide,hs,hz,.inr (.inr ⟨_,rfl⟩),fun o=>q _⟩
  ·refine ⟨_,rfl,L.NoText_q,L.NoText_c,?_⟩
   rw [L.NoText_NoText]
   refine ⟨0,rfl,fun o=>?_⟩
   have sh:=sh_int (c:=0) (by decide +kernel)
   exact ⟨_,rfl,L.NoText_q,0,.int 0,rfl,Nice.int 0 0,by decide,sh.2,Nat.le_trans sh.1 (by decide),.inr (.inl ⟨0,rfl⟩),fun o=>q _⟩
end
end R61
namespace R61
open PySem PySem.Spec L2 L3 PyProof.Rows TX
noncomputable def LeP:List Int -> List Int -> Prop
 | [],[]=>True
 | c :: cs,m :: ms=>(1 <= c /\ c <= m) /\ LeP cs ms
 | _,_=>False
theorem LeP.snoc:∀ {cs ms:List Int} {c m:Int},LeP cs ms -> 1 <= c -> c <= m -> LeP (cs ++ [c]) (ms ++ [m])
 | [],[],_,_,_,h1,h2=>⟨⟨h1,h2⟩,trivial⟩
 | _ :: _,_ :: _,_,_,h,h1,h2=>⟨h.1,LeP.snoc h.2 h1 h2⟩
 | [],_ :: _,_,_,h,_,_=>h.elim
 | _ :: _,[],_,_,h,_,_=>h.elim
theorem LeP.len:∀ {cs ms:List Int},LeP cs ms -> cs.length = ms.length
 | [],[],_=>rfl
 | _ :: _,_ :: _,h=>by simp [LeP.len h.2]
 | [],_ :: _,h=>h.elim
 | _ :: _,[],h=>h.elim
theorem LeP.pos:∀ {cs ms:List Int},LeP cs ms -> ∀ c ∈ cs,1 <= c
 | [],[],_,_,hc=>by cases hc
 | c :: cs,m :: ms,h,x,hx=>by
  rcases List.mem_cons.mp hx with z | z
  ·subst z; exact h.1.1
  ·exact LeP.pos h.2 x z
 | [],_ :: _,h,_,_=>h.elim
 | _ :: _,[],h,_,_=>h.elim
theorem LeP.max {b:Int}:∀ {cs ms:List Int},LeP cs ms -> (∀ m ∈ ms,m <= b) -> ∀ c ∈ cs,c <= b
 | [],[],_,_,_,hc=>by cases hc
 | c :: cs,m :: ms,h,hb,x,hx=>by
  rcases List.mem_cons.mp hx with z | z
  ·subst z; exact Int.le_trans h.1.2 (hb m (by simp))
  ·exact LeP.max h.2 (fun y hy=>hb y (by simp [hy])) x z
 | [],_ :: _,h,_,_,_=>h.elim
 | _ :: _,[],h,_,_,_=>h.elim
structure Mst (ms:List Int):Prop where
 l1:1 <= ms.length
 l3:ms.length <= 3
 p:∀ c ∈ ms,1 <= c /\ c <= 120
theorem LeP.sd {cs ms:List Int} (h:LeP cs ms) (hm:Mst ms):Sdd cs:=⟨by rw [h.len]; exact hm.l1,by rw [h.len]; exact hm.l3,fun c hc=>⟨h.pos c hc,h.max (fun m hm'=>(hm.p m hm').2) c hc⟩⟩
noncomputable def noB (t:Str):Bool:=match Txt.split t dots with
 | [p,q]=>(nums (wdc p)).isNone || (nums (wdc q)).isNone
 | _=>true
theorem noB_no {t:Str} (h:noB t = true) {sd:List Int} (hs:Sdd sd) (lo hi:List Int):¬ IsBx sd t lo hi:=fun hb=>by
 unfold noB at h
 rw [hb.split] at h
 have h:((nums (wdc (plT lo))).isNone || (nums (wdc (plT hi))).isNone) = true:=h
 rw [(plN_some (plN_plT hs hb.l)).1,(plN_some (plN_plT hs hb.h)).1] at h
 cases h
theorem Bx.num {sd lo hi:List Int} (hs:Sdd sd) (h:Bx sd lo hi):Num5 lo /\ Num5 hi:=by
 have h3:=hs.l3
 have l1:=plB_len h.l
 have l2:=plB_len h.h
 exact ⟨⟨by omega,plB_30 hs h.l⟩,⟨by omega,plB_30 hs h.h⟩⟩
noncomputable abbrev bxT (lo hi:List Int):Str:=plT lo ++ dots ++ plT hi
theorem Bx.tk {sd lo hi:List Int} (hs:Sdd sd) (h:Bx sd lo hi):Tk 1000 (bxT lo hi):=by
 obtain ⟨h1,h2⟩:=h.num hs
 exact ((h1.join.2.app (m:=2) ⟨by decide,by decide +kernel⟩).app h2.join.2).mono (by decide)
theorem tk_sh {t:Str} (h:Tk 1000 t):Nice 0 (.str t) /\ (PyData.str t).showable = true /\ (PyData.str t).shown.length <= sizeLine:=by
 refine ⟨Nice.str h.o,rfl,?_⟩
 have h1:=StrLaws.reprText_len t fun c hc=>Nat.lt_trans (h.o c hc) (by decide)
 have h2:=h.l
 show (reprText t).length <= sizeLine
 rw [show sizeLine = 16777216 from sizeLine_eq]
 omega
structure Good (d:PyData):Prop where
 o:okA d = true
 t:∀ t,d = .str t -> t.length + 2 <= sizeLine /\ noB t = true
theorem good_str {x:Str} (h:noB x = true) (l:x.length + 2 <= sizeLine):Good (.str x):=⟨rfl,fun t e=>by cases e; exact ⟨l,h⟩⟩
theorem good_no {d:PyData} (hn:isTx d = false) (ho:okA d = true):Good d:=⟨ho,fun t e=>by rw [e] at hn; cases hn⟩
theorem gc {p:PyData -> Prop} {a:PyData} {l:List PyData} (h:p a) (t:∀ y ∈ l,p y):∀ y ∈ a :: l,p y:=fun y hy=>by
 rcases List.mem_cons.mp hy with z | z
 ·rw [z]; exact h
 ·exact t y z
theorem gz {p:PyData -> Prop}:∀ y ∈ ([]:List PyData),p y:=fun y hy=>by cases hy
theorem forC {ks:List Nat} {ti:TDI} {g:TDG} {tb:TDS} {E:DE} {ρ:Ev} (ds:List PyData) (ρ':Ev) (h:∀ Q:List PyData -> Ev -> Prop,Q ds ρ' -> ti ρ Q) (w:dLoopC ks g tb E ds (clean ks ρ')):dForC ks ti g tb E ρ:=h _ w
section
variable {P:Program} {w:World} {K:PySem.W.Frag} {mg:Str -> Option Value} {base:Heap}
noncomputable def cLaw:Con:=fun args Q=>∃ ns:List Int,args = [.fz (scrD ns)] /\ ns.length <= 63 /\ ∀ o,Q (.fz (.bool true)) o
theorem cLaw_sp {K:PySem.W.Frag} {H:Hp} {a:Addr} {ns:List Int} (hl:ns.length <= 63) (h:SqL K H a (ns.map V.int)):conSp K cLaw [.ref a] H (fun v _=>v = .bl true) fun _ _ _=>False:=by
 refine ⟨⟨H,H,fun _=>none⟩,H,[.fz (scrD ns)],fun r _=>r = .fz (.bool true),?_,⟨ns,rfl,hl,fun _=>rfl⟩,?_⟩
 ·refine ⟨rfl,Sub.refl _,Sub.refl _,fun a o h=>.inl h,fun a o h _=>h,?_,?_,?_,?_,?_,?_⟩
  ·intro i d e
   cases i with
   | zero=>cases e; exact ⟨_,rfl,.scr h⟩
   | succ i=>cases e
  ·intro i s e w
   cases i with
   | zero=>cases e; cases w
   | succ i=>cases e
  ·intro i d a e
   cases i with
   | zero=>cases e
   | succ i=>cases e
  ·intro i a e; cases e
  ·intro i d e
   cases i with
   | zero=>cases e
   | succ i=>cases e
  ·intro i j s t a e w
   cases i with
   | zero=>cases e; cases w
   | succ i=>cases e
 ·intro v H' F' r ρ' _ _ hr e
  subst e
  have hr:Da K F' v (.bool true):=hr
  cases hr
  rfl
structure CalsL (P:Program) (w:World) (K:PySem.W.Frag) (mg:Str -> Option Value) (base:Heap):Prop where
 law_pen:Cal P w K mg base 1 "_law_pen" ["_law_script"] (conSp K cPen)
 law_take:Cal P w K mg base 1 "_law_take" ["_law_pen_here","_law_most"] (conSp K cTake)
 law_box:Cal P w K mg base 2 "_law_box" ["_law_pen_here","_law_sides"] (conSp K cBox)
 law_text:Cal P w K mg base 1 "_law_text" ["_law_box_here"] (conSp K cLT)
 law_same:Cal P w K mg base 1 "_law_same" ["_law_found","_law_due_here"] (conSp K cSame)
 show_box:Cal P w K mg base 2 "show_box" ["box"] (conSp K cSB)
 law_spoilt:Cal P w K mg base 3 "_law_spoilt" ["_law_pen_here","_law_sides","_law_box_here","_law_text_here"] (conSp K cSpoilt)
 law_due:Cal P w K mg base 2 "_law_due" ["_law_sides","_law_text_here"] (conSp K cDue)
 law_right:Cal P w K mg base 6 "_law_right" ["_law_sides","_law_thing","_law_due_here"] (conSp K cRight)
theorem scLaw:FnScope ["_law_script","_law_pen_here","_law_k","_law_most","_law_sides","_law_turn","_law_box_here","_law_text_here","_law_spoilt_here","_law_thing"] ["_law_script"] (defScope (top 38)):=⟨rfl,rfl,rfl,by decide +kernel,rfl,by decide +kernel,by decide +kernel⟩
theorem ok_law {f:Addr} {fd:FuncData} (F:Fun K "law" "law" (top 38) f fd) (T:Txt mg) (C:CalsL P w K mg base):FnOk P w K mg base CX0 8 f fd ["_law_script"] (conSp K cLaw):=by
 have S:=scLaw
 refine wfn F S (fun cdv A outer s H E hr=>(s_cons (s_set (i:=1) S.nd rfl (Or.inr rfl) (w_fn C.law_pen (hr.mono (by first | decide | omega)) (wa_cons (wn 0) wa_nil)))
     (s_cons (s_for [2,3,4,5,9] PassesOwn.never rfl (i_rng1 T.range_ (wa_cons (wx w_int) wa_nil)) (g_name (i:=2) S.nd rfl (Or.inl rfl)) (s_cons (s_set (i:=3) S.nd rfl (Or.inl rfl) (w_ix rfl (wx (w_lst (wa_cons (wx (w_lst (wa_cons (wx w_int) wa_nil))) (wa_cons (wx (w_lst (wa_cons (wx w_int) (wa_cons (wx w_int) wa_nil)))) (wa_cons (wx (w_lst (wa_cons (wx w_int) (wa_cons (wx w_int) (wa_cons (wx w_int) wa_nil))))) (wa_cons (wx (w_lst (wa_cons (wx w_int) (wa_cons (wx w_int) wa_nil)))) wa_nil)))))) (wx (w_fnI C.law_take (hr.mono (by first | decide | omega)) (wa_cons (wn 1) (wa_cons (wx w_int) wa_nil))))))
     (s_cons (s_set (i:=4) S.nd rfl (Or.inl rfl) (w_callT ok_tuple (call_tupleK (K:=K) rfl) T.tuple_ boot_tuple (wa_cons (wx (w_comp rfl (own:=["_law_side"]) (fr:=[1]) (by kernel_rfl) (i_seq rfl (wv 3)) (fun _ _ _ _=>(g_name (i:=0) (by decide +kernel:List.Nodup (["_law_side","_law_pen_here"]:List Str)) rfl (Or.inl rfl))) (fun _ _ _ _=>if0) (fun _ _ _ _=>(w_bin ok_add op_addD (wx w_int) (wx (w_fnI C.law_take (hr.mono (by first | decide | omega)) (wa_cons (wn 1) (wa_cons (wn 0) wa_nil)))))))) wa_nil)))
     (s_cons (s_for [5,6,7,8] PassesOwn.never rfl (i_rng1 T.range_ (wa_cons (wx w_int) wa_nil)) (g_name (i:=5) S.nd rfl (Or.inl rfl)) (s_cons (s_set (i:=6) S.nd rfl (Or.inl rfl) (w_fnI C.law_box (hr.mono (by first | decide | omega)) (wa_cons (wn 1) (wa_cons (wn 4) wa_nil))))
     (s_cons (s_set (i:=7) S.nd rfl (Or.inl rfl) (w_fn C.law_text (hr.mono (by first | decide | omega)) (wa_cons (wn 6) wa_nil)))
     (s_cons (s_if (t_w (t_or (t_not (t_val (w_fn C.law_same (hr.mono (by first | decide | omega)) (wa_cons (wx (w_fn C.show_box (hr.mono (by first | decide | omega)) (wa_cons (wn 6) wa_nil))) (wa_cons (wn 7) wa_nil))))) (t_or1 (t_not (t_val (w_fn C.law_right (hr.mono (by first | decide | omega)) (wa_cons (wn 4) (wa_cons (wn 7) (wa_cons (wn 6) wa_nil))))))))) (s_one (s_ret w_bl)) s_nil)
     (s_cons (s_set (i:=8) S.nd rfl (Or.inl rfl) (w_fnI C.law_spoilt (hr.mono (by first | decide | omega)) (wa_cons (wn 1) (wa_cons (wn 4) (wa_cons (wn 6) (wa_cons (wn 7) wa_nil))))))
     (s_one (s_if (t_w (t_or (t_not (t_val (w_fn C.law_right (hr.mono (by first | decide | omega)) (wa_cons (wn 4) (wa_cons (wn 8) (wa_cons (wx (w_fn C.law_due (hr.mono (by first | decide | omega)) (wa_cons (wn 4) (wa_cons (wn 8) wa_nil)))) wa_nil)))))) (t_or1 (t_not (t_val (w_fn C.law_right (hr.mono (by first | decide | omega)) (wa_cons (wn 4) (wa_cons (wn 7) (wa_cons (wn 6) wa_nil))))))))) (s_one (s_ret w_bl)) s_nil)))))))
     (s_one (s_for [9] PassesOwn.never rfl (i_seq rfl (w_lst (wa_cons (wx w_non) (wa_cons (wx w_int) (wa_cons (wx w_bl) (wa_cons (wx (w_lst wa_nil)) (wa_cons (wx (w_lst (wa_cons (wx w_str) wa_nil))) (wa_cons (wx (w_tup (wa_cons (wx (w_tup (wa_cons (wx w_int) wa_nil))) (wa_cons (wx (w_tup (wa_cons (wx w_int) wa_nil))) wa_nil)))) (wa_cons (wx w_dnew) (wa_cons (wx w_str) (wa_cons (wx w_str) (wa_cons (wx w_str) (wa_cons (wx w_str) (wa_cons (wx w_str) (wa_cons (wx w_str) (wa_cons (wx w_str) wa_nil)))))))))))))))) (g_name (i:=9) S.nd rfl (Or.inl rfl)) (s_one (s_if (t_not (t_val (w_fn C.law_right (hr.mono (by first | decide | omega)) (wa_cons (wn 4) (wa_cons (wn 9) (wa_cons (wx w_non) wa_nil)))))) (s_one (s_ret w_bl)) s_nil))))))))
     (s_one (s_ret w_bl))))) ?_ ?_
 ·rintro args Qd ⟨ns,rfl,_⟩; rfl
 ·rintro args Qd ⟨ns,rfl,hns,q⟩
  refine ⟨noOw_of rfl,?_⟩
  have szl:sizeLine = 16777216:=sizeLine_eq
  with_reducible refine cutS (fun ρ=>ρ = [some (.fz (scrD ns)),some (.ow (penD ns 0 0)),none,none,none,none,none,none,none,none]) ?_ ?_
  ·intro N hN
   exact ⟨ns,rfl,fun o=>hN _ rfl⟩
  rintro _ rfl
  with_reducible refine cutS (fun ρ=>∃ k l:Int,0 <= k /\ 0 <= l /\ ρ = [some (.fz (scrD ns)),some (.ow (penD ns k l)),none,none,none,none,none,none,none,none]) ?_ ?_
  rotate_left
  ·rintro _ ⟨k,l,_,_,rfl⟩
   exact q _
  intro NE hE
  refine ⟨by decide,by decide,?_⟩
  generalize rangeD 0 (5:Int).toNat = rg
  refine loopC (fun rest ρ=>∃ k l:Int,0 <= k /\ 0 <= l /\ ρ = [some (.fz (scrD ns)),some (.ow (penD ns k l)),none,none,none,none,none,none,none,none]) ?_ (fun ρ h=>hE ρ h) ⟨0,0,by decide,by decide,rfl⟩
  rintro d ds _ ⟨k,l,hk,hl,rfl⟩ N hN
  with_reducible refine gnC rfl ?_
  with_reducible refine cutS (fun ρ=>∃ (ms:List Int) (k l:Int),Mst ms /\ (0 <= k /\ 0 <= l) /\ ρ = [some (.fz (scrD ns)),some (.ow (penD ns k l)),some (.fz d),some (.fz (.list (ms.map PyData.int))),none,none,none,none,none,none]) ?_ ?_
  ·intro N hN
   refine ⟨ns,k,l,4,rfl,hk,hl,by decide,by decide,fun r k1 l1 _ r0 r1 hk1 hl1=>?_⟩
   rcases (show r = 0 \/ r = 1 \/ r = 2 \/ r = 3 by omega) with rfl | rfl | rfl | rfl
   ·exact ⟨.list ([120].map PyData.int),rfl,hN _ ⟨[120],k1,l1,⟨by decide,by decide,by decide⟩,⟨hk1,hl1⟩,rfl⟩⟩
   ·exact ⟨.list ([11,10].map PyData.int),rfl,hN _ ⟨[11,10],k1,l1,⟨by decide,by decide,by decide⟩,⟨hk1,hl1⟩,rfl⟩⟩
   ·exact ⟨.list ([5,4,6].map PyData.int),rfl,hN _ ⟨[5,4,6],k1,l1,⟨by decide,by decide,by decide⟩,⟨hk1,hl1⟩,rfl⟩⟩
   ·exact ⟨.list ([2,60].map PyData.int),rfl,hN _ ⟨[2,60],k1,l1,⟨by decide,by decide,by decide⟩,⟨hk1,hl1⟩,rfl⟩⟩
  clear hk hl
  rintro _ ⟨ms,k0,l0,hM,⟨hk0,hl0⟩,rfl⟩
  have h3:=hM.l3
  with_reducible refine cutS (fun ρ=>∃ (sd:List Int) (k1 l1:Int),Sdd sd /\ (0 <= k1 /\ 0 <= l1) /\ ρ = [some (.fz (scrD ns)),some (.ow (penD ns k1 l1)),some (.fz d),some (.fz (.list (ms.map PyData.int))),some (.fz (tupD sd)),none,none,none,none,none]) ?_ ?_
  ·intro N hN
   refine ⟨le_size (by rw [List.length_map]; omega),compN (fun rest acc τ=>∃ (dn rs cs:List Int) (k4 l4:Int),ms = dn ++ rs /\ rest = rs.map PyData.int /\ acc = cs.map PyData.int /\ LeP cs dn /\ τ = [none,some (.io (penD ns k4 l4))] /\ 0 <= k4 /\ 0 <= l4) ?_ ?_ ⟨[],ms,[],k0,l0,rfl,rfl,rfl,trivial,rfl,hk0,hl0⟩⟩
   ·rintro d ds acc τ ⟨dn,rs,cs,k4,l4,em,er,rfl,hle,rfl,hk4,hl4⟩ N' hN'
    cases rs with
    | nil=>cases er
    | cons m rs =>
     cases er
     have hm:=hM.p m (by rw [em]; simp)
     refine ⟨ns,k4,l4,m,rfl,hk4,hl4,by omega,by omega,fun x k5 l5 _ x0 x1 hk5 hl5=>?_⟩
     exact hN' _ _ ⟨dn ++ [m],rs,cs ++ [1 + x],k5,l5,by rw [em]; simp,rfl,by simp [Sl.d],hle.snoc (by omega) (by omega),rfl,hk5,hl5⟩
   ·rintro acc τ ⟨dn,rs,cs,k4,l4,em,er,rfl,hle,rfl,hk4,hl4⟩
    cases rs with
    | cons _ _=>cases er
    | nil =>
     rw [List.append_nil] at em
     subst em
     exact hN _ ⟨cs,k4,l4,hle.sd hM,⟨hk4,hl4⟩,rfl⟩
  rintro _ ⟨sd,k,l,hs,⟨hk,hl⟩,rfl⟩
  with_reducible refine cutS (fun ρ=>∃ k l:Int,0 <= k /\ 0 <= l /\ ρ = [some (.fz (scrD ns)),some (.ow (penD ns k l)),some (.fz d),some (.fz (.list (ms.map PyData.int))),some (.fz (tupD sd)),none,none,none,none,none]) ?_ ?_
  ·intro NE hE
   refine ⟨by decide,by decide,?_⟩
   generalize rangeD 0 (3:Int).toNat = rg
   refine loopC (fun rest ρ=>∃ k l:Int,0 <= k /\ 0 <= l /\ ρ = [some (.fz (scrD ns)),some (.ow (penD ns k l)),some (.fz d),some (.fz (.list (ms.map PyData.int))),some (.fz (tupD sd)),none,none,none,none,none]) ?_ (fun ρ h=>hE ρ h) ⟨k,l,hk,hl,rfl⟩
   clear hk hl
   rintro d2 ds _ ⟨k,l,hk,hl,rfl⟩ N hN
   with_reducible refine gnC rfl ?_
   with_reducible refine cutS (fun ρ=>∃ (lo hi:List Int) (k l:Int),Bx sd lo hi /\ (0 <= k /\ 0 <= l) /\ ρ = [some (.fz (scrD ns)),some (.ow (penD ns k l)),some (.fz d),some (.fz (.list (ms.map PyData.int))),some (.fz (tupD sd)),some (.fz d2),some (.fz (boxD lo hi)),none,none,none]) ?_ ?_
   ·intro N2 hN2
    exact ⟨ns,k,l,sd,rfl,hk,hl,hs,fun lo hi k1 l1 _ h1 hk1 hl1=>hN2 _ ⟨lo,hi,k1,l1,h1,⟨hk1,hl1⟩,rfl⟩⟩
   clear hk hl
   rintro _ ⟨lo,hi,k,l,hbx,⟨hk,hl⟩,rfl⟩
   obtain ⟨n1,n2⟩:=hbx.num hs
   have ht:=hbx.tk hs
   have hI:IsBx sd (bxT lo hi) lo hi:=⟨hbx.l,hbx.h,hbx.o,rfl⟩
   have htl:=ht.l
   with_reducible refine cutS (fun ρ=>ρ = [some (.fz (scrD ns)),some (.ow (penD ns k l)),some (.fz d),some (.fz (.list (ms.map PyData.int))),some (.fz (tupD sd)),some (.fz d2),some (.fz (boxD lo hi)),some (.fz (.str (bxT lo hi))),none,none]) ?_ ?_
   ·intro N2 hN2
    refine ⟨lo.map PyData.int,hi.map PyData.int,rfl,n1.els,n2.els,fun o=>?_⟩
    rw [jnT_ints,jnT_ints]
    exact hN2 _ rfl
   rintro _ rfl
   with_reducible refine cutS (fun ρ=>ρ = [some (.fz (scrD ns)),some (.ow (penD ns k l)),some (.fz d),some (.fz (.list (ms.map PyData.int))),some (.fz (tupD sd)),some (.fz d2),some (.fz (boxD lo hi)),some (.fz (.str (bxT lo hi))),none,none]) ?_ ?_
   ·intro N2 hN2
    obtain ⟨s1,s2,s3⟩:=tk_sh ht
    refine ⟨lo,hi,rfl,n1,n2,fun o=>?_⟩
    refine ⟨0,_,rfl,s1,by decide,s2,s3,.inl ⟨_,rfl⟩,fun o=>?_⟩
    refine ⟨sd,_,_,rfl,hs,.box hI,rfl,fun t e=>by cases e; omega,fun o=>?_⟩
    exact hN2 _ rfl
   rintro _ rfl
   with_reducible refine cutS (fun ρ=>∃ (y:Str) (k l:Int),Tk 5000 y /\ (0 <= k /\ 0 <= l) /\ ρ = [some (.fz (scrD ns)),some (.ow (penD ns k l)),some (.fz d),some (.fz (.list (ms.map PyData.int))),some (.fz (tupD sd)),some (.fz d2),some (.fz (boxD lo hi)),some (.fz (.str (bxT lo hi))),some (.fz (.str y)),none]) ?_ ?_
   ·intro N2 hN2
    exact ⟨ns,k,l,sd,lo,hi,_,rfl,hk,hl,hs,hbx,ht,fun y k1 l1 _ hy hk1 hl1=>hN2 _ ⟨y,k1,l1,hy,⟨hk1,hl1⟩,rfl⟩⟩
   clear hk hl
   rintro _ ⟨y,k,l,hy,⟨hk,hl⟩,rfl⟩
   have hyl:=hy.l
   refine ⟨sd,y,rfl,hs,by omega,hy.o,fun lo' hi' hb o=>?_,fun hb o=>?_⟩
   ·refine ⟨sd,_,_,rfl,hs,.box hb,rfl,fun t e=>by cases e; omega,fun o=>?_⟩
    refine ⟨sd,_,_,rfl,hs,.box hI,rfl,fun t e=>by cases e; omega,fun o=>?_⟩
    exact hN _ ⟨k,l,hk,hl,rfl⟩
   ·refine ⟨sd,_,_,rfl,hs,.no fun t lo hi e=>by cases e; exact hb lo hi,rfl,fun t e=>by cases e; omega,fun o=>?_⟩
    refine ⟨sd,_,_,rfl,hs,.box hI,rfl,fun t e=>by cases e; omega,fun o=>?_⟩
    exact hN _ ⟨k,l,hk,hl,rfl⟩
  clear hk hl
  rintro _ ⟨k,l,hk,hl,rfl⟩
  have good:∀ d ∈ [PyData.none,.int 7,.bool true,.list [],.list [.str (Str.ofString "0..0")],.tuple [.tuple [.int 0],.tuple [.int 0]],.dict [],.str (Str.ofString ""),.str (Str.ofString ".."),.str (Str.ofString "."),.str (Str.ofString ",..,"),.str (Str.ofString "0.."),.str (Str.ofString "..0"),.str (Str.ofString "0...0")],Good d :=
   gc (good_no rfl rfl) (gc (good_no rfl rfl) (gc (good_no rfl rfl) (gc (good_no rfl rfl) (gc (good_no rfl rfl) (gc (good_no rfl rfl) (gc (good_no rfl rfl)
     (gc (good_str (by decide +kernel) (by decide)) (gc (good_str (by decide +kernel) (by decide)) (gc (good_str (by decide +kernel) (by decide)) (gc (good_str (by decide +kernel) (by decide)) (gc (good_str (by decide +kernel) (by decide)) (gc (good_str (by decide +kernel) (by decide)) (gc (good_str (by decide +kernel) (by decide)) gz)))))))))))))
  with_reducible refine forC [PyData.none,.int 7,.bool true,.list [],.list [.str (Str.ofString "0..0")],.tuple [.tuple [.int 0],.tuple [.int 0]],.dict [],.str (Str.ofString ""),.str (Str.ofString ".."),.str (Str.ofString "."),.str (Str.ofString ",..,"),.str (Str.ofString "0.."),.str (Str.ofString "..0"),.str (Str.ofString "0...0")] [some (.fz (scrD ns)),some (.ow (penD ns k l)),some (.fz d),some (.fz (.list (ms.map PyData.int))),some (.fz (tupD sd)),none,none,none,none,none] ?_ ?_
  ·intro Q h
   exact h
  generalize [PyData.none,.int 7,.bool true,.list [],.list [.str (Str.ofString "0..0")],.tuple [.tuple [.int 0],.tuple [.int 0]],.dict [],.str (Str.ofString ""),.str (Str.ofString ".."),.str (Str.ofString "."),.str (Str.ofString ",..,"),.str (Str.ofString "0.."),.str (Str.ofString "..0"),.str (Str.ofString "0...0")] = things at good
  refine loopC (fun rest ρ=>(∀ d ∈ rest,Good d) /\ ρ = [some (.fz (scrD ns)),some (.ow (penD ns k l)),some (.fz d),some (.fz (.list (ms.map PyData.int))),some (.fz (tupD sd)),none,none,none,none,none]) ?_ (fun ρ h=>?_) ⟨good,rfl⟩
  ·rintro x xs _ ⟨hg,rfl⟩ N2 hN2
   obtain ⟨g1,g2⟩:=hg x (by simp)
   have hg':∀ d ∈ xs,Good d:=fun y hy=>hg y (by simp [hy])
   with_reducible refine gnC rfl ?_
   refine ⟨sd,x,_,rfl,hs,.no fun t lo hi e=>noB_no (g2 t e).2 hs lo hi,g1,fun t e=>(g2 t e).1,fun o=>?_⟩
   exact hN2 _ ⟨hg',rfl⟩
  ·obtain ⟨_,rfl⟩:=h
   exact hN _ ⟨k,l,hk,hl,rfl⟩
end
end R61
namespace R61
open PySem L2 L3 PyProof.Rows
theorem len0 {p:List Value -> Prop} (h:p []):∀ us:List Value,us.length = 0 -> p us:=fun us e=>by
 cases us with
 | nil=>exact h
 | cons x us=>cases e
theorem len1 {p:List Value -> Prop} (h:∀ x0,p [x0]):∀ us:List Value,us.length = 1 -> p us:=fun us e=>by
 cases us with
 | nil=>cases e
 | cons x us=>exact len0 (p:=fun l=>p (x :: l)) (h x) us (Nat.succ.inj e)
theorem len2 {p:List Value -> Prop} (h:∀ x0 x1,p [x0,x1]):∀ us:List Value,us.length = 2 -> p us:=fun us e=>by
 cases us with
 | nil=>cases e
 | cons x us=>exact len1 (p:=fun l=>p (x :: l)) (fun x1=>h x x1) us (Nat.succ.inj e)
theorem len3 {p:List Value -> Prop} (h:∀ x0 x1 x2,p [x0,x1,x2]):∀ us:List Value,us.length = 3 -> p us:=fun us e=>by
 cases us with
 | nil=>cases e
 | cons x us=>exact len2 (p:=fun l=>p (x :: l)) (fun x1 x2=>h x x1 x2) us (Nat.succ.inj e)
theorem len4 {p:List Value -> Prop} (h:∀ x0 x1 x2 x3,p [x0,x1,x2,x3]):∀ us:List Value,us.length = 4 -> p us:=fun us e=>by
 cases us with
 | nil=>cases e
 | cons x us=>exact len3 (p:=fun l=>p (x :: l)) (fun x1 x2 x3=>h x x1 x2 x3) us (Nat.succ.inj e)
structure Df (K:PySem.W.Frag) (mg:Str -> Option Value) (x:Str) (st:Stmt) (f:Addr) (d:FuncData):Prop where
 F:Fun K x x st f d
 m:mg x = some (.ref f)
 k:PySem.W.keepIn K (.ref f) = true
section
variable {K:PySem.W.Frag} {mg:Str -> Option Value}
theorem df_mk {h:Heap} (X:K.In h) (G:h.Ns mainGlobals mg) {x:Str} {st:Stmt} {f:Addr} {oc:Value} {od an:Option Addr} {osl:Array (Option Value)} {kV doc pm cdv ct:Value} (a:PySem.W.nsIn K mainGlobals x = some (some (.ref f))) (l:K.lookup f = some ⟨oc,od,.func (PySem.W.fnOf x x (defArgs st) (defBody st) (defScope st) .none kV doc pm an cdv ct),osl⟩) (c:PySem.W.codeIn K cdv x = true) (k:PySem.W.keepIn K (.ref f) = true):Df K mg x st f (PySem.W.fnOf x x (defArgs st) (defBody st) (defScope st) .none kV doc pm an cdv ct) :=
 ⟨fun_mk l c k,PySem.W.mg_of X G a,k⟩
theorem calD (P:Program) (w:World) (base:Heap) {k:Nat} {x:Str} {ps:List Str} {sp:Sp} {st:Stmt} {f:Addr} {d:FuncData} (D:Df K mg x st f d) (h:FnOk P w K mg base CX0 k f d ps sp) (b:∀ (kV doc pm:Value) (an:Option Addr) (cdv ct:Value) (us:List Value),us.length = ps.length -> bindArgs (PySem.W.fnOf x x (defArgs st) (defBody st) (defScope st) .none kV doc pm an cdv ct) ⟨us,[]⟩ = pure (ps.zip us)):Cal P w K mg base k x ps sp :=
 ⟨⟨f,d,h,D.m,D.k,D.F.binds b⟩⟩
theorem calM (P:Program) (w:World) (base:Heap) {k:Nat} {x:Str} {ps:List Str} {sp:Sp} {st:Stmt} {f:Addr} {d:FuncData} (D:Df K mg x st f d) (h:FnOk P w K mg base (CXL P w) k f d ps sp) (b:∀ (kV doc pm:Value) (an:Option Addr) (cdv ct:Value) (us:List Value),us.length = ps.length -> bindArgs (PySem.W.fnOf x x (defArgs st) (defBody st) (defScope st) .none kV doc pm an cdv ct) ⟨us,[]⟩ = pure (ps.zip us)):CalM P w K mg base k x ps sp :=
 ⟨⟨f,d,h,D.m,D.k,D.F.binds b⟩⟩
end
theorem all_mk {l:PySem.W.OpenLaw} {w:World} {K:PySem.W.Frag} {h:Heap} {mg:Str -> Option Value} {fa f0 f1 f2 f3 f4 f5 f6 f7 f8 f9 f10 f11 f12 f13 f14 f15 f16 f17 f18 f19 f20 f21 f22 cl0 cl1 cl2 cl3 cl4 cl5 cl6 cl7:Addr} {d0 d1 d2 d3 d4 d5 d6 d7 d8 d9 d10 d11 d12 d13 d14 d15 d16 d17 d18 d19 d20 d21 d22:FuncData} (X:K.In h) (G:h.Ns mainGlobals mg) (hfa:mg "law" = some (.ref fa))
  {fI TI:Addr} {iod iod2 ian:Option Addr} {ikV idoc ipm icdv ict ioc2 iu iv:Value} {iosl iosl2:Array (Option Value)} {inn:Nat}
  {tk0 tk1:Tok}
  (D0:Df K mg "_law_pen" (top 27) f0 d0) (D1:Df K mg "_law_take" (top 28) f1 d1) (D2:Df K mg "_law_box" (top 29) f2 d2) (D3:Df K mg "_law_text" (top 32) f3 d3) (D4:Df K mg "_law_same" (top 30) f4 d4) (D5:Df K mg "show_place" (top 24) f5 d5) (D6:Df K mg "show_box" (top 25) f6 d6) (D7:Df K mg "_law_sign" (top 34) f7 d7) (D8:Df K mg "_law_spoilt" (top 35) f8 d8) (D9:Df K mg "_law_number_in" (top 31) f9 d9) (D10:Df K mg "_law_due" (top 33) f10 d10) (D11:Df K mg "ask_for_text" (top 18) f11 d11) (D12:Df K mg "writes_number" (top 19) f12 d12) (D13:Df K mg "numbers_by" (top 20) f13 d13) (D14:Df K mg "is_whole" (top 10) f14 d14) (D15:Df K mg "are_wholes" (top 11) f15 d15) (D16:Df K mg "is_place" (top 13) f16 d16) (D17:Df K mg "read_place" (top 21) f17 d17) (D18:Df K mg "is_box" (top 14) f18 d18) (D19:Df K mg "read_box" (top 22) f19 d19) (D20:Df K mg "_law_others" (top 36) f20 d20) (D21:Df K mg "_law_right" (top 37) f21 d21) (D22:Df K mg "law" (top 38) f22 d22)
  (x0:PySem.W.nsIn K mainGlobals "BoxError" = some (some (.ref cl0))) (x1:PySem.W.nsIn K mainGlobals "NoField" = some (some (.ref cl1))) (x2:PySem.W.nsIn K mainGlobals "NoBox" = some (some (.ref cl2))) (x3:PySem.W.nsIn K mainGlobals "NoTurn" = some (some (.ref cl3))) (x4:PySem.W.nsIn K mainGlobals "NoNumber" = some (some (.ref cl4))) (x5:PySem.W.nsIn K mainGlobals "NoText" = some (some (.ref cl5))) (x6:PySem.W.nsIn K mainGlobals "NoRow" = some (some (.ref cl6))) (x7:PySem.W.nsIn K mainGlobals "NoBack" = some (some (.ref cl7))) (i0:PySem.W.findIn K (.ref cl5) "__init__" = some (some (.ref fI))) (i1:K.lookup fI = some ⟨.type "function",iod,.func (PySem.W.fnOf "__init__" "NoText.__init__" (defArgs stIni) (defBody stIni) (defScope stIni) (.ref TI) ikV idoc ipm ian icdv ict),iosl⟩) (i2:PySem.W.codeIn K icdv "NoText.__init__" = true) (i3:K.lookup TI = some ⟨ioc2,iod2,.seq #[iu,iv] inn,iosl2⟩) (z0:PySem.W.nsIn K mainGlobals "len" = some none) (z1:PySem.W.nsIn K mainGlobals "abs" = some none) (z2:PySem.W.nsIn K mainGlobals "max" = some none) (z3:PySem.W.nsIn K mainGlobals "min" = some none) (z4:PySem.W.nsIn K mainGlobals "zip" = some none) (z5:PySem.W.nsIn K mainGlobals "int" = some none) (z6:PySem.W.nsIn K mainGlobals "bool" = some none) (z7:PySem.W.nsIn K mainGlobals "range" = some none) (z8:PySem.W.nsIn K mainGlobals "repr" = some none) (z9:PySem.W.nsIn K mainGlobals "sorted" = some none) (z10:PySem.W.nsIn K mainGlobals "isinstance" = some none) (z11:PySem.W.nsIn K mainGlobals "list" = some none) (z12:PySem.W.nsIn K mainGlobals "tuple" = some none) (z13:PySem.W.nsIn K mainGlobals "all" = some none) (z14:PySem.W.nsIn K mainGlobals "sum" = some none) (z15:PySem.W.nsIn K mainGlobals "dict" = some none) (z16:PySem.W.nsIn K mainGlobals "str" = some none) (z17:PySem.W.nsIn K mainGlobals "reversed" = some none) (z18:PySem.W.nsIn K mainGlobals "ValueError" = some none) (y0:PySem.W.nsIn K mainGlobals "MOST_FIGURES" = some (some (.int 30 tk0))) (y1:PySem.W.nsIn K mainGlobals "FIGURES" = some (some (.str "0123456789" tk1))) (e0:PySem.W.readsIn K cl0 (.type "type") = true) (e1:PySem.W.findCls K (.ref cl0) (.type "type") "__init__" = some (.val (.builtin "ValueError.__init__"))) (e2:PySem.W.specialIn K (.ref cl0) "__getattribute__" = some (some (.builtin "type.__getattribute__"))) (e3:excI K cl5 fI = true) (e4:qIn K cl5 "__getattribute__" = true) (e5:qIn K cl5 "__getattr__" = true) (e6:qIn K cl5 "__class__" = true) (e7:qIn K cl5 "line" = true) (e8:qIn K cl5 "__setattr__" = true) (e9:ExcC K cl0) (e10:clsIn K cl0 = true) (e11:clsIn K cl1 = true) (e12:clsIn K cl2 = true) (e13:clsIn K cl3 = true) (e14:clsIn K cl4 = true) (e15:clsIn K cl5 = true) (e16:clsIn K cl6 = true) (e17:clsIn K cl7 = true) (e18:subIn K cl5 cl0 = true) (e19:subIn K cl5 cl1 = false) (e20:subIn K cl5 cl2 = false) (e21:subIn K cl5 cl3 = false) (e22:subIn K cl5 cl4 = false) (e23:subIn K cl5 cl5 = true) (e24:subIn K cl5 cl6 = false) (e25:subIn K cl5 cl7 = false) :
  ∃ fd:FuncData,(∀ (s:Shared) (v:Value),BindsTo s fd ⟨[v],[]⟩ [("_law_script",v)]) /\ ∀ base:Heap,K.In base -> base.Ns mainGlobals mg -> FnOk l.prog w K mg base CX0 8 fa fd ["_law_script"] (conSp K cLaw):=by
 cases hfa.symm.trans D22.m
 have T:Txt mg:=⟨PySem.W.mg_none_of X G z0,PySem.W.mg_none_of X G z1,PySem.W.mg_none_of X G z2,PySem.W.mg_none_of X G z3,PySem.W.mg_none_of X G z4,PySem.W.mg_none_of X G z5,PySem.W.mg_none_of X G z6,PySem.W.mg_none_of X G z7,PySem.W.mg_none_of X G z8,PySem.W.mg_none_of X G z9,PySem.W.mg_none_of X G z10,PySem.W.mg_none_of X G z11,PySem.W.mg_none_of X G z12,PySem.W.mg_none_of X G z13,PySem.W.mg_none_of X G z14,PySem.W.mg_none_of X G z15,PySem.W.mg_none_of X G z16,PySem.W.mg_none_of X G z17,⟨_,PySem.W.mg_of X G y0⟩,PySem.W.mg_none_of X G z18,cA_mg (PySem.W.mg_of X G x0),cA_mg (PySem.W.mg_of X G x1),cA_mg (PySem.W.mg_of X G x2),cA_mg (PySem.W.mg_of X G x3),cA_mg (PySem.W.mg_of X G x4),cA_mg (PySem.W.mg_of X G x5),cA_mg (PySem.W.mg_of X G x6),cA_mg (PySem.W.mg_of X G x7),⟨_,PySem.W.mg_of X G y1⟩⟩
 have L:Cls K mg:=⟨by rw [(cA_of (PySem.W.mg_of X G x0))]; exact ⟨e0,e1,e2⟩,
   by rw [(cA_of (PySem.W.mg_of X G x5))]; exact ⟨⟨fI,e3⟩,e4,e5,e6,e7⟩,
   by rw [(cA_of (PySem.W.mg_of X G x5))]; exact e8,
   by rw [(cA_of (PySem.W.mg_of X G x0))]; exact e9,
   by rw [(cA_of (PySem.W.mg_of X G x0))]; exact e10,
   by rw [(cA_of (PySem.W.mg_of X G x1))]; exact e11,
   by rw [(cA_of (PySem.W.mg_of X G x2))]; exact e12,
   by rw [(cA_of (PySem.W.mg_of X G x3))]; exact e13,
   by rw [(cA_of (PySem.W.mg_of X G x4))]; exact e14,
   by rw [(cA_of (PySem.W.mg_of X G x5))]; exact e15,
   by rw [(cA_of (PySem.W.mg_of X G x6))]; exact e16,
   by rw [(cA_of (PySem.W.mg_of X G x7))]; exact e17,
   by rw [(cA_of (PySem.W.mg_of X G x5)),(cA_of (PySem.W.mg_of X G x0))]; exact e18,
   by rw [(cA_of (PySem.W.mg_of X G x5)),(cA_of (PySem.W.mg_of X G x1))]; exact e19,
   by rw [(cA_of (PySem.W.mg_of X G x5)),(cA_of (PySem.W.mg_of X G x2))]; exact e20,
   by rw [(cA_of (PySem.W.mg_of X G x5)),(cA_of (PySem.W.mg_of X G x3))]; exact e21,
   by rw [(cA_of (PySem.W.mg_of X G x5)),(cA_of (PySem.W.mg_of X G x4))]; exact e22,
   by rw [(cA_of (PySem.W.mg_of X G x5))]; exact e23,
   by rw [(cA_of (PySem.W.mg_of X G x5)),(cA_of (PySem.W.mg_of X G x6))]; exact e24,
   by rw [(cA_of (PySem.W.mg_of X G x5)),(cA_of (PySem.W.mg_of X G x7))]; exact e25⟩
 obtain ⟨oc,od,kV,doc,pm,an,cdv,ct,osl,e,lk,hcd⟩:=D22.F.ex
 refine ⟨d22,fun s v=>by subst e; exact .of_eq rfl,fun b _ _=>?_⟩
 have CI:=cal_ini (P:=l.prog) (w:=w) (base:=b) (show FunI K (cA mg "NoText") by rw [cA_of (PySem.W.mg_of X G x5)]; exact ⟨⟨fI,TI,_,_,_,_,_,_,_,_,_,_,_,_,_,_,i1,i2,i3,e3⟩⟩) T L
 have C0:=calD l.prog w b D0 (ok_pen D0.F) fun _ _ _ _ _ _=>len1 fun _=>rfl
 have C1:=calD l.prog w b D1 (ok_take D1.F T) fun _ _ _ _ _ _=>len2 fun _ _=>rfl
 have C2:=calD l.prog w b D2 (ok_box D2.F T ⟨C1⟩) fun _ _ _ _ _ _=>len2 fun _ _=>rfl
 have C3:=calD l.prog w b D3 (ok_ltx D3.F T) fun _ _ _ _ _ _=>len1 fun _=>rfl
 have C4:=calD l.prog w b D4 (ok_same D4.F T) fun _ _ _ _ _ _=>len2 fun _ _=>rfl
 have C5:=calD l.prog w b D5 (ok_sp D5.F T) fun _ _ _ _ _ _=>len1 fun _=>rfl
 have C6:=calD l.prog w b D6 (ok_sb D6.F T ⟨C5⟩) fun _ _ _ _ _ _=>len1 fun _=>rfl
 have C7:=calD l.prog w b D7 (ok_sign D7.F T ⟨C1⟩) fun _ _ _ _ _ _=>len2 fun _ _=>rfl
 have C8:=calD l.prog w b D8 (ok_spoilt D8.F T ⟨C1,C7,C3⟩) fun _ _ _ _ _ _=>len4 fun _ _ _ _=>rfl
 have C9:=calD l.prog w b D9 (ok_ni D9.F T) fun _ _ _ _ _ _=>len1 fun _=>rfl
 have C10:=calD l.prog w b D10 (ok_due D10.F T ⟨C9⟩) fun _ _ _ _ _ _=>len2 fun _ _=>rfl
 have C11:=calM l.prog w b D11 (ok_ask D11.F T ⟨CI⟩) fun _ _ _ _ _ _=>len1 fun _=>rfl
 have C12:=calD l.prog w b D12 (ok_writes D12.F T) fun _ _ _ _ _ _=>len1 fun _=>rfl
 have C13:=calM l.prog w b D13 (ok_nums D13.F T ⟨C12,CI⟩) fun _ _ _ _ _ _=>len2 fun _ _=>rfl
 have C14:=calD l.prog w b D14 (ok_wh D14.F T) fun _ _ _ _ _ _=>len1 fun _=>rfl
 have C15:=calD l.prog w b D15 (ok_aw D15.F T ⟨C14⟩) fun _ _ _ _ _ _=>len2 fun _ _=>rfl
 have C16:=calD l.prog w b D16 (ok_ip D16.F T ⟨C15⟩) fun _ _ _ _ _ _=>len2 fun _ _=>rfl
 have C17:=calM l.prog w b D17 (ok_rp D17.F T ⟨C13,C16,CI⟩) fun _ _ _ _ _ _=>len2 fun _ _=>rfl
 have C18:=calD l.prog w b D18 (ok_ib D18.F T ⟨C16⟩) fun _ _ _ _ _ _=>len2 fun _ _=>rfl
 have C19:=calM l.prog w b D19 (ok_rb D19.F T ⟨C11,C17,C18,CI⟩) fun _ _ _ _ _ _=>len2 fun _ _=>rfl
 have C20:=calD l.prog w b D20 (ok_others D20.F T L) fun _ _ _ _ _ _=>len1 fun _=>rfl
 have C21:=calD l.prog w b D21 (ok_right D21.F T L ⟨C19,C4,C20⟩) fun _ _ _ _ _ _=>len3 fun _ _ _=>rfl
 exact ok_law D22.F T ⟨C0,C1,C2,C3,C4,C6,C8,C10,C21⟩
theorem walk {l:PySem.W.OpenLaw} {q:Program} {loose:List Str} {XP:(Str -> Option Value) -> Heap -> Prop} {YP:World -> Heap -> Prop} {d:DefRec} {K:Params -> PySem.W.Frag} (hn:l.most = some 63) (hdf:d.params.defaults = [])
  (hY:∀ (w:World) (h:Heap),YP w h -> (K w.params).In h)
  (F:∀ (w:World) (mg:Str -> Option Value) (fa:Addr) (h:Heap),(K w.params).In h -> h.Ns mainGlobals mg -> mg d.name = some (.ref fa) ->
    ∃ fd:FuncData,(∀ (s:Shared) (u:Value),BindsTo s fd ⟨[u],[]⟩ [("_law_script",u)]) /\ ∀ base:Heap,(K w.params).In base -> base.Ns mainGlobals mg -> FnOk l.prog w (K w.params) mg base CX0 8 fa fd ["_law_script"] (conSp (K w.params) cLaw)) :
  PySem.W.WalkO q loose XP YP l.row.toRowW d [] (fun f vs=>PySem.call f vs) :=
 L2.walk_of (n:=63) (k:=8) (x:="_law_script") (CX:=fun _=>CX0) (sp:=fun w=>conSp (K w.params) cLaw) hn (by decide) hdf ⟨rfl,by decide,by decide,rfl⟩ hY F (fun _ _ a ns hl _ hS=>cLaw_sp hl hS) fun _ _ _ _ _ z=>z
end R61
open PySem PySem.W PyProof.Rows
namespace PySem.W.Fast
def tw5696544743650243086:Unit:=()
def tw15387637302725676382:Unit:=()
def tw10540839308936909811:Unit:=()
def tw2149454330483801659:Unit:=()
def tw18427088598905898510:Unit:=()
def tw3240494946122129255:Unit:=()
def tw12320621322160071637:Unit:=()
def tw14718981297884184558:Unit:=()
def tw6480279045405082410:Unit:=()
def tw13059095521409166183:Unit:=()
def tw14414575110892444580:Unit:=()
def tw12294761897191376797:Unit:=()
def tw3479005875686424826:Unit:=()
def tw2178197441712822094:Unit:=()
def tw11267292705484178599:Unit:=()
def tw3219142755312781506:Unit:=()
def tw16533505057782301653:Unit:=()
def tw583736492836749711:Unit:=()
def tw14009205311019993464:Unit:=()
def tw13297108593797161442:Unit:=()
def tw3956349443916848946:Unit:=()
def tw13196198803383055846:Unit:=()
def tw1179426616617269584:Unit:=()
def tw13276010707902650787:Unit:=()
def tw2299353131302239173:Unit:=()
def tw11100481353802564675:Unit:=()
def tw3871037111706908221:Unit:=()
def tw6599626674725410768:Unit:=()
def tw9685446739158863267:Unit:=()
def tw11216337381470249461:Unit:=()
def tw2424526496801366397:Unit:=()
def tw17248789318654616958:Unit:=()
def tw7815753510947227300:Unit:=()
def tw4204769367984336679:Unit:=()
def tw15189255895983503045:Unit:=()
def tw18096687733822306153:Unit:=()
def tw1663248856751116715:Unit:=()
def tw6411575597629351642:Unit:=()
def tw13065610523473362125:Unit:=()
def tw10575820799433507200:Unit:=()
def tw6559757912784298307:Unit:=()
def tw5977216982837678989:Unit:=()
def tw9929651078037581756:Unit:=()
def tw1346360007533236711:Unit:=()
def tw11410913981431987458:Unit:=()
def tw8192309772198267014:Unit:=()
def tw12943285894247652994:Unit:=()
def tw9964176333934589008:Unit:=()
def tw11525488711091793935:Unit:=()
def tw16821226648038598139:Unit:=()
def tw17628882857403414820:Unit:=()
def tw6500956850922714606:Unit:=()
def tw6967411658053783962:Unit:=()
def tw9506918668787751633:Unit:=()
def tw3447020255934042639:Unit:=()
def tw15097434749500310475:Unit:=()
def tw9245130147990727467:Unit:=()
def tw9368605484689744277:Unit:=()
def tw9706518536255445781:Unit:=()
def tw15292947049649044227:Unit:=()
def tw6888221601796600216:Unit:=()
def tw2461817560777135594:Unit:=()
def tw1071121192230805033:Unit:=()
def tw17043699007542763492:Unit:=()
def tw517115429400145898:Unit:=()
def tw1176191659250226416:Unit:=()
def tw10844438414150891756:Unit:=()
def tw10814099258414219423:Unit:=()
def tw11743885178337831217:Unit:=()
def tw8973633257041336025:Unit:=()
def tw7972660022523855922:Unit:=()
def tw7560330680378355129:Unit:=()
def tw10197591709149564152:Unit:=()
def tw8914977131376582179:Unit:=()
def tw9804961546008436995:Unit:=()
def tw2514075512710968784:Unit:=()
def tw1200029735644353675:Unit:=()
def tw3082791293746957626:Unit:=()
def tw11280064227743773837:Unit:=()
def tw6212041598951541158:Unit:=()
def tw13687423299976957705:Unit:=()
def tw16747124515500343208:Unit:=()
def tw18250922833264411422:Unit:=()
def tw6219333828772456202:Unit:=()
def tw7081022832408002806:Unit:=()
def tw17164042559528893603:Unit:=()
def tw16962251706800302130:Unit:=()
def tw8774442134802283669:Unit:=()
def tw8731256190374949282:Unit:=()
def tw18261806010389501120:Unit:=()
def tw4218935520198535765:Unit:=()
def tw12946047916828093666:Unit:=()
def tw9536404488731709821:Unit:=()
def tw12945018381466215947:Unit:=()
def tw61439762901473591:Unit:=()
def tw1373472734673293222:Unit:=()
def tw17663615071981178773:Unit:=()
def tw15322231375753479088:Unit:=()
def tw2876281743290067063:Unit:=()
def tw12032556824287145022:Unit:=()
def tw6597218259325774591:Unit:=()
def tw10939198346613386855:Unit:=()
def tw13869889086451835971:Unit:=()
def tw7460568121562298161:Unit:=()
def tw4379875155263497577:Unit:=()
def tw9819439719101011:Unit:=()
def tw17421309378271067042:Unit:=()
def tw17318689271333881819:Unit:=()
def tw5339412783603416037:Unit:=()
def tw8183708991452071503:Unit:=()
def tw2064949369482608171:Unit:=()
def tw1652009814311587105:Unit:=()
def tw5461911082466041432:Unit:=()
def tw12098098187057836354:Unit:=()
def tw5877681630649070044:Unit:=()
def tw1727412760029178030:Unit:=()
def tw16392547347651852078:Unit:=()
def tw5478242587604948732:Unit:=()
def tw409994011522753376:Unit:=()
def tw7352200942432389148:Unit:=()
def tw3707263744424370959:Unit:=()
def tw16280485505781956500:Unit:=()
def tw11497363261289371478:Unit:=()
def tw12001283016189893880:Unit:=()
def tw10117870517540249833:Unit:=()
def tw18196125625756221980:Unit:=()
def tw15794089292929078633:Unit:=()
def tw4425330472031932305:Unit:=()
def tw15058169365952157220:Unit:=()
def tw13144456892084419692:Unit:=()
def tw8302087168807472001:Unit:=()
def tw1447002970242585830:Unit:=()
def tw5124477350118217534:Unit:=()
def tw7624771657813778384:Unit:=()
def tw6071355910186046850:Unit:=()
def tw14357466292852930801:Unit:=()
def tw14639564480134001905:Unit:=()
def tw3350720148394616577:Unit:=()
def tw15053904809553992216:Unit:=()
def tw15943119699285072830:Unit:=()
def tw16832995775058472237:Unit:=()
def tw17814358745437124316:Unit:=()
def tw17745026037185691419:Unit:=()
def tw10343647799579250704:Unit:=()
def tw4425224249369345615:Unit:=()
end PySem.W.Fast
set_option maxRecDepth 100000 in
set_option maxHeartbeats 0 in
theorem PySem.Challenge.cw_boxsums_k61_box_texts_holds : PySem.Challenge.rw_boxsums_k61_box_texts.Holds := by
 w_on; o_law; k_head; (case hw=>w_witness2)
 k_fill
 refine R61.walk (l:=PySem.Challenge.rw_boxsums_k61_box_texts) rfl rfl (fun w h Y=>PySem.W.kIn_of Y) ?F
 case F =>
  intro w mg fa h KX G hmg
  refine' R61.all_mk KX G hmg (R61.df_mk KX G ?a0 ?l0 ?c0 ?k0) (R61.df_mk KX G ?a1 ?l1 ?c1 ?k1) (R61.df_mk KX G ?a2 ?l2 ?c2 ?k2) (R61.df_mk KX G ?a3 ?l3 ?c3 ?k3) (R61.df_mk KX G ?a4 ?l4 ?c4 ?k4) (R61.df_mk KX G ?a5 ?l5 ?c5 ?k5) (R61.df_mk KX G ?a6 ?l6 ?c6 ?k6) (R61.df_mk KX G ?a7 ?l7 ?c7 ?k7) (R61.df_mk KX G ?a8 ?l8 ?c8 ?k8) (R61.df_mk KX G ?a9 ?l9 ?c9 ?k9) (R61.df_mk KX G ?a10 ?l10 ?c10 ?k10) (R61.df_mk KX G ?a11 ?l11 ?c11 ?k11) (R61.df_mk KX G ?a12 ?l12 ?c12 ?k12) (R61.df_mk KX G ?a13 ?l13 ?c13 ?k13) (R61.df_mk KX G ?a14 ?l14 ?c14 ?k14) (R61.df_mk KX G ?a15 ?l15 ?c15 ?k15) (R61.df_mk KX G ?a16 ?l16 ?c16 ?k16) (R61.df_mk KX G ?a17 ?l17 ?c17 ?k17) (R61.df_mk KX G ?a18 ?l18 ?c18 ?k18) (R61.df_mk KX G ?a19 ?l19 ?c19 ?k19) (R61.df_mk KX G ?a20 ?l20 ?c20 ?k20) (R61.df_mk KX G ?a21 ?l21 ?c21 ?k21) (R61.df_mk KX G ?a22 ?l22 ?c22 ?k22) ?x0 ?x1 ?x2 ?x3 ?x4 ?x5 ?x6 ?x7 ?i0 ?i1 ?i2 ?i3 ?z0 ?z1 ?z2 ?z3 ?z4 ?z5 ?z6 ?z7 ?z8 ?z9 ?z10 ?z11 ?z12 ?z13 ?z14 ?z15 ?z16 ?z17 ?z18 ?y0 ?y1 ?e0 ?e1 ?e2 ?e3 ?e4 ?e5 ?e6 ?e7 ?e8 ?e9 ?e10 ?e11 ?e12 ?e13 ?e14 ?e15 ?e16 ?e17 ?e18 ?e19 ?e20 ?e21 ?e22 ?e23 ?e24 ?e25
  case a0 | l0 | c0 | k0 | a1 | l1 | c1 | k1 | a2 | l2 | c2 | k2 | a3 | l3 | c3 | k3 | a4 | l4 | c4 | k4 | a5 | l5 | c5 | k5 | a6 | l6 | c6 | k6 | a7 | l7 | c7 | k7 | a8 | l8 | c8 | k8 | a9 | l9 | c9 | k9 | a10 | l10 | c10 | k10 | a11 | l11 | c11 | k11 | a12 | l12 | c12 | k12 | a13 | l13 | c13 | k13 | a14 | l14 | c14 | k14 | a15 | l15 | c15 | k15 | a16 | l16 | c16 | k16 | a17 | l17 | c17 | k17 | a18 | l18 | c18 | k18 | a19 | l19 | c19 | k19 | a20 | l20 | c20 | k20 | a21 | l21 | c21 | k21 | a22 | l22 | c22 | k22 | x0 | x1 | x2 | x3 | x4 | x5 | x6 | x7 | i0 | i1 | i2 | i3 | z0 | z1 | z2 | z3 | z4 | z5 | z6 | z7 | z8 | z9 | z10 | z11 | z12 | z13 | z14 | z15 | z16 | z17 | z18 | y0 | y1=>k_is
  case e0 | e1 | e2 | e3 | e4 | e5 | e6 | e7 | e8 | e9 | e10 | e11 | e12 | e13 | e14 | e15 | e16 | e17 | e18 | e19 | e20 | e21 | e22 | e23 | e24 | e25=>kernel_rfl
