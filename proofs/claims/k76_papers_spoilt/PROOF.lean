import PyProof.Rows.All
import Wide.All
import OpenK.AllK
import Wide.FinOn
import Lean
import PyProof.EqAt
import PyProof.EqKinds
import PyProof.TupleCall
import PySem.Challenge.RW_boxsums_k76_papers_spoilt
set_option Elab.async false
set_option linter.all false
set_option maxRecDepth 100000
set_option maxHeartbeats 4000000
namespace L2
open PySem PySem.Spec PyProof.Rows
noncomputable abbrev Key:=Sum Int Str
noncomputable def keyIs:Key -> Value -> Bool
 | .inl k,v=>Value.isInt k v
 | .inr x,v=>Value.isStrOf x v
noncomputable def keyH (w:World):Key -> Int
 | .inl k=>hashInt k
 | .inr x=>hashStr w x
theorem keyIs_shape:∀ {k:Key} {v:Value},keyIs k v = true -> (∃ i t,k = Sum.inl i /\ v = Value.int i t) \/ (∃ x t,k = Sum.inr x /\ v = Value.str x t)
 | .inl i,v,h=>by
  obtain ⟨t,e⟩:=Value.isInt_shape (k:=i) (v:=v) h
  exact .inl ⟨i,t,rfl,e⟩
 | .inr x,v,h=>by
  obtain ⟨t,e⟩:=Value.isStrOf_shape (x:=x) (v:=v) h
  exact .inr ⟨x,t,rfl,e⟩
theorem keyIs_int (i:Int) (t:Tok):keyIs (.inl i) (.int i t) = true:=by simp [keyIs,Value.isInt]
theorem keyIs_str (x:Str) (t:Tok):keyIs (.inr x) (.str x t) = true:=by simp [keyIs,Value.isStrOf]
theorem key_ll (a b:Int):decide ((Sum.inl a:Key) = Sum.inl b) = (a == b):=by
 by_cases e:a = b
 ·subst e; simp
 ·have h:¬ (Sum.inl a:Key) = Sum.inl b:=fun q=>e (Sum.inl.inj q)
  rw [decide_eq_false h]
  exact (beq_eq_false_iff_ne.mpr e).symm
theorem key_rr (a b:Str):decide ((Sum.inr a:Key) = Sum.inr b) = decide (a = b):=by
 by_cases e:a = b
 ·subst e; simp
 ·have h:¬ (Sum.inr a:Key) = Sum.inr b:=fun q=>e (Sum.inr.inj q)
  rw [decide_eq_false h,decide_eq_false e]
theorem key_lr (a:Int) (b:Str):decide ((Sum.inl a:Key) = Sum.inr b) = false:=decide_eq_false (fun q=>nomatch q)
theorem key_rl (a:Str) (b:Int):decide ((Sum.inr a:Key) = Sum.inl b) = false:=decide_eq_false (fun q=>nomatch q)
noncomputable def mixKind (prog:Program) (w:World):PySem.KeyKind prog w Key where
 is:=keyIs
 hash:=keyH w
 inj:=fun v a b ha hb=>by
  rcases keyIs_shape ha with ⟨i,t,rfl,rfl⟩ | ⟨x,t,rfl,rfl⟩
  ·rcases keyIs_shape hb with ⟨j,u,rfl,e⟩ | ⟨y,u,rfl,e⟩
   ·injection e with e1 _; rw [e1]
   ·exact nomatch e
  ·rcases keyIs_shape hb with ⟨j,u,rfl,e⟩ | ⟨y,u,rfl,e⟩
   ·exact nomatch e
   ·injection e with e1 _; rw [e1]
 byValue:=fun k v h=>by
  rcases keyIs_shape h with ⟨i,t,rfl,rfl⟩ | ⟨x,t,rfl,rfl⟩ <;> rfl
 pyHash:=fun hv h=>by
  rcases keyIs_shape hv with ⟨i,t,rfl,rfl⟩ | ⟨x,t,rfl,rfl⟩
  ·exact wpAny_pyHash_int h
  ·exact wpAny_pyHash_str h
 eqBool:=fun hu hv h=>by
  rcases keyIs_shape hu with ⟨i,t,rfl,rfl⟩ | ⟨x,t,rfl,rfl⟩
  ·rcases keyIs_shape hv with ⟨j,u,rfl,rfl⟩ | ⟨y,u,rfl,rfl⟩
   ·rw [key_ll] at h; exact wpAny_eqBool_int h
   ·rw [key_lr] at h; exact SeqAt.EqAt.int_str i t y u _ _ _ _ h
  ·rcases keyIs_shape hv with ⟨j,u,rfl,rfl⟩ | ⟨y,u,rfl,rfl⟩
   ·rw [key_rl] at h; exact SeqAt.EqAt.str_int x t j u _ _ _ _ h
   ·rw [key_rr] at h; exact wpAny_eqBool_str h
 «strs»:=fun k x t v h=>by
  rcases keyIs_shape h with ⟨i,u,rfl,e⟩ | ⟨y,u,rfl,e⟩
  ·exact nomatch e
  ·injection e with e1 _
   subst e1
   cases v <;> rfl
theorem mixKind_int (prog:Program) (w:World) (i:Int) (t:Tok):(mixKind prog w).is (.inl i) (.int i t) = true:=keyIs_int i t
theorem mixKind_str (prog:Program) (w:World) (x:Str) (t:Tok):(mixKind prog w).is (.inr x) (.str x t) = true:=keyIs_str x t
end L2
namespace L2
open PySem PySem.Spec PyProof.Rows
inductive V where
 | non | bl (b:Bool) | int (i:Int) | str (x:Str) | byt (b:Array UInt8) | flt (b:UInt64) | ref (a:Addr) | ty (n:String)
 deriving DecidableEq
noncomputable def RelV:V -> Value -> Prop
 | .non,u=>u = Value.none
 | .bl b,u=>u = Value.bool b
 | .int i,u=>∃ t,u = Value.int i t
 | .str x,u=>∃ t,u = Value.str x t
 | .byt b,u=>∃ t,u = Value.bytes b t
 | .flt b,u=>∃ t,u = Value.float b t
 | .ref a,u=>u = Value.ref a
 | .ty n,u=>u = Value.type n
noncomputable abbrev Vals:List V -> List Value -> Prop:=Paired RelV
theorem Vals.length {xs:List V} {us:List Value} (r:Vals xs us):xs.length = us.length:=Paired.length r
theorem Vals.get:∀ {xs:List V} {us:List Value} {i:Nat} {x:V},Vals xs us -> xs[i]? = some x -> ∃ u,us[i]? = some u /\ RelV x u
 | _,_,_,_,.nil,e=>by simp at e
 | _,_,0,_,.cons r _,e=>by simp at e; subst e; exact ⟨_,rfl,r⟩
 | _,_,i + 1,x,.cons _ t,e=>by
  obtain ⟨u,h1,h2⟩:=Vals.get (i:=i) (x:=x) t (by simpa using e)
  exact ⟨u,by simpa using h1,h2⟩
theorem Vals.set {x:V} {u:Value} (r:RelV x u):∀ {xs:List V} {us:List Value} (i:Nat),Vals xs us -> Vals (xs.set i x) (us.set i u)
 | _,_,_,.nil=>.nil
 | _,_,0,.cons _ t=>.cons r t
 | _,_,i + 1,.cons q t=>.cons q (Vals.set r i t)
theorem Vals.append:∀ {xs ys:List V} {us ws:List Value},Vals xs us -> Vals ys ws -> Vals (xs ++ ys) (us ++ ws)
 | _,_,_,_,.nil,s=>s
 | _,_,_,_,.cons r t,s=>.cons r (Vals.append t s)
theorem Vals.take:∀ {xs:List V} {us:List Value} (n:Nat),Vals xs us -> Vals (xs.take n) (us.take n)
 | _,_,0,_=>.nil
 | _,_,_ + 1,.nil=>.nil
 | _,_,n + 1,.cons r t=>.cons r (Vals.take n t)
theorem Vals.drop:∀ {xs:List V} {us:List Value} (n:Nat),Vals xs us -> Vals (xs.drop n) (us.drop n)
 | _,_,0,r=>r
 | _,_,_ + 1,.nil=>.nil
 | _,_,n + 1,.cons _ t=>Vals.drop n t
theorem Vals.none_of:∀ {xs:List V} {us:List Value} {i:Nat},Vals xs us -> xs[i]? = none -> us[i]? = none:=fun {xs us i} r e=>by
 have h1:=r.length
 have h2:xs.length <= i:=List.getElem?_eq_none_iff.mp e
 exact List.getElem?_eq_none_iff.mpr (by omega)
noncomputable def RelO:Option V -> Option Value -> Prop
 | some v,some u=>RelV v u
 | none,none=>True
 | _,_=>False
noncomputable def KV {κ:Type}:List (κ × V) -> List (κ × Value) -> Prop:=Paired fun (p:κ × V) (q:κ × Value)=>p.1 = q.1 /\ RelV p.2 q.2
noncomputable def kV:Key -> V
 | .inl i=>.int i
 | .inr x=>.str x
inductive HO where
 | lst (xs:List V)
 | tup (xs:List V)
 | dK (kvs:List (Key × V)) | dT (kvs:List (List Key × V))
 | set (S:Int -> Bool) (n:Nat)
 | ins (C dx:Addr) (fs:List (Str × V))
 | own (x:Addr)
 | xd (fs:List (Str × V))
 | met (f x:Addr)
 | rng (lo hi:Int)
 | frz (o:Obj) (u:HO)
 | tbl (ps:Array Value)
 | ext (φ:Heap -> Prop)
noncomputable abbrev Hp:=Addr -> Option HO
noncomputable def upd (H:Hp) (a:Addr) (o:HO):Hp:=fun b=>if b = a then some o else H b
theorem upd_same {H:Hp} {a:Addr} {o:HO}:upd H a o a = some o:=by unfold upd; rw [if_pos rfl]
theorem upd_ne {H:Hp} {a b:Addr} {o:HO} (h:b ≠ a):upd H a o b = H b:=by unfold upd; rw [if_neg h]
theorem ne_of_none {H:Hp} {a b:Addr} {o:HO} (h:H a = some o) (h':H b = none):a ≠ b:=by
 intro e; subst e; rw [h] at h'; cases h'
noncomputable def IsTupD (h:Heap) (a:Addr) (items:Array Value):Prop:=∃ o,h.get? a = some o /\ o.cls = .type "tuple" /\ ∃ n,o.data = .seq items n /\ o.dict = none
theorem IsTupD.t {h:Heap} {a:Addr} {items:Array Value}:IsTupD h a items -> IsTup h a items:=fun ⟨o,e,c,n,d,_⟩=>⟨o,e,c,n,d⟩
theorem IsTupD.new (h:Heap) (items:Array Value):IsTupD (h.push { cls:=.type "tuple",data:=.seq items }) h.objs.size items:=⟨_,Heap.get?_push_size _ rfl,rfl,_,rfl,rfl⟩
section
variable (P:Program) (w:World)
noncomputable def ObjOk (H:Hp) (h:Heap) (a:Addr):HO -> Prop
 | .lst xs=>xs.length <= sizeLine /\ ∃ (its:List Value) (n:Nat),Vals xs its /\ h.get? a = some { cls:=.type "list",data:=.seq its.toArray n }
 | .tup xs=>xs.length <= sizeLine /\ ∃ its:List Value,Vals xs its /\ IsTupD h a its.toArray
 | .dK kvs=>kvs.length <= sizeLine /\ (a == sysModules) = false /\ ∃ vs,KV kvs vs /\ h.DictOf (mixKind P w) a vs
 | .dT kvs=>kvs.length <= sizeLine /\ (a == sysModules) = false /\ ∃ xs:List (List Key × Addr × Value),
   Paired (fun (p:List Key × V) (q:List Key × Addr × Value)=>p.1 = q.1 /\ H q.2.1 = some (.tup (p.1.map kV)) /\ RelV p.2 q.2.2) kvs xs /\
   ∃ o es ep,h.get? a = some o /\ o.ExactDict /\ o.data = .dict es ep /\ es.toList = xs.map (entryOfKey (tupleKind (mixKind P w))) /\ (xs.map (·.1)).Nodup
 | .set S n=>h.SetOf (intKind P w) a S n
 | .ins C dx fs=>H dx = some (.own a) /\ fs.length <= 1000 /\ dx ≠ a /\ h.get? a = some (PySem.W.instObj C dx) /\
   ∃ mA,h.Ns1 dx mA /\ (∀ f,RelO (fs.lookup f) (mA f)) /\ PySem.Within mA (fs.map (·.1))
 | .own _=>∃ o,h.get? a = some o
 | .xd fs=>∃ mA,h.Ns1 a mA /\ ∀ f,RelO (fs.lookup f) (mA f)
 | .rng lo hi=>∃ t u v,h.get? a = some { cls:=.type "range",data:=.fields #[.int lo t,.int hi u,.int 1 v] }
 | .frz o u=>h.get? a = some o /\ ObjOk H h a u
 | .tbl ps=>h.get? a = some { cls:=.none,data:=.fields ps }
 | .met f x=>h.get? a = some (PySem.W.methodObj (.ref f) (.ref x))
 | .ext φ=>φ h /\ (∃ o,h.get? a = some o) /\ ∀ h1 h2:Heap,φ h1 -> (∀ o,h1.get? a = some o -> h2.get? a = some o) -> φ h2
noncomputable def HOk (H:Hp) (h:Heap):Prop:=∀ a o,H a = some o -> ObjOk P w H h a o
end
section
variable {P:Program} {w:World} {H H':Hp} {h h':Heap} {a:Addr} {o:HO}
theorem ObjOk.lt (x:ObjOk P w H h a o):a < h.objs.size:=by
 cases o with
 | lst xs=>obtain ⟨_,_,_,_,e⟩:=x; exact Heap.lt_size e
 | tup xs=>obtain ⟨_,_,_,p⟩:=x; exact p.t.lt
 | dK kvs=>obtain ⟨_,_,_,_,o,_,_,e,_⟩:=x; exact Heap.lt_size e
 | dT kvs=>obtain ⟨_,_,_,_,o,_,_,e,_⟩:=x; exact Heap.lt_size e
 | set S n=>obtain ⟨o,_,_,_,e,_⟩:=x; exact Heap.lt_size e
 | ins C dx fs=>obtain ⟨_,_,_,e,_⟩:=x; exact Heap.lt_size e
 | own y=>obtain ⟨_,e⟩:=x; exact Heap.lt_size e
 | xd fs=>obtain ⟨_,⟨_,_,_,e,_⟩,_⟩:=x; exact Heap.lt_size e
 | rng lo hi=>obtain ⟨_,_,_,e⟩:=x; exact Heap.lt_size e
 | frz ob u=>obtain ⟨e,_⟩:=x; exact Heap.lt_size e
 | tbl ps=>exact Heap.lt_size (show h.get? a = some _ from x)
 | met f y=>exact Heap.lt_size (show h.get? a = some _ from x)
 | ext φ=>obtain ⟨_,⟨_,e⟩,_⟩:=x; exact Heap.lt_size e
theorem Paired.mapP {α β:Type} {F G:α -> β -> Prop}:∀ {l₁:List α} {l₂:List β},Paired F l₁ l₂ -> (∀ a b,F a b -> G a b) -> Paired G l₁ l₂
 | _,_,.nil,_=>.nil
 | _,_,.cons r t,f=>.cons (f _ _ r) (Paired.mapP t f)
theorem ObjOk.stay (x:ObjOk P w H h a o) (k:∀ b u,(b = a \/ H b = some (.own a)) -> h.get? b = some u -> h'.get? b = some u)
  (ho:∀ b,H b = some (.own a) -> H' b = some (.own a)) (ht:∀ b xs,H b = some (.tup xs) -> H' b = some (.tup xs)):ObjOk P w H' h' a o:=by
 induction o with
 | lst xs=>obtain ⟨z,its,n,r,e⟩:=x; exact ⟨z,its,n,r,k _ _ (.inl rfl) e⟩
 | tup xs=>obtain ⟨z,its,r,ob,e,c⟩:=x; exact ⟨z,its,r,ob,k _ _ (.inl rfl) e,c⟩
 | dK kvs=>obtain ⟨z,y,vs,r,ob,es,ep,e,c⟩:=x; exact ⟨z,y,vs,r,ob,es,ep,k _ _ (.inl rfl) e,c⟩
 | dT kvs =>
  obtain ⟨z,y,xs,r,ob,es,ep,e,c⟩:=x
  exact ⟨z,y,xs,Paired.mapP r fun p q z=>⟨z.1,ht _ _ z.2.1,z.2.2⟩,ob,es,ep,k _ _ (.inl rfl) e,c⟩
 | set S n=>obtain ⟨ob,es,ep,t,e,c⟩:=x; exact ⟨ob,es,ep,t,k _ _ (.inl rfl) e,c⟩
 | ins C dx fs =>
  obtain ⟨d,z,ne,e,mA,⟨od,es,ep,e2,c⟩,r⟩:=x
  exact ⟨ho _ d,z,ne,k _ _ (.inl rfl) e,mA,⟨od,es,ep,k _ _ (.inr d) e2,c⟩,r⟩
 | own y=>obtain ⟨ob,e⟩:=x; exact ⟨ob,k _ _ (.inl rfl) e⟩
 | xd fs=>obtain ⟨mA,⟨od,es,ep,e,c⟩,r⟩:=x; exact ⟨mA,⟨od,es,ep,k _ _ (.inl rfl) e,c⟩,r⟩
 | rng lo hi=>obtain ⟨t,u,v,e⟩:=x; exact ⟨t,u,v,k _ _ (.inl rfl) e⟩
 | frz ob u ih=>obtain ⟨e,q⟩:=x; exact ⟨k _ _ (.inl rfl) e,ih q⟩
 | tbl ps =>
  have e:h.get? a = some { cls:=.none,data:=.fields ps }:=x
  show h'.get? a = some { cls:=.none,data:=.fields ps }
  exact k a _ (.inl rfl) e
 | met f y =>
  have e:h.get? a = some (PySem.W.methodObj (.ref f) (.ref y)):=x
  show h'.get? a = some (PySem.W.methodObj (.ref f) (.ref y))
  exact k a _ (.inl rfl) e
 | ext φ=>obtain ⟨p,⟨o,e⟩,st⟩:=x; exact ⟨st _ _ p fun o q=>k _ _ (.inl rfl) q,⟨o,k _ _ (.inl rfl) e⟩,st⟩
theorem HOk.lt (x:HOk P w H h) (e:H a = some o):a < h.objs.size:=(x a o e).lt
theorem HOk.fresh (x:HOk P w H h) (e:h.objs.size <= a):H a = none:=by
 cases q:H a with
 | none=>rfl
 | some u=>exact absurd (Nat.lt_of_lt_of_le (x.lt q) e) (Nat.lt_irrefl _)
theorem HOk.kept (x:HOk P w H h) (k:∀ b u,h.get? b = some u -> h'.get? b = some u):HOk P w H h':=fun a o e =>
 (x a o e).stay (fun b u _ q=>k b u q) (fun _ q=>q) fun _ _ q=>q
theorem HOk.laid (x:HOk P w H h) (k:∀ b u,h.get? b = some u -> h'.get? b = some u) (hp:h.objs.size <= a) (new:ObjOk P w (upd H a o) h' a o):HOk P w (upd H a o) h':=fun b u e=>by
 have hn:=x.fresh hp
 by_cases hb:b = a
 ·subst hb; rw [upd_same] at e; cases e; exact new
 ·rw [upd_ne hb] at e
  exact (x b u e).stay (fun c v _ q=>k c v q) (fun c q=>by rw [upd_ne (ne_of_none q hn)]; exact q) fun c xs q=>by rw [upd_ne (ne_of_none q hn)]; exact q
end
noncomputable def Rd (H:Hp) (a:Addr) (u:HO):Prop:=H a = some u \/ ∃ o,H a = some (.frz o u)
theorem Rd.ok {P:Program} {w:World} {H:Hp} {h:Heap} {a:Addr} {u:HO} (r:Rd H a u) (x:HOk P w H h):ObjOk P w H h a u:=by
 rcases r with r | ⟨o,r⟩
 ·exact x a u r
 ·obtain ⟨_,q⟩:=x a _ r
  exact q
noncomputable def Mut:Option HO -> Prop
 | some (.lst _)=>True
 | some (.dK _)=>True
 | some (.dT _)=>True
 | some (.set _ _)=>True
 | some (.ins _ _ _)=>True
 | some (.ext _)=>True
 | _=>False
section
variable {P:Program} {w:World} {H:Hp} {h h':Heap} {x e:Addr} {o':HO}
theorem HOk.write (ok:HOk P w H h) (mu:Mut (H x)) (he:e = x \/ H e = some (.own x)) (k:∀ b u,b ≠ e -> h.get? b = some u -> h'.get? b = some u) (heo:∃ u,h'.get? e = some u)
  (new:ObjOk P w (upd H x o') h' x o'):HOk P w (upd H x o') h':=fun b u q=>by
 have nown:∀ c y,H c = some (.own y) -> c ≠ x:=fun c y r z=>by subst z; rw [r] at mu; exact mu
 have ntup:∀ c xs,H c = some (.tup xs) -> c ≠ x:=fun c xs r z=>by subst z; rw [r] at mu; exact mu
 by_cases hb:b = x
 ·subst hb; rw [upd_same] at q; cases q; exact new
 ·rw [upd_ne hb] at q
  by_cases hbe:b = e
  ·have q':H b = some (.own x):=by
    rcases he with z | z
    ·exact absurd (hbe.trans z) hb
    ·rw [hbe]; exact z
   rw [q] at q'; cases q'
   obtain ⟨v,hv⟩:=heo
   exact ⟨v,by rw [hbe]; exact hv⟩
  ·refine (ok b u q).stay (fun c v hc r=>k c v ?_ r) (fun c r=>by rw [upd_ne (nown c b r)]; exact r) fun c xs r=>by rw [upd_ne (ntup c xs r)]; exact r
   rcases hc with rfl | hc
   ·exact hbe
   ·rintro rfl
    rcases he with z | z
    ·exact nown c b hc z
    ·rw [hc] at z; cases z; exact hb rfl
end
structure Un (fs ex:List Addr) (H H':Hp) (h h':Heap):Prop where
 keep:∀ b o,h.get? b = some o -> H b = none -> b ∉ fs -> b ∉ ex -> h'.get? b = some o
 slot:∀ b o,h.get? b = some o -> H b = none -> b ∈ fs -> b ∉ ex -> ∃ sl,h'.get? b = some { o with slots:=sl }
 free:∀ b o,h.get? b = some o -> H b = none -> b ∉ ex -> H' b = none
 there:∀ b o,h.get? b = some o -> b ∉ ex -> ∃ o',h'.get? b = some o'
 tups:∀ b xs,H b = some (.tup xs) -> H' b = some (.tup xs)
 frzs:∀ b o u,H b = some (.frz o u) -> H' b = some (.frz o u)
 tbls:∀ b ps,H b = some (.tbl ps) -> ∃ more,H' b = some (.tbl (ps ++ more))
section
variable {fs fs' ex ex':List Addr} {H H1 H2:Hp} {h h1 h2 h':Heap} {a x e:Addr} {o:HO}
theorem Un.any (u:Un fs ex H H1 h h1) {b:Addr} {ob:Obj} (q:h.get? b = some ob) (n:H b = none) (hx:b ∉ ex):∃ sl,h1.get? b = some { ob with slots:=sl }:=by
 by_cases hb:b ∈ fs
 ·exact u.slot b ob q n hb hx
 ·exact ⟨ob.slots,u.keep b ob q n hb hx⟩
theorem Un.kept (k:∀ b u,h.get? b = some u -> h'.get? b = some u):Un fs ex H H h h' :=
 ⟨fun b ob q _ _ _=>k b ob q,fun b ob q _ _ _=>⟨ob.slots,k b ob q⟩,fun _ _ _ n _=>n,fun b ob q _=>⟨ob,k b ob q⟩,fun _ _ q=>q,fun _ _ _ q=>q,fun _ ps q=>⟨#[],by rw [q]; simp⟩⟩
theorem Un.refl:Un fs ex H H h h:=Un.kept fun _ _ q=>q
theorem Un.laid (k:∀ b u,h.get? b = some u -> h'.get? b = some u) (hp:h.objs.size <= a) (hn:H a = none):Un fs ex H (upd H a o) h h' where
 keep:=fun b u q _ _ _=>k b u q
 slot:=fun b u q _ _ _=>⟨u.slots,k b u q⟩
 free:=fun b u q n _=>by rw [upd_ne (Nat.ne_of_lt (Nat.lt_of_lt_of_le (Heap.lt_size q) hp))]; exact n
 there:=fun b u q _=>⟨u,k b u q⟩
 tups:=fun b xs q=>by rw [upd_ne (ne_of_none q hn)]; exact q
 frzs:=fun b u xs q=>by rw [upd_ne (ne_of_none q hn)]; exact q
 tbls:=fun b ps q=>⟨#[],by rw [upd_ne (ne_of_none q hn),q]; simp⟩
theorem Un.write (mu:Mut (H x)) (he:e = x \/ H e = some (.own x)) (k:∀ b u,b ≠ e -> h.get? b = some u -> h'.get? b = some u) (heo:∃ u,h'.get? e = some u):Un fs ex H (upd H x o) h h':=by
 have hx:∀ b,H b = none -> b ≠ x:=fun b n z=>by subst z; rw [n] at mu; exact mu
 have hb:∀ b,H b = none -> b ≠ e:=fun b n z=>by
  subst z
  rcases he with r | r
  ·exact hx b n r
  ·rw [n] at r; cases r
 have hm:∀ b u,H b = some u -> ¬ Mut (some u) -> b ≠ x:=fun b u q nm z=>by subst z; rw [q] at mu; exact nm mu
 refine ⟨fun b u q n _ _=>k b u (hb b n) q,fun b u q n _ _=>⟨u.slots,k b u (hb b n) q⟩,fun b u q n _=>by rw [upd_ne (hx b n)]; exact n,fun b u q _=>?_,
   fun b xs q=>by rw [upd_ne (hm b _ q fun z=>z)]; exact q,fun b u xs q=>by rw [upd_ne (hm b _ q fun z=>z)]; exact q,fun b ps q=>⟨#[],by rw [upd_ne (hm b _ q fun z=>z),q]; simp⟩⟩
 by_cases hbe:b = e
 ·subst hbe; exact heo
 ·exact ⟨u,k b u hbe q⟩
end
noncomputable def trk (h:Heap) (H:Hp):List Addr:=(List.range h.objs.size).filter fun a=>(H a).isSome
noncomputable def hidT (h:Heap) (H:Hp):Heap:=PySem.W.hideAll h (trk h H)
theorem hidT_size (h:Heap) (H:Hp):(hidT h H).objs.size = h.objs.size:=PySem.W.hideAll_size _ _
theorem hidT_get {h:Heap} {H:Hp} {b:Addr} {o:Obj} (e:h.get? b = some o) (n:H b = none):(hidT h H).get? b = some o :=
 PySem.W.hideAll_get _ e fun hm=>by
  have q:(H b).isSome = true:=(List.mem_filter.mp hm).2
  rw [n] at q; simp at q
theorem of_hidT {h:Heap} {H:Hp} {b:Addr} {o:Obj} (e:(hidT h H).get? b = some o):h.get? b = some o /\ H b = none:=by
 have e':h.get? b = some o:=PySem.W.of_hideAll (trk h H) e
 refine ⟨e',?_⟩
 cases q:H b with
 | none=>rfl
 | some x =>
  have hm:b ∈ trk h H:=List.mem_filter.mpr ⟨List.mem_range.mpr (Heap.lt_size e'),by simp [q]⟩
  have z:(hidT h H).get? b = none:=PySem.W.hideAll_none (trk h H) hm
  rw [z] at e; cases e
noncomputable def allNews (g h:Heap) (L:Addr):List (Addr × Obj):=(List.range h.objs.size).filterMap fun a=>if a = L \/ (g.get? a).isSome = true then none else (h.get? a).map fun o=>(a,o)
noncomputable def rest (g h:Heap) (L d:Addr):List (Addr × Obj):=(allNews g h L).filter fun p=>decide (p.1 ≠ d)
end L2
namespace L2
open PySem PySem.Spec PyProof.Rows
structure Mod (K:PySem.W.Frag) (mg:Str -> Option Value) (base:Heap):Prop where
 kin:K.In base
 glob:base.Ns mainGlobals mg
 blt:∃ mb,base.Ns builtinsNs mb /\ ∀ x:Str,x ≠ "__name__" -> mb x = bootBuiltins x
 nolimit:base.NoLimit
structure Cx where
 prog:Program
 w:World
 K:PySem.W.Frag
 mg:Str -> Option Value
 base:Heap
 A:Around
 N:List Str
 s₀:Shared
 H₀:Hp
 env:Env
 outer:List Env
 stack:List Env
 ex:List Addr
 fn:Str -> Bool
 calm:Bool
 pn:List (Addr × Obj)
 xe:Value -> Shared -> Prop
noncomputable def frs (l:List Env):List Addr:=l.filterMap (·.frame)
noncomputable abbrev Cx.fs (X:Cx):List Addr:=frs X.outer
noncomputable def Vis (sc:Scope) (x:Str):Prop:=sc.names.lookup x = some .local \/ sc.names.lookup x = some .cell \/ sc.names.lookup x = some .free
noncomputable def Loc (sc:Scope) (x:Str):Prop:=sc.names.lookup x = some .local \/ sc.names.lookup x = some .cell
noncomputable def Look (env:Env) (h:Heap) (m:Str -> Option Value) (x:Str) (u:Value):Prop :=
 (env.kindOf x = some .local /\ m x = some u) \/ ((env.kindOf x = some .cell \/ env.kindOf x = some .free) /\ ∃ c,env.cells.lookup x = some c /\ h.IsCell c (some u))
structure Cx.Ok (X:Cx):Prop where
 mod:Mod X.K X.mg X.base
 kind:X.env.scope.kind = .function
 glob:X.env.globals = mainGlobals
 blt:X.env.builtins = builtinsNs
 above:X.s₀.heap.objs.size <= X.env.locals
 inj:∀ x y c,X.env.cells.lookup x = some c -> X.env.cells.lookup y = some c -> x = y
 has:∀ x,(X.env.kindOf x = some .cell \/ X.env.kindOf x = some .free) -> ∃ c,X.env.cells.lookup x = some c
 cab:∀ x c,X.fn x = true -> X.env.cells.lookup x = some c -> X.s₀.heap.objs.size <= c
 hd:X.calm = true -> X.A.handled = none
 frames:X.A.frames = some X.stack
 stk:X.stack = X.outer \/ (X.stack = X.env :: X.outer /\ X.env.frame = some X.env.locals)
 exf:∀ b ∈ X.ex,b ≠ X.env.locals /\ ∀ x c,X.env.cells.lookup x = some c -> c ≠ b
 bs:∀ b o,X.base.get? b = some o -> X.s₀.heap.get? b = some o /\ X.H₀ b = none
 bsz:X.base.objs.size <= X.s₀.heap.objs.size
 noex:∀ b o,X.base.get? b = some o -> b ∉ X.ex
 exfs:∀ b ∈ X.ex,b ∉ X.fs
 funs:X.s₀.heap.FunFrames X.base X.outer
 frf:∀ b ∈ X.fs,X.H₀ b = none
structure Inv (X:Cx) (pins:List (Addr × Obj)) (σ:List (Option V)) (H:Hp) (s:Shared):Prop where
 ok:X.Ok
 os:s.os = X.s₀.os
 bare:AllBare s.gens
 base:Un X.fs X.ex X.H₀ H X.s₀.heap s.heap
 loc:∃ m,s.heap.Ns X.env.locals m /\ ∀ (i:Nat) (x:Str) (v:V),X.N[i]? = some x -> σ[i]? = some (some v) -> Vis X.env.scope x -> ∃ u,RelV v u /\ Look X.env s.heap m x u
 cell:∀ x c,X.env.cells.lookup x = some c -> ∃ v,s.heap.IsCell c v
 free:H X.env.locals = none
 freeC:∀ x c,X.env.cells.lookup x = some c -> H c = none
 pin:∀ p ∈ X.pn ++ pins,s.heap.get? p.1 = some p.2 /\ H p.1 = none /\ p.1 ≠ X.env.locals /\ p.1 ∉ X.fs /\ ∀ v,p.2.data ≠ .cell v
 hok:HOk X.prog X.w H s.heap
 len:σ.length = X.N.length
section
variable {X:Cx} {pins:List (Addr × Obj)} {σ:List (Option V)} {H H':Hp} {s:Shared} {h':Heap}
theorem Cx.Ok.nofr (ok:X.Ok) {b:Addr} {o:Obj} (e:X.base.get? b = some o):b ∉ X.fs:=fun hb=>by
 have:=(ok.funs.mem hb).1
 rw [e] at this; cases this
theorem Inv.bs (I:Inv X pins σ H s):∀ b o,X.base.get? b = some o -> s.heap.get? b = some o /\ H b = none:=fun b o e =>
 ⟨I.base.keep b o (I.ok.bs b o e).1 (I.ok.bs b o e).2 (I.ok.nofr e) (I.ok.noex b o e),I.base.free b o (I.ok.bs b o e).1 (I.ok.bs b o e).2 (I.ok.noex b o e)⟩
theorem Inv.bk (I:Inv X pins σ H s):∀ b o,X.base.get? b = some o -> s.heap.get? b = some o:=fun b o e=>(I.bs b o e).1
theorem Inv.mod (I:Inv X pins σ H s):Mod X.K X.mg X.base:=I.ok.mod
theorem Inv.kIn (I:Inv X pins σ H s):X.K.In s.heap:=I.ok.mod.kin.keeps I.bk
theorem Inv.lt (I:Inv X pins σ H s):X.env.locals < s.heap.objs.size:=let ⟨_,hn,_⟩:=I.loc; hn.lt
theorem Inv.sz (I:Inv X pins σ H s):X.s₀.heap.objs.size <= s.heap.objs.size:=Nat.le_trans I.ok.above (Nat.le_of_lt I.lt)
theorem Inv.nofs (I:Inv X pins σ H s) {a:Addr} (h:s.heap.objs.size <= a):a ∉ X.fs:=fun hb=>by
 obtain ⟨_,o,ho,_⟩:=I.ok.funs.mem hb
 exact absurd (Nat.lt_of_lt_of_le (Heap.lt_size ho) (Nat.le_trans I.sz h)) (Nat.lt_irrefl _)
theorem Inv.cne (I:Inv X pins σ H s):∀ x c,X.env.cells.lookup x = some c -> c ≠ X.env.locals:=fun x c e z=>by
 obtain ⟨v,o,ho,hd⟩:=I.cell x c e
 obtain ⟨m,⟨o',es,ep,ho',hd',_⟩,_⟩:=I.loc
 rw [z,ho'] at ho; cases ho; rw [hd'] at hd; cases hd
theorem Inv.funs (I:Inv X pins σ H s):s.heap.FunFrames X.base X.outer:=by
 have all:∀ (l:List Env),(∀ b ∈ frs l,b ∈ X.fs) -> X.s₀.heap.FunFrames X.base l -> s.heap.FunFrames X.base l:=by
  intro l
  induction l with
  | nil=>intro _ _; trivial
  | cons env r ih =>
   intro hs hl
   obtain ⟨hk,⟨L,o,hf,hn,ho,hd⟩,hr⟩:=hl
   have hL:L ∈ X.fs:=hs L (by unfold frs; rw [List.filterMap_cons,hf]; exact List.mem_cons_self)
   obtain ⟨sl,e⟩:=I.base.slot L o ho (I.ok.frf L hL) hL fun z=>I.ok.exfs L z hL
   exact ⟨hk,⟨L,_,hf,hn,e,hd⟩,ih (fun b hb=>hs b (by unfold frs; rw [List.filterMap_cons,hf]; exact List.mem_cons_of_mem _ hb)) hr⟩
 exact all X.outer (fun _ hb=>hb) I.ok.funs
theorem Inv.stack (I:Inv X pins σ H s):s.heap.FunFrames X.base X.stack:=by
 rcases I.ok.stk with e | ⟨e,hf⟩
 ·rw [e]; exact I.funs
 ·rw [e]
  obtain ⟨m,hn,_⟩:=I.loc
  refine .cons (by rw [I.ok.kind]; decide) hf hn ?_ I.funs
  exact Heap.get?_none_of_le (Nat.le_trans I.ok.bsz I.ok.above)
theorem Inv.stkSub (I:Inv X pins σ H s):∀ b ∈ frs X.stack,b ∈ X.env.locals :: X.fs:=fun b hb=>by
 rcases I.ok.stk with e | ⟨e,hf⟩
 ·rw [e] at hb; exact List.mem_cons_of_mem _ hb
 ·rw [e] at hb
  unfold frs at hb
  rw [List.filterMap_cons,hf] at hb
  exact hb
theorem Inv.stkFree (I:Inv X pins σ H s):∀ b ∈ frs X.stack,H b = none:=fun b hb=>by
 rcases List.mem_cons.mp (I.stkSub b hb) with e | hb
 ·rw [e]; exact I.free
 ·obtain ⟨_,o,ho,_⟩:=I.ok.funs.mem hb
  exact I.base.free b o ho (I.ok.frf b hb) fun z=>I.ok.exfs b z hb
theorem Inv.step {g':Array GenState} {t':Nat} {d':Drawn} {ch:List Addr} (I:Inv X pins σ H s)
  (hch:∀ b ∈ ch,(b ∈ X.ex \/ X.s₀.heap.objs.size <= b) /\ b ≠ X.env.locals /\ (∀ x c,X.env.cells.lookup x = some c -> c ≠ b) /\ ∀ p ∈ X.pn ++ pins,p.1 ≠ b)
  (keep:∀ b o,b ≠ X.env.locals -> b ∉ X.fs -> b ∉ ch -> s.heap.get? b = some o -> H b = none -> h'.get? b = some o)
  (slot:∀ b o,b ≠ X.env.locals -> b ∈ X.fs -> b ∉ ch -> s.heap.get? b = some o -> H b = none -> ∃ sl,h'.get? b = some { o with slots:=sl }) (free:∀ b o,b ∉ ch -> s.heap.get? b = some o -> H b = none -> H' b = none)
  (there:∀ b o,b ∉ ch -> s.heap.get? b = some o -> ∃ o',h'.get? b = some o')
  (tups:∀ b xs,H b = some (.tup xs) -> H' b = some (.tup xs)) (frzs:∀ b o u,H b = some (.frz o u) -> H' b = some (.frz o u)) (tbls:∀ b ps,H b = some (.tbl ps) -> ∃ more,H' b = some (.tbl (ps ++ more)))
  (ns:∀ m,s.heap.Ns X.env.locals m -> h'.Ns X.env.locals m) (hok:HOk X.prog X.w H' h') (hg:AllBare g') :
  Inv X pins σ H' { s with heap:=h',gens:=g',drawn:=d',toks:=t' }:=by
 have neL:∀ b o,X.s₀.heap.get? b = some o -> b ≠ X.env.locals:=fun b o e=>Nat.ne_of_lt (Nat.lt_of_lt_of_le (Heap.lt_size e) I.ok.above)
 have neC:∀ b o,X.s₀.heap.get? b = some o -> b ∉ X.ex -> b ∉ ch:=fun b o e hx hb=>by
  rcases (hch b hb).1 with z | z
  ·exact hx z
  ·exact absurd (Nat.lt_of_lt_of_le (Heap.lt_size e) z) (Nat.lt_irrefl _)
 have cellK:∀ x c,X.env.cells.lookup x = some c -> ∀ v,s.heap.IsCell c v -> h'.IsCell c v:=fun x c e v ⟨o,ho,hd⟩=>by
  have nch:c ∉ ch:=fun z=>(hch c z).2.2.1 x c e rfl
  by_cases hc:c ∈ X.fs
  ·obtain ⟨sl,q⟩:=slot c o (I.cne x c e) hc nch ho (I.freeC x c e)
   exact ⟨_,q,hd⟩
  ·exact ⟨o,keep c o (I.cne x c e) hc nch ho (I.freeC x c e),hd⟩
 refine ⟨I.ok,I.os,hg,⟨fun b o e n hb hx=>?_,fun b o e n hb hx=>?_,fun b o e n hx=>?_,fun b o e hx=>?_,fun b xs e=>tups b xs (I.base.tups b xs e),fun b o xs e=>frzs b o xs (I.base.frzs b o xs e),fun b ps e=>?_⟩,?_,fun x c e=>?_,?_,fun x c e=>?_,fun p hp=>?_,hok,I.len⟩
 ·exact keep b o (neL b o e) hb (neC b o e hx) (I.base.keep b o e n hb hx) (I.base.free b o e n hx)
 ·obtain ⟨sl,e1⟩:=I.base.slot b o e n hb hx
  obtain ⟨sl',e2⟩:=slot b _ (neL b o e) hb (neC b o e hx) e1 (I.base.free b o e n hx)
  exact ⟨sl',e2⟩
 ·obtain ⟨o',e1⟩:=I.base.there b o e hx
  exact free b o' (neC b o e hx) e1 (I.base.free b o e n hx)
 ·obtain ⟨o',e1⟩:=I.base.there b o e hx
  exact there b o' (neC b o e hx) e1
 ·obtain ⟨m1,e1⟩:=I.base.tbls b ps e
  obtain ⟨m2,e2⟩:=tbls b _ e1
  exact ⟨m1 ++ m2,by rw [e2,Array.append_assoc]⟩
 ·obtain ⟨m,hn,hl⟩:=I.loc
  refine ⟨m,ns m hn,fun i x v e1 e2 e3=>?_⟩
  obtain ⟨u,r,l⟩:=hl i x v e1 e2 e3
  refine ⟨u,r,?_⟩
  rcases l with l | ⟨k,c,e,z⟩
  ·exact .inl l
  ·exact .inr ⟨k,c,e,cellK x c e _ z⟩
 ·obtain ⟨v,z⟩:=I.cell x c e
  exact ⟨v,cellK x c e v z⟩
 ·obtain ⟨m,⟨o,_,_,ho,_⟩,_⟩:=I.loc
  exact free _ o (fun z=>(hch _ z).2.1 rfl) ho I.free
 ·obtain ⟨v,o,ho,hd⟩:=I.cell x c e
  exact free c o (fun z=>(hch c z).2.2.1 x c e rfl) ho (I.freeC x c e)
 ·obtain ⟨e,n,ne,nf,d⟩:=I.pin p hp
  have nch:p.1 ∉ ch:=fun z=>(hch p.1 z).2.2.2 p hp rfl
  exact ⟨keep p.1 p.2 ne nf nch e n,free p.1 p.2 nch e n,ne,nf,d⟩
theorem Inv.un {t':Nat} (I:Inv X pins σ H s) (u:Un X.fs [] H H' s.heap h') (hok:HOk X.prog X.w H' h'):Inv X pins σ H' { s with heap:=h',toks:=t' }:=by
 obtain ⟨m,⟨o,es,ep,ho,r⟩,_⟩:=id I.loc
 obtain ⟨sl,hL⟩:=u.any ho I.free (by simp)
 exact I.step (g':=s.gens) (d':=s.drawn) (ch:=[]) (fun _ z=>nomatch z) (fun b o _ hb _ e n=>u.keep b o e n hb (by simp)) (fun b o _ hb _ e n=>u.slot b o e n hb (by simp)) (fun b o _ e n=>u.free b o e n (by simp)) (fun b o _ e=>u.there b o e (by simp)) u.tups u.frzs u.tbls (fun m' hm=>by
   obtain ⟨o',es',ep',ho',r'⟩:=hm
   rw [ho] at ho'; cases ho'
   exact ⟨_,es',ep',hL,r'⟩) hok I.bare
theorem Inv.call {g':Array GenState} {t':Nat} {d':Drawn} {ch:List Addr} (I:Inv X pins σ H s) (u:Un (frs X.stack) ch H H' s.heap h') (hok:HOk X.prog X.w H' h') (hg:AllBare g')
  (hch:∀ b ∈ ch,(b ∈ X.ex \/ X.s₀.heap.objs.size <= b) /\ b ≠ X.env.locals /\ (∀ x c,X.env.cells.lookup x = some c -> c ≠ b) /\ ∀ p ∈ X.pn ++ pins,p.1 ≠ b) :
  Inv X pins σ H' { s with heap:=h',gens:=g',drawn:=d',toks:=t' }:=by
 obtain ⟨m,⟨o,es,ep,ho,r⟩,_⟩:=id I.loc
 obtain ⟨sl,hL⟩:=u.any ho I.free fun z=>(hch _ z).2.1 rfl
 exact I.step (ch:=ch) hch (fun b o hL hb hc e n=>u.keep b o e n (fun z=>(List.mem_cons.mp (I.stkSub b z)).elim hL hb) hc) (fun b o _ _ hc e n=>u.any e n hc) (fun b o hc e n=>u.free b o e n hc) (fun b o hc e=>u.there b o e hc) u.tups u.frzs u.tbls (fun m' hm=>by
   obtain ⟨o',es',ep',ho',r'⟩:=hm
   rw [ho] at ho'; cases ho'
   exact ⟨_,es',ep',hL,r'⟩) hok hg
theorem Inv.turned {t':Nat} {it:Addr} (I:Inv X pins σ H s) (k:∀ b o,b ≠ it -> s.heap.get? b = some o -> h'.get? b = some o) (hn:H it = none) (hL:it ≠ X.env.locals)
  (h1:it ∈ X.ex \/ X.s₀.heap.objs.size <= it) (h2:∀ x c,X.env.cells.lookup x = some c -> c ≠ it) (h3:∀ p ∈ X.pn ++ pins,p.1 ≠ it):Inv X pins σ H { s with heap:=h',toks:=t' }:=by
 have nit:∀ b u,H b = some u -> b ≠ it:=fun b u e z=>by rw [z,hn] at e; cases e
 refine I.step (g':=s.gens) (d':=s.drawn) (ch:=[it]) (fun b hb=>?_) (fun b o _ _ hc e _=>k b o (fun z=>hc (by simp [z])) e) (fun b o _ _ hc e _=>⟨o.slots,k b o (fun z=>hc (by simp [z])) e⟩) (fun _ _ _ _ n=>n)
  (fun b o hc e=>⟨o,k b o (fun z=>hc (by simp [z])) e⟩) (fun _ _ e=>e) (fun _ _ _ e=>e) (fun b ps e=>⟨#[],by rw [e]; simp⟩) (fun m hm=>?_) (fun b u e=>?_) I.bare
 ·have e:b = it:=by simpa using hb
  subst e
  exact ⟨h1,hL,h2,h3⟩
 ·obtain ⟨o,es,ep,ho,r⟩:=hm
  exact ⟨o,es,ep,k _ o (Ne.symm hL) ho,r⟩
 ·refine (I.hok b u e).stay (fun c v hc q=>k c v ?_ q) (fun _ q=>q) fun _ _ q=>q
  rcases hc with z | z
  ·rw [z]; exact nit b u e
  ·exact nit c _ z
theorem Inv.tok (I:Inv X pins σ H s) (t:Nat):Inv X pins σ H { s with toks:=t }:=I.un (h':=s.heap) (t':=t) Un.refl I.hok
theorem Inv.kept {t':Nat} (I:Inv X pins σ H s) (k:∀ b u,s.heap.get? b = some u -> h'.get? b = some u):Inv X pins σ H { s with heap:=h',toks:=t' }:=I.un (Un.kept k) (I.hok.kept k)
theorem Inv.laid {a:Addr} {o:HO} {t':Nat} (I:Inv X pins σ H s) (k:∀ b u,s.heap.get? b = some u -> h'.get? b = some u) (hp:s.heap.objs.size <= a) (new:ObjOk X.prog X.w (upd H a o) h' a o) :
  Inv X pins σ (upd H a o) { s with heap:=h',toks:=t' }:=I.un (Un.laid k hp (I.hok.fresh hp)) (I.hok.laid k hp new)
theorem Inv.write {x e:Addr} {o:HO} {t':Nat} (I:Inv X pins σ H s) (mu:Mut (H x)) (he:e = x \/ H e = some (.own x)) (k:∀ b u,b ≠ e -> s.heap.get? b = some u -> h'.get? b = some u) (heo:∃ u,h'.get? e = some u)
  (new:ObjOk X.prog X.w (upd H x o) h' x o):Inv X pins σ (upd H x o) { s with heap:=h',toks:=t' }:=I.un (Un.write mu he k heo) (I.hok.write mu he k heo new)
theorem Inv.pins_of {pins':List (Addr × Obj)} (I:Inv X pins σ H s) (h:∀ p ∈ pins',s.heap.get? p.1 = some p.2 /\ H p.1 = none /\ p.1 ≠ X.env.locals /\ p.1 ∉ X.fs /\ ∀ v,p.2.data ≠ .cell v):Inv X pins' σ H s :=
 ⟨I.ok,I.os,I.bare,I.base,I.loc,I.cell,I.free,I.freeC,fun p hp=>(List.mem_append.mp hp).elim (fun z=>I.pin p (List.mem_append_left _ z)) (h p),I.hok,I.len⟩
theorem nodup_ix {N:List Str} (hN:N.Nodup) {i j:Nat} {x:Str} (a:N[i]? = some x) (b:N[j]? = some x):i = j:=by
 obtain ⟨h1,e1⟩:=List.getElem?_eq_some_iff.mp a
 obtain ⟨h2,e2⟩:=List.getElem?_eq_some_iff.mp b
 exact (List.getElem_inj hN).mp (e1.trans e2.symm)
theorem store_ok2 {M:Model} {A:Around} {E:Value -> Shared -> Prop} {i:Nat} {x:Str} {v:V} {u:Value} {Q:Unit -> Shared -> Prop} (I:Inv X pins σ H s) (hN:X.N.Nodup) (hi:X.N[i]? = some x) (hx:Loc X.env.scope x) (r:RelV v u)
  (h:∀ s',Inv X pins (σ.set i (some v)) H s' -> (∃ a,Heap.SameBut a s.heap s'.heap /\ (a = X.env.locals \/ X.env.cells.lookup x = some a)) -> Q () s') (hf:X.fn x = true \/ X.env.scope.names.lookup x = some .local:=by first | exact .inl rfl | exact .inr rfl | assumption):wpAny M A (storeName X.env x u) Q E s:=by
 obtain ⟨m,hn,hl⟩:=id I.loc
 have hcls:(X.env.scope.kind == .class || (X.env.scope.kind == .module && X.env.locals != X.env.globals)) = false:=by rw [I.ok.kind]; rfl
 have hiσ:i < σ.length:=by rw [I.len]; exact (List.getElem?_eq_some_iff.mp hi).1
 have cne:=I.cne
 have tracked:∀ {a:Addr} {h':Heap},(∃ o,s.heap.get? a = some o /\ H a = none) -> Heap.SameBut a s.heap h' -> HOk X.prog X.w H h':=fun {a h'} ha hs b ob e=>by
  obtain ⟨_,_,hfree⟩:=ha
  refine (I.hok b ob e).stay (fun c w' hc q=>(hs.2 c ?_).trans q) (fun _ q=>q) fun _ _ q=>q
  rintro rfl
  rcases hc with rfl | hc
  ·rw [hfree] at e; cases e
  ·rw [hfree] at hc; cases hc
 rcases hx with hk | hk
 ·refine wpAny_storeName_local hk hn (fun h' hn' hs=>?_) hcls
  obtain ⟨oL,_,_,hoL,_⟩:=id hn
  refine h _ ⟨I.ok,I.os,I.bare,⟨fun b o e n hb hx=>?_,fun b o e n hb hx=>?_,I.base.free,fun b o e hx=>?_,I.base.tups,I.base.frzs,I.base.tbls⟩,⟨_,hn',fun j y v' e1 e2 e3=>?_⟩,fun y c e=>?_,I.free,I.freeC,fun p hp=>?_,tracked ⟨oL,hoL,I.free⟩ hs,by simpa using I.len⟩ ⟨_,hs,.inl rfl⟩
  ·exact (hs.2 b (Nat.ne_of_lt (Nat.lt_of_lt_of_le (Heap.lt_size e) I.ok.above))).trans (I.base.keep b o e n hb hx)
  ·obtain ⟨sl,e1⟩:=I.base.slot b o e n hb hx
   exact ⟨sl,(hs.2 b (Nat.ne_of_lt (Nat.lt_of_lt_of_le (Heap.lt_size e) I.ok.above))).trans e1⟩
  ·obtain ⟨o',e1⟩:=I.base.there b o e hx
   exact ⟨o',(hs.2 b (Nat.ne_of_lt (Nat.lt_of_lt_of_le (Heap.lt_size e) I.ok.above))).trans e1⟩
  ·by_cases hj:j = i
   ·subst hj
    rw [hi] at e1; cases e1
    rw [List.getElem?_set_self hiσ] at e2
    cases e2
    exact ⟨u,r,.inl ⟨hk,by simp⟩⟩
   ·rw [List.getElem?_set_ne (Ne.symm hj)] at e2
    obtain ⟨u',r',q⟩:=hl j y v' e1 e2 e3
    refine ⟨u',r',?_⟩
    rcases q with ⟨k,e⟩ | ⟨k,c,e,z⟩
    ·refine .inl ⟨k,?_⟩
     have:y ≠ x:=fun e=>hj (nodup_ix hN e1 (e ▸ hi))
     simp [this,e]
    ·exact .inr ⟨k,c,e,z.sameBut hs (cne y c e)⟩
  ·obtain ⟨w',z⟩:=I.cell y c e
   exact ⟨w',z.sameBut hs (cne y c e)⟩
  ·obtain ⟨e,n,ne,nf,d⟩:=I.pin p hp
   exact ⟨(hs.2 p.1 ne).trans e,n,ne,nf,d⟩
 ·have hfn:X.fn x = true:=by
   rcases hf with z | z
   ·exact z
   ·rw [z] at hk; cases hk
  obtain ⟨c,hc⟩:=I.ok.has x (.inl hk)
  obtain ⟨w',z⟩:=I.cell x c hc
  refine wpAny_storeName_cell I.ok.kind hk hc z (fun h' hc' hs=>?_)
  obtain ⟨oc,hoc,hocd⟩:=id z
  refine h { s with heap:=h' } ⟨I.ok,I.os,I.bare,⟨fun b o e n hb hx=>?_,fun b o e n hb hx=>?_,I.base.free,fun b o e hx=>?_,I.base.tups,I.base.frzs,I.base.tbls⟩,⟨m,hn.sameBut hs (Ne.symm (cne x c hc)),fun j y v' e1 e2 e3=>?_⟩,fun y c' e=>?_,I.free,I.freeC,fun p hp=>?_,tracked ⟨oc,hoc,I.freeC x c hc⟩ hs,by simpa using I.len⟩ ⟨c,hs,.inr hc⟩
  ·exact (hs.2 b (Nat.ne_of_lt (Nat.lt_of_lt_of_le (Heap.lt_size e) (I.ok.cab x c hfn hc)))).trans (I.base.keep b o e n hb hx)
  ·obtain ⟨sl,e1⟩:=I.base.slot b o e n hb hx
   exact ⟨sl,(hs.2 b (Nat.ne_of_lt (Nat.lt_of_lt_of_le (Heap.lt_size e) (I.ok.cab x c hfn hc)))).trans e1⟩
  ·obtain ⟨o',e1⟩:=I.base.there b o e hx
   exact ⟨o',(hs.2 b (Nat.ne_of_lt (Nat.lt_of_lt_of_le (Heap.lt_size e) (I.ok.cab x c hfn hc)))).trans e1⟩
  ·by_cases hj:j = i
   ·subst hj
    rw [hi] at e1; cases e1
    rw [List.getElem?_set_self hiσ] at e2
    cases e2
    exact ⟨u,r,.inr ⟨.inl hk,c,hc,hc'⟩⟩
   ·rw [List.getElem?_set_ne (Ne.symm hj)] at e2
    obtain ⟨u',r',q⟩:=hl j y v' e1 e2 e3
    refine ⟨u',r',?_⟩
    rcases q with q | ⟨k,c',e,z'⟩
    ·exact .inl q
    ·refine .inr ⟨k,c',e,z'.sameBut hs ?_⟩
     rintro rfl
     exact hj (nodup_ix hN e1 (I.ok.inj _ _ _ e hc ▸ hi))
  ·by_cases hcc:c' = c
   ·subst hcc; exact ⟨_,hc'⟩
   ·obtain ⟨w2,z2⟩:=I.cell y c' e
    exact ⟨w2,z2.sameBut hs hcc⟩
  ·obtain ⟨e,n,ne,nf,d⟩:=I.pin p hp
   refine ⟨(hs.2 p.1 ?_).trans e,n,ne,nf,d⟩
   intro q
   rw [q,hoc] at e
   have q':oc = p.2:=Option.some.inj e
   exact d w' (by rw [<- q']; exact hocd)
theorem store_ok {M:Model} {A:Around} {E:Value -> Shared -> Prop} {i:Nat} {x:Str} {v:V} {u:Value} {Q:Unit -> Shared -> Prop} (I:Inv X pins σ H s) (hN:X.N.Nodup) (hi:X.N[i]? = some x) (hx:Loc X.env.scope x) (r:RelV v u)
  (h:∀ s',Inv X pins (σ.set i (some v)) H s' -> Q () s') (hf:X.fn x = true \/ X.env.scope.names.lookup x = some .local:=by first | exact .inl rfl | exact .inr rfl | assumption):wpAny M A (storeName X.env x u) Q E s :=
 store_ok2 I hN hi hx r (fun s' I' _=>h s' I') hf
theorem Inv.call' {s':Shared} {ch:List Addr} (I:Inv X pins σ H s) (ho:s'.os = s.os) (u:Un (frs X.stack) ch H H' s.heap s'.heap) (hok:HOk X.prog X.w H' s'.heap) (hg:AllBare s'.gens)
  (hch:∀ b ∈ ch,(b ∈ X.ex \/ X.s₀.heap.objs.size <= b) /\ b ≠ X.env.locals /\ (∀ x c,X.env.cells.lookup x = some c -> c ≠ b) /\ ∀ p ∈ X.pn ++ pins,p.1 ≠ b):Inv X pins σ H' s':=by
 obtain ⟨h',g',d',t',o'⟩:=s'
 have e:o' = s.os:=ho
 subst e
 exact I.call (g':=g') (t':=t') (d':=d') u hok hg hch
end
noncomputable abbrev XK:=Value -> Option Addr -> Hp -> Prop
noncomputable abbrev St:=List (Option V)
noncomputable abbrev VK:=V -> Hp -> Prop
noncomputable abbrev TE:=St -> Hp -> VK -> Prop
noncomputable abbrev TT:=St -> Hp -> (Bool -> Hp -> Prop) -> Prop
noncomputable abbrev TA:=St -> Hp -> (List V -> Hp -> Prop) -> Prop
structure Ends where
 nx:St -> Hp -> Prop
 rt:VK
 bk:St -> Hp -> Prop:=fun _ _=>False
 ct:St -> Hp -> Prop:=fun _ _=>False
noncomputable abbrev TS:=Ends -> St -> Hp -> Prop
noncomputable def EP (X:Cx) (pins:List (Addr × Obj)) (σ:St) (Q:VK) (u:Value) (s':Shared):Prop:=∃ v H',Inv X pins σ H' s' /\ RelV v u /\ Q v H'
noncomputable def TP (X:Cx) (pins:List (Addr × Obj)) (σ:St) (Q:Bool -> Hp -> Prop) (b:Bool) (s':Shared):Prop:=∃ H',Inv X pins σ H' s' /\ Q b H'
noncomputable def AP (X:Cx) (pins:List (Addr × Obj)) (σ:St) (Q:List V -> Hp -> Prop) (us:List Value) (s':Shared):Prop:=∃ vs H',Inv X pins σ H' s' /\ Vals vs us /\ Q vs H'
noncomputable def SP (X:Cx) (pins:List (Addr × Obj)) (D:Ends) (f:Flow) (s':Shared):Prop :=
 match f with
 | .next=>∃ σ' H',Inv X pins σ' H' s' /\ D.nx σ' H'
 | .brk=>∃ σ' H',Inv X pins σ' H' s' /\ D.bk σ' H'
 | .cont=>∃ σ' H',Inv X pins σ' H' s' /\ D.ct σ' H'
 | .ret u=>∃ v σ' H',Inv X pins σ' H' s' /\ RelV v u /\ D.rt v H'
noncomputable def PE (X:Cx) (e:Expr) (t:TE):Prop :=
 ∀ (pins:List (Addr × Obj)) (s:Shared) (σ:St) (H:Hp) (Q:VK),Inv X pins σ H s -> t σ H Q -> wpAny (model X.prog X.w) X.A (eval e X.env) (EP X pins σ Q) X.xe s
noncomputable def PT (X:Cx) (e:Expr) (t:TT):Prop :=
 ∀ (pins:List (Addr × Obj)) (s:Shared) (σ:St) (H:Hp) (Q:Bool -> Hp -> Prop),Inv X pins σ H s -> t σ H Q -> wpAny (model X.prog X.w) X.A (isTrue e X.env (eval e X.env)) (TP X pins σ Q) X.xe s
noncomputable def PW (X:Cx) (e:Expr) (t:TT):Prop :=
 ∀ (whole:Sem Value) (pins:List (Addr × Obj)) (s:Shared) (σ:St) (H:Hp) (Q:Bool -> Hp -> Prop),Inv X pins σ H s -> t σ H Q -> wpAny (model X.prog X.w) X.A (isTrue e X.env whole) (TP X pins σ Q) X.xe s
theorem PW.pt {X:Cx} {e:Expr} {t:TT} (h:PW X e t):PT X e t:=h _
noncomputable def PA (X:Cx) (es:List Expr) (t:TA):Prop :=
 ∀ (pos:Pos) (pins:List (Addr × Obj)) (s:Shared) (σ:St) (H:Hp) (Q:List V -> Hp -> Prop),Inv X pins σ H s -> t σ H Q -> wpAny (model X.prog X.w) X.A (spliced (backTo pos (starEach es X.env))) (AP X pins σ Q) X.xe s
noncomputable def PS (X:Cx) (st:Stmt) (t:TS):Prop :=
 ∀ (pins:List (Addr × Obj)) (s:Shared) (σ:St) (H:Hp) (D:Ends),Inv X pins σ H s -> t D σ H -> wpAny (model X.prog X.w) X.A (exec st X.env) (SP X pins D) X.xe s
noncomputable def PSs (X:Cx) (st:List Stmt) (t:TS):Prop :=
 ∀ (pins:List (Addr × Obj)) (s:Shared) (σ:St) (H:Hp) (D:Ends),Inv X pins σ H s -> t D σ H -> wpAny (model X.prog X.w) X.A (execs st X.env) (SP X pins D) X.xe s
theorem thn {α:Type} {t:Sem α} {Q Q':α -> Shared -> Prop} {M:Model} {A:Around} {E:Value -> Shared -> Prop} {s:Shared} (h:wpAny M A t Q E s) (hQ:∀ a s,Q a s -> Q' a s):wpAny M A t Q' E s:=wpAny_mono h hQ fun _ _ x=>x
end L2
namespace L2
open PySem PySem.Spec PyProof.Rows
section
variable {X:Cx}
noncomputable def tVar (i:Nat):TE:=fun σ H Q=>∃ v,σ[i]? = some (some v) /\ Q v H
noncomputable def tC (v:V):TE:=fun _ H Q=>Q v H
theorem pe_var {i:Nat} {x:Str} {pos:Pos} (hN:X.N[i]? = some x) (hv:Vis X.env.scope x) (hd:(x == ("__debug__":Str)) = false:=by decide) (hcd:(x == ("__classdict__":Str)) = false:=by decide):PE X (.Name x pos) (tVar i):=by
 intro pins s σ H Q I h
 obtain ⟨v,e,h⟩:=h
 obtain ⟨m,hn,hl⟩:=I.loc
 obtain ⟨u,r,l⟩:=hl i x v hN e hv
 have fin:EP X pins σ Q u s:=⟨v,H,I,r,h⟩
 rcases l with ⟨hk,hm⟩ | ⟨hk,c,hc,hcell⟩
 ·exact wpAny_Name (wpAny_loadName_local I.ok.kind hk hn hm fin) hd
 ·rcases hk with hk | hk
  ·exact wpAny_Name (wpAny_loadName_cell I.ok.kind hk hc hcell fin) hd
  ·exact wpAny_Name (wpAny_loadName_free I.ok.kind hk hc hcell fin hcd) hd
theorem pe_int {i j pos}:PE X (.Constant (.int i) j pos) (tC (.int i)):=fun _ _ _ H _ I h=>wpAny_Constant_int ⟨.int i,H,I.tok _,⟨_,rfl⟩,h⟩
theorem pe_bl {b j pos}:PE X (.Constant (.bool b) j pos) (tC (.bl b)):=fun _ _ _ H _ I h=>Constant_bool ⟨.bl b,H,I,rfl,h⟩
theorem pe_non {j pos}:PE X (.Constant .none j pos) (tC .non):=fun _ _ _ H _ I h=>Constant_none ⟨.non,H,I,rfl,h⟩
theorem pe_str {x j pos}:PE X (.Constant (.str x) j pos) (tC (.str x)):=fun _ _ _ H _ I h=>Calls.Constant_str ⟨.str x,H,I.tok _,⟨_,rfl⟩,h⟩
noncomputable def Gl (X:Cx) (x:Str):Prop:=X.env.kindOf x = some .globalImplicit
theorem ld_glob {E:Value -> Shared -> Prop} {pins:List (Addr × Obj)} {s:Shared} {σ:St} {H:Hp} {x:Str} {u:Value} {pos:Pos} {Q:Value -> Shared -> Prop} (I:Inv X pins σ H s) (hg:Gl X x) (hm:X.mg x = some u) (h:Q u s)
  (hd:(x == ("__debug__":Str)) = false:=by decide):wpAny (model X.prog X.w) X.A (eval (.Name x pos) X.env) Q E s :=
 Calls.Name_function_global I.ok.kind hg (Calls.loadGlobal_global (by rw [I.ok.glob]; exact I.mod.glob.keeps I.bk) hm h) hd
theorem ld_blt {E:Value -> Shared -> Prop} {pins:List (Addr × Obj)} {s:Shared} {σ:St} {H:Hp} {x:Str} {u:Value} {pos:Pos} {Q:Value -> Shared -> Prop} (I:Inv X pins σ H s) (hg:Gl X x) (hm:X.mg x = none) (hv:bootBuiltins x = some u) (h:Q u s)
  (hn:x ≠ "__name__":=by decide) (hd:(x == ("__debug__":Str)) = false:=by decide):wpAny (model X.prog X.w) X.A (eval (.Name x pos) X.env) Q E s:=by
 obtain ⟨mb,h1,h2⟩:=I.mod.blt
 exact Calls.Name_function_global I.ok.kind hg (Calls.loadGlobal_builtin (by rw [I.ok.glob]; exact I.mod.glob.keeps I.bk) hm (by rw [I.ok.blt]; exact h1.keeps I.bk) ((h2 x hn).trans hv) h) hd
theorem pe_glob {x:Str} {v:V} {u:Value} {pos:Pos} (hg:Gl X x) (hm:X.mg x = some u) (r:RelV v u) (hd:(x == ("__debug__":Str)) = false:=by decide):PE X (.Name x pos) (tC v) :=
 fun _ _ _ H _ I h=>ld_glob I hg hm ⟨v,H,I,r,h⟩ hd
theorem pe_bltn {x:Str} {v:V} {u:Value} {pos:Pos} (hg:Gl X x) (hm:X.mg x = none) (hv:bootBuiltins x = some u) (r:RelV v u) (hn:x ≠ "__name__":=by decide) (hd:(x == ("__debug__":Str)) = false:=by decide):PE X (.Name x pos) (tC v) :=
 fun _ _ _ H _ I h=>ld_blt I hg hm hv ⟨v,H,I,r,h⟩ hn hd
variable {a b:Expr} {ta tb:TE} {pos:Pos}
noncomputable def tB (t:TE):TT:=fun σ H Q=>t σ H fun x H1=>∃ c,x = .bl c /\ Q c H1
theorem pt_val {e:Expr} {t:TE} (h:PE X e t) (he:∀ whole,isTrue e X.env whole = (do let v <- whole; standAt e.pos; holding [v] (truthy v)):=by intro _; rfl):PT X e (tB t):=by
 intro pins s σ H Q I hw
 refine isTrue_plain (thn (h pins s σ H _ I hw) fun v s1 ⟨x,H1,I1,r1,q1⟩=>?_) (he _)
 obtain ⟨d,rfl,q⟩:=q1
 cases r1
 exact wpAny_truthy_bool ⟨H1,I1,q⟩
variable {tA tB':TT} {rest:List Expr}
noncomputable def tAnd (t u:TT):TT:=fun σ H Q=>t σ H fun c H1=>if c = true then u σ H1 Q else Q false H1
noncomputable def tOr (t u:TT):TT:=fun σ H Q=>t σ H fun c H1=>if c = true then Q true H1 else u σ H1 Q
noncomputable def tNot (t:TT):TT:=fun σ H Q=>t σ H fun c H1=>Q (!c) H1
theorem pw_and1 (ha:PT X a tA):PW X (.BoolOp .And [a] pos) tA:=by
 intro wh pins s σ H Q I h
 refine isTrue_and (thn (ha pins s σ H Q I h) fun c s1 e=>?_)
 cases c with
 | true=>exact isTrue_and_nil e
 | false=>exact e
theorem pw_or1 (ha:PT X a tA):PW X (.BoolOp .Or [a] pos) tA:=by
 intro wh pins s σ H Q I h
 refine isTrue_or (thn (ha pins s σ H Q I h) fun c s1 e=>?_)
 cases c with
 | false=>exact isTrue_or_nil e
 | true=>exact e
theorem pw_and (ha:PT X a tA) (hb:PW X (.BoolOp .And (b :: rest) pos) tB'):PW X (.BoolOp .And (a :: b :: rest) pos) (tAnd tA tB'):=by
 intro wh pins s σ H Q I h
 refine isTrue_and (thn (ha pins s σ H _ I h) fun c s1 ⟨H1,I1,q1⟩=>?_)
 cases c with
 | true=>exact hb wh pins s1 σ H1 Q I1 q1
 | false=>exact ⟨H1,I1,q1⟩
theorem pw_or (ha:PT X a tA) (hb:PW X (.BoolOp .Or (b :: rest) pos) tB'):PW X (.BoolOp .Or (a :: b :: rest) pos) (tOr tA tB'):=by
 intro wh pins s σ H Q I h
 refine isTrue_or (thn (ha pins s σ H _ I h) fun c s1 ⟨H1,I1,q1⟩=>?_)
 cases c with
 | true=>exact ⟨H1,I1,q1⟩
 | false=>exact hb wh pins s1 σ H1 Q I1 q1
theorem pt_not (ha:PT X a tA):PT X (.UnaryOp .Not a pos) (tNot tA):=by
 intro pins s σ H Q I h
 exact isTrue_not (ha pins s σ H (fun c H1=>Q (!c) H1) I h)
noncomputable def tAndV (ta tb:TE):TE:=fun σ H Q=>ta σ H fun x H1=>∃ c,x = .bl c /\ if c = true then tb σ H1 Q else Q (.bl false) H1
noncomputable def tOrV (ta tb:TE):TE:=fun σ H Q=>ta σ H fun x H1=>∃ c,x = .bl c /\ if c = true then Q (.bl true) H1 else tb σ H1 Q
noncomputable def tNotV (ta:TE):TE:=fun σ H Q=>ta σ H fun x H1=>∃ c,x = .bl c /\ Q (.bl (!c)) H1
theorem pe_one {op} {t:TE} (h:PE X a t):PE X (.BoolOp op [a] pos) t:=fun pins s σ H Q I hw=>BoolOp_one (h pins s σ H Q I hw)
theorem pe_and (ha:PE X a ta) (hb:PE X (.BoolOp .And (b :: rest) pos) tb):PE X (.BoolOp .And (a :: b :: rest) pos) (tAndV ta tb):=by
 intro pins s σ H Q I h
 refine BoolOp_and (thn (ha pins s σ H _ I h) fun v s1 ⟨x,H1,I1,r1,q1⟩=>?_)
 obtain ⟨c,rfl,q1⟩:=q1
 cases r1
 refine wpAny_truthy_bool ?_
 cases c with
 | true=>exact hb pins s1 σ H1 Q I1 q1
 | false=>exact ⟨.bl false,H1,I1,rfl,q1⟩
theorem pe_or (ha:PE X a ta) (hb:PE X (.BoolOp .Or (b :: rest) pos) tb):PE X (.BoolOp .Or (a :: b :: rest) pos) (tOrV ta tb):=by
 intro pins s σ H Q I h
 refine BoolOp_or (thn (ha pins s σ H _ I h) fun v s1 ⟨x,H1,I1,r1,q1⟩=>?_)
 obtain ⟨c,rfl,q1⟩:=q1
 cases r1
 refine wpAny_truthy_bool ?_
 cases c with
 | false=>exact hb pins s1 σ H1 Q I1 q1
 | true=>exact ⟨.bl true,H1,I1,rfl,q1⟩
theorem pe_not (ha:PE X a ta):PE X (.UnaryOp .Not a pos) (tNotV ta):=by
 intro pins s σ H Q I h
 refine UnaryOp_ (thn (ha pins s σ H _ I h) fun v s1 ⟨x,H1,I1,r1,q1⟩=>?_)
 obtain ⟨c,rfl,q1⟩:=q1
 cases r1
 exact not_of (wpAny_truthy_bool ⟨.bl (!c),H1,I1,rfl,q1⟩)
end
end L2
namespace L2
open PySem PySem.Spec PyProof.Rows
noncomputable def SqL (K:PySem.W.Frag) (H:Hp) (a:Addr) (xs:List V):Prop :=
 Rd H a (.lst xs) \/
  ∃ (o:Obj) (its:Array Value) (n:Nat),K.lookup a = some o /\ o.cls = .type "list" /\ o.dict = none /\ o.data = .seq its n /\ its.size <= sizeLine /\ Vals xs its.toList
noncomputable def SqT (K:PySem.W.Frag) (H:Hp) (a:Addr) (xs:List V):Prop :=
 Rd H a (.tup xs) \/
  ∃ (o:Obj) (its:Array Value) (n:Nat),K.lookup a = some o /\ o.cls = .type "tuple" /\ o.data = .seq its n /\ its.size <= sizeLine /\ Vals xs its.toList
noncomputable def absV:Value -> Option V
 | .none=>some .non
 | .bool b=>some (.bl b)
 | .int i _=>some (.int i)
 | .str x _=>some (.str x)
 | .bytes b _=>some (.byt b)
 | .float b _=>some (.flt b)
 | .ref a=>some (.ref a)
 | .type n=>some (.ty n)
 | _=>none
theorem RelV.abs {x:V} {u:Value} (r:RelV x u):absV u = some x:=by
 cases x with
 | non=>cases r; rfl
 | bl _=>cases r; rfl
 | int _=>obtain ⟨t,rfl⟩:=r; rfl
 | str _=>obtain ⟨t,rfl⟩:=r; rfl
 | byt _=>obtain ⟨t,rfl⟩:=r; rfl
 | flt _=>obtain ⟨t,rfl⟩:=r; rfl
 | ref _=>cases r; rfl
 | ty _=>cases r; rfl
theorem RelV.inj {x y:V} {u:Value} (r:RelV x u) (q:RelV y u):x = y:=Option.some.inj (r.abs.symm.trans q.abs)
theorem Vals.inj:∀ {xs ys:List V} {us:List Value},Vals xs us -> Vals ys us -> xs = ys
 | _,_,_,.nil,.nil=>rfl
 | _,_,_,.cons r t,.cons r' t'=>by rw [r.inj r',Vals.inj t t']
section
variable {X:Cx} {pins:List (Addr × Obj)} {σ:St} {H:Hp} {s:Shared} {a:Addr} {xs ys:List V}
theorem SqL.of {K:PySem.W.Frag} (h:H a = some (.lst xs)):SqL K H a xs:=.inl (.inl h)
theorem SqT.of {K:PySem.W.Frag} (h:H a = some (.tup xs)):SqT K H a xs:=.inl (.inl h)
theorem Inv.list (I:Inv X pins σ H s) (h:SqL X.K H a xs):∃ its:List Value,Vals xs its /\ PlainL s.heap a its.toArray /\ xs.length <= sizeLine:=by
 rcases h with h | ⟨o,its,n,hk,hc,hd,hs,hz,r⟩
 ·obtain ⟨z,its,n,r,e⟩:=h.ok I.hok
  exact ⟨its,r,⟨_,n,e,rfl,rfl,rfl⟩,z⟩
 ·refine ⟨its.toList,r,⟨o,n,I.kIn a o hk,hc,hd,by simpa using hs⟩,?_⟩
  have e:=r.length
  simp only [Array.length_toList] at e
  omega
theorem Inv.tuple (I:Inv X pins σ H s) (h:SqT X.K H a xs):∃ its:List Value,Vals xs its /\ IsTup s.heap a its.toArray /\ xs.length <= sizeLine:=by
 rcases h with h | ⟨o,its,n,hk,hc,hs,hz,r⟩
 ·obtain ⟨z,its,r,p⟩:=h.ok I.hok
  exact ⟨its,r,p.t,z⟩
 ·refine ⟨its.toList,r,⟨o,I.kIn a o hk,hc,n,by simpa using hs⟩,?_⟩
  have e:=r.length
  simp only [Array.length_toList] at e
  omega
theorem Inv.list_inj (I:Inv X pins σ H s) (h:SqL X.K H a xs) (h':SqL X.K H a ys):xs = ys:=by
 obtain ⟨its,r,⟨o,n,e,_,_,d⟩,_⟩:=I.list h
 obtain ⟨its',r',⟨o',n',e',_,_,d'⟩,_⟩:=I.list h'
 rw [e] at e'; cases e'
 rw [d] at d'
 injection d' with d1 _
 have:its = its':=by simpa using congrArg Array.toList d1
 subst this
 exact r.inj r'
theorem Inv.tuple_inj (I:Inv X pins σ H s) (h:SqT X.K H a xs) (h':SqT X.K H a ys):xs = ys:=by
 obtain ⟨its,r,⟨o,e,_,n,d⟩,_⟩:=I.tuple h
 obtain ⟨its',r',⟨o',e',_,n',d'⟩,_⟩:=I.tuple h'
 rw [e] at e'; cases e'
 rw [d] at d'
 injection d' with d1 _
 have:its = its':=by simpa using congrArg Array.toList d1
 subst this
 exact r.inj r'
end
noncomputable abbrev Cx.wish (X:Cx) (E:Value -> Shared -> Prop):Cx:={ X with xe:=E }
noncomputable abbrev Cx.nox (X:Cx):Cx:=X.wish fun _ _=>False
theorem Cx.Ok.wish {X:Cx} (ok:X.Ok) (E:Value -> Shared -> Prop):(X.wish E).Ok :=
 ⟨ok.mod,ok.kind,ok.glob,ok.blt,ok.above,ok.inj,ok.has,ok.cab,ok.hd,ok.frames,ok.stk,ok.exf,ok.bs,ok.bsz,ok.noex,ok.exfs,ok.funs,ok.frf⟩
theorem Cx.Ok.unwish {X:Cx} {E:Value -> Shared -> Prop} (ok:(X.wish E).Ok):X.Ok :=
 ⟨ok.mod,ok.kind,ok.glob,ok.blt,ok.above,ok.inj,ok.has,ok.cab,ok.hd,ok.frames,ok.stk,ok.exf,ok.bs,ok.bsz,ok.noex,ok.exfs,ok.funs,ok.frf⟩
section
variable {X:Cx} {pins:List (Addr × Obj)} {σ:St} {H:Hp} {s:Shared} {E:Value -> Shared -> Prop}
theorem Inv.wish (I:Inv X pins σ H s) (E:Value -> Shared -> Prop):Inv (X.wish E) pins σ H s:=⟨I.ok.wish E,I.os,I.bare,I.base,I.loc,I.cell,I.free,I.freeC,I.pin,I.hok,I.len⟩
theorem Inv.unwish (I:Inv (X.wish E) pins σ H s):Inv X pins σ H s:=⟨I.ok.unwish,I.os,I.bare,I.base,I.loc,I.cell,I.free,I.freeC,I.pin,I.hok,I.len⟩
theorem SP.unwish {D:Ends} {f:Flow} {s':Shared} (h:SP (X.wish E) pins D f s'):SP X pins D f s':=by
 cases f with
 | next=>obtain ⟨σ',H',I,q⟩:=h; exact ⟨σ',H',I.unwish,q⟩
 | brk=>obtain ⟨σ',H',I,q⟩:=h; exact ⟨σ',H',I.unwish,q⟩
 | cont=>obtain ⟨σ',H',I,q⟩:=h; exact ⟨σ',H',I.unwish,q⟩
 | ret u=>obtain ⟨v,σ',H',I,r,q⟩:=h; exact ⟨v,σ',H',I.unwish,r,q⟩
theorem PSs.nox {st:List Stmt} {t:TS} (h:PSs X.nox st t):PSs X st t:=fun pins s σ H D I hw =>
 wpAny_mono (h pins s σ H D (I.wish _) hw) (fun _ _ q=>q.unwish) fun _ _ z=>False.elim z
end
section
variable {X:Cx} {st:Stmt} {rest:List Stmt} {t u:TS} {e:Expr} {te:TE} {pos:Pos}
noncomputable def tNext:TS:=fun D σ H=>D.nx σ H
noncomputable def tSeq (t u:TS):TS:=fun D σ H=>t { D with nx:=u D } σ H
theorem pss_nil:PSs X [] tNext:=fun _ _ σ H _ I h=>wpAny_execs_nil ⟨σ,H,I,h⟩
theorem pss_cons (h1:PS X st t) (h2:PSs X rest u):PSs X (st :: rest) (tSeq t u):=by
 intro pins s σ H D I h
 refine wpAny_execs_cons (thn (h1 pins s σ H { D with nx:=u D } I h) fun f s1 q=>?_)
 cases f with
 | next =>
  obtain ⟨σ',H',I',q⟩:=q
  exact h2 pins s1 σ' H' D I' q
 | ret v=>exact q
 | brk=>exact q
 | cont=>exact q
theorem pss_one (h1:PS X st t):PSs X [st] t:=by
 intro pins s σ H D I h
 refine wpAny_execs_cons (thn (h1 pins s σ H D I h) fun f s1 q=>?_)
 cases f with
 | next=>exact wpAny_execs_nil q
 | ret v=>exact q
 | brk=>exact q
 | cont=>exact q
theorem Inv.quiet {pins:List (Addr × Obj)} {σ:St} {H:Hp} {s:Shared} (I:Inv X pins σ H s):interactive X.env = false:=by simp [interactive,I.ok.kind]
noncomputable def tDrop (te:TE):TS:=fun D σ H=>te σ H fun _ H1=>D.nx σ H1
theorem ps_expr (he:PE X e te) (hs:swapsWith e none pos.line X.env = pure false:=by rfl):PS X (.Expr e pos) (tDrop te):=by
 intro pins s σ H D I h
 exact wpAny_Expr_any (thn (he pins s σ H _ I h) fun v s1 ⟨x,H1,I1,r1,q1⟩=>⟨σ,H1,I1,q1⟩) I.quiet hs
noncomputable def tRet (te:TE):TS:=fun D σ H=>te σ H D.rt
theorem ps_ret (he:PE X e te):PS X (.Return (some e) pos) (tRet te):=by
 intro pins s σ H D I h
 exact wpAny_Return_some (thn (he pins s σ H _ I h) fun v s1 ⟨x,H1,I1,r1,q1⟩=>⟨x,σ,H1,I1,r1,q1⟩)
noncomputable def tIfS (c:TT) (t u:TS):TS:=fun D σ H=>c σ H fun b H1=>if b = true then t D σ H1 else u D σ H1
theorem ps_if {c:Expr} {a b:List Stmt} {tc:TT} (hc:PT X c tc) (ha:PSs X a t) (hb:PSs X b u):PS X (.If c a b pos) (tIfS tc t u):=by
 intro pins s σ H D I h
 refine wpAny_If (thn (hc pins s σ H _ I h) fun d s1 ⟨H1,I1,q1⟩=>?_)
 cases d with
 | true=>exact ha pins s1 σ H1 D I1 q1
 | false=>exact hb pins s1 σ H1 D I1 q1
end
noncomputable abbrev TG:=V -> St -> Hp -> (St -> Hp -> Prop) -> Prop
noncomputable abbrev TGs:=List V -> St -> Hp -> (St -> Hp -> Prop) -> Prop
noncomputable def PG (X:Cx) (target:Expr) (t:TG):Prop :=
 ∀ (pins:List (Addr × Obj)) (s:Shared) (σ:St) (H:Hp) (v:V) (u:Value) (Q:St -> Hp -> Prop),Inv X pins σ H s -> RelV v u -> t v σ H Q ->
  wpAny (model X.prog X.w) X.A (assign target X.env u) (fun _ s'=>∃ σ' H',Inv X pins σ' H' s' /\ Q σ' H') X.xe s
noncomputable def PGs (X:Cx) (ts:List Expr) (t:TGs):Prop :=
 ∀ (pins:List (Addr × Obj)) (s:Shared) (σ:St) (H:Hp) (vs:List V) (us:List Value) (Q:St -> Hp -> Prop),Inv X pins σ H s -> Vals vs us -> t vs σ H Q ->
  wpAny (model X.prog X.w) X.A (assignInOrder ((assignEach ts X.env).map (·.2)) us) (fun _ s'=>∃ σ' H',Inv X pins σ' H' s' /\ Q σ' H') X.xe s
noncomputable abbrev TSet:=V -> V -> V -> Hp -> (Hp -> Prop) -> Prop
noncomputable def PSet (X:Cx) (t:TSet):Prop :=
 ∀ (pins:List (Addr × Obj)) (s:Shared) (σ:St) (H:Hp) (o i v:V) (ov iv u:Value) (Q:Hp -> Prop),Inv X pins σ H s -> RelV o ov -> RelV i iv -> RelV v u -> t o i v H Q ->
  wpAny (model X.prog X.w) X.A (setItem ov iv u) (fun _ s'=>∃ H',Inv X pins σ H' s' /\ Q H') X.xe s
section
variable {X:Cx} {pos:Pos}
noncomputable def gName (i:Nat):TG:=fun v σ H Q=>Q (σ.set i (some v)) H
theorem pg_name {i:Nat} {x:Str} (hN:X.N.Nodup) (hi:X.N[i]? = some x) (hx:Loc X.env.scope x) (hf:X.fn x = true \/ X.env.scope.names.lookup x = some .local:=by first | exact .inl rfl | exact .inr rfl | assumption):PG X (.Name x pos) (gName i):=by
 intro pins s σ H v u Q I r h
 exact wpAny_assign_Name (store_ok I hN hi hx r (fun s' I'=>⟨_,H,I',h⟩) hf)
noncomputable def gNil:TGs:=fun vs σ H Q=>vs = [] /\ Q σ H
noncomputable def gCons (t:TG) (u:TGs):TGs:=fun vs σ H Q=>∃ v r,vs = v :: r /\ t v σ H fun σ' H'=>u r σ' H' Q
theorem pgs_nil:PGs X [] gNil:=by
 intro pins s σ H vs us Q I r h
 obtain ⟨e,h⟩:=h
 subst e
 cases r
 exact assignInOrder_nil ⟨σ,H,I,h⟩
theorem pgs_cons {e:Expr} {es:List Expr} {t:TG} {u:TGs} (h1:PG X e t) (h2:PGs X es u)
  (hs:(assignEach (e :: es) X.env).map (·.2) = assign e X.env :: (assignEach es X.env).map (·.2):=by rfl):PGs X (e :: es) (gCons t u):=by
 intro pins s σ H vs us Q I r h
 obtain ⟨v,vr,e1,h⟩:=h
 subst e1
 cases r with
 | cons r rr =>
  rw [hs]
  refine assignInOrder_cons (thn (h1 pins s σ H _ _ _ I r h) fun _ s1 ⟨σ1,H1,I1,q1⟩=>?_)
  exact h2 pins s1 σ1 H1 _ _ Q I1 rr q1
noncomputable def gTup (K:PySem.W.Frag) (n:Nat) (t:TGs):TG:=fun v σ H Q=>∃ a xs,v = .ref a /\ SqT K H a xs /\ xs.length = n /\ t xs σ H Q
theorem pg_tup {es:List Expr} {k:Nat} {t:TGs} {n:Nat} (hc:X.calm = true) (h:PGs X es t)
  (hn:(assignEach es X.env).length = n:=by rfl) (hst:(assignEach es X.env).findIdx? (·.1) = none:=by rfl):PG X (.Tuple es k pos) (gTup X.K n t):=by
 intro pins s σ H v u Q I r hw
 obtain ⟨a,xs,e1,hq,hl,hw⟩:=hw
 subst e1
 cases r
 obtain ⟨its,rv,ht,hz⟩:=I.tuple hq
 refine assign_Tuple_tuple (I.ok.hd hc) ht (by simp [hn,<- hl,rv.length]) hst fun h' hx=>?_
 have I1:Inv X pins σ H { s with heap:=h' }:=I.kept (t':=s.toks) fun b o e=>hx b o (Nat.ne_of_lt (Heap.lt_size e)) e
 exact h pins _ σ H xs _ Q I1 (by simpa using rv) hw
noncomputable def gSub (to ti:TE) (t:TSet):TG:=fun v σ H Q=>to σ H fun o H1=>ti σ H1 fun i H2=>t o i v H2 fun H3=>Q σ H3
theorem pg_sub {o i:Expr} {to ti:TE} {t:TSet} (ho:PE X o to) (hi:PE X i ti) (hs:PSet X t)
  (ha:∀ v,assign (.Subscript o i pos) X.env v = (do
    let ov <- holding [v] (eval o X.env)
    let iv <- holding [v,ov] (eval i X.env)
    standAt pos
    holding [v,ov,iv] (setItem ov iv v)
    release [v,ov,iv] []):=by intro _; rfl):PG X (.Subscript o i pos) (gSub to ti t):=by
 intro pins s σ H v u Q I r h
 rw [ha]
 refine wpAny_bind (wpAny_holding (thn (ho pins s σ H _ I h) fun ov s1 ⟨x,H1,I1,r1,q1⟩=>?_))
 refine wpAny_bind (wpAny_holding (thn (hi pins s1 σ H1 _ I1 q1) fun iv s2 ⟨y,H2,I2,r2,q2⟩=>?_))
 refine wpAny_bind (wpAny_standAt (wpAny_bind (wpAny_holding (thn (hs pins s2 σ H2 x y v ov iv u _ I2 r1 r2 r q2) fun _ s3 ⟨H3,I3,q3⟩=>?_))))
 exact wpAny_release ⟨σ,H3,I3,q3⟩
noncomputable def tAsg (te:TE) (g:TG):TS:=fun D σ H=>te σ H fun x H1=>g x σ H1 D.nx
theorem ps_asg {tg e:Expr} {te:TE} {g:TG} (he:PE X e te) (hg:PG X tg g) (hs:swapsWithSole [tg] e pos.line X.env = pure false:=by rfl) (hw:swappedStores [tg] e X.env = pure none:=by rfl)
  (h1:(assignEach [tg] X.env).map (·.2) = [assign tg X.env]:=by rfl):PS X (.Assign [tg] e pos) (tAsg te g):=by
 intro pins s σ H D I h
 refine wpAny_Assign_stores (thn (he pins s σ H _ I h) fun v s1 ⟨x,H1,I1,r1,q1⟩=>?_) hs hw
 rw [h1]
 exact thn (hg pins s1 σ H1 x v _ I1 r1 q1) fun _ s2 q=>q
theorem ps_set {i:Nat} {x:Str} {e:Expr} {te:TE} {pos':Pos} (hN:X.N.Nodup) (hi:X.N[i]? = some x) (hx:Loc X.env.scope x) (he:PE X e te) (hs:swapsWith e (some (.Name x pos')) pos.line X.env = pure false:=by rfl) (hf:X.fn x = true \/ X.env.scope.names.lookup x = some .local:=by first | exact .inl rfl | exact .inr rfl | assumption) :
  PS X (.Assign [.Name x pos'] e pos) (tAsg te (gName i)):=by
 intro pins s σ H D I h
 refine wpAny_Assign_Name (thn (he pins s σ H _ I h) fun v s1 ⟨y,H1,I1,r1,q1⟩=>?_) hs
 exact store_ok I1 hN hi hx r1 (fun s2 I2=>⟨_,H1,I2,q1⟩) hf
end
section
variable {X:Cx} {pos:Pos}
noncomputable def tWhile (c:TT) (tb:TS):TS:=fun D σ H=>∃ W:Nat -> St -> Hp -> Prop,(∃ m,W m σ H) /\ ∀ m σ H,W m σ H ->
 c σ H fun b H1=>if b = true then ∃ N:St -> Hp -> Prop,(∀ σ' H',N σ' H' -> ∃ m',m' < m /\ W m' σ' H') /\ tb { D with nx:=N,ct:=N,bk:=D.nx } σ H1 else D.nx σ H1
theorem ps_while {c:Expr} {body:List Stmt} {tc:TT} {tb:TS} (hp:PassesOwn (model X.prog X.w) X.A X.env X.xe) (hc:PT X c tc) (hb:PSs X body tb):PS X (.While c body [] pos) (tWhile tc tb):=by
 intro pins s σ H D I h
 obtain ⟨W,⟨m0,w0⟩,turn⟩:=h
 refine wpAny_While (codeAny_whileLoop (fun n s'=>∃ σ' H',Inv X pins σ' H' s' /\ W n σ' H') ?_ m0 ⟨σ,H,I,w0⟩)
 rintro n s1 ⟨σ1,H1,I1,w1⟩
 refine wpAny_passesOwn hp (thn (hc pins s1 σ1 H1 _ I1 (turn n σ1 H1 w1)) fun b s2 ⟨H2,I2,q2⟩=>?_)
 cases b with
 | true =>
  obtain ⟨N,hN,q2⟩:=q2
  rw [if_pos rfl]
  refine wpAny_passesOwn hp (thn (hb pins s2 σ1 H2 _ I2 q2) fun f s3 q3=>?_)
  cases f with
  | next =>
   obtain ⟨σ3,H3,I3,n3⟩:=q3
   obtain ⟨m',hm,w3⟩:=hN σ3 H3 n3
   exact ⟨m',hm,σ3,H3,I3,w3⟩
  | cont =>
   obtain ⟨σ3,H3,I3,n3⟩:=q3
   obtain ⟨m',hm,w3⟩:=hN σ3 H3 n3
   exact ⟨m',hm,σ3,H3,I3,w3⟩
  | brk=>exact q3
  | ret v=>exact q3
 | false =>
  rw [if_neg Bool.false_ne_true]
  exact wpAny_execs_nil ⟨σ1,H2,I2,q2⟩
end
structure It where
 go:Nat -> Hp -> Prop
 yld:Nat -> Hp -> V -> Hp -> Prop
 stop:Nat -> Hp -> Prop
noncomputable def FpOk (X:Cx) (pins:List (Addr × Obj)) (H:Hp) (b:Addr):Prop :=
 H b = none /\ b ≠ X.env.locals /\ b ∉ X.fs /\ (b ∈ X.ex \/ X.s₀.heap.objs.size <= b) /\ (∀ x c,X.env.cells.lookup x = some c -> c ≠ b) /\ ∀ p ∈ X.pn ++ pins,p.1 ≠ b
theorem Inv.fpOk {X:Cx} {pins:List (Addr × Obj)} {σ:St} {H H':Hp} {s:Shared} {b:Addr} (I:Inv X pins σ H s) (hb:s.heap.objs.size <= b) (hn:H' b = none):FpOk X pins H' b:=by
 refine ⟨hn,Nat.ne_of_gt (Nat.lt_of_lt_of_le I.lt hb),I.nofs hb,.inr (Nat.le_trans I.sz hb),fun x c e z=>?_,fun p hp z=>?_⟩
 ·obtain ⟨v,q⟩:=I.cell x c e
  exact absurd (Nat.lt_of_lt_of_le q.lt (by rw [z]; exact hb)) (Nat.lt_irrefl _)
 ·exact absurd (Nat.lt_of_lt_of_le (Heap.lt_size (I.pin p hp).1) (by rw [z]; exact hb)) (Nat.lt_irrefl _)
structure Turn (P:Program) (w:World) (K:PySem.W.Frag) (tg:Expr) (J:It) (fp:List Addr) (it:Addr) (tn:Nat -> Heap -> Prop):Prop where
 mem:it ∈ fp
 obj:∀ i h,tn i h -> ∀ b ∈ fp,∃ o,h.get? b = some o /\ ∀ v,o.data ≠ .cell v
 keep:∀ i h h',tn i h -> (∀ b ∈ fp,∀ o,h.get? b = some o -> h'.get? b = some o) -> tn i h'
 item:∀ (X:Cx),X.prog = P -> X.w = w -> X.K = K -> X.calm = true -> ∀ (i:Nat) (pins:List (Addr × Obj)) (s:Shared) (σ:St) (H:Hp) (E:Value -> Shared -> Prop),Inv X pins σ H s -> (∀ b ∈ fp,FpOk X pins H b) -> tn i s.heap -> J.go i H ->
  wpAny (model P w) X.A (pyNext (.ref it)) (fun r s1=>∃ u,r = some u /\
    wpAny (model P w) X.A (letOwnedTupleGo tg (.ref it) u) (fun _ s2=>∃ x H',Inv X pins σ H' s2 /\ RelV x u /\ J.yld i H x H' /\ tn (i + 1) s2.heap /\ ∀ b ∈ fp,H' b = none) E s1) E s
 done:∀ (X:Cx),X.prog = P -> X.w = w -> X.K = K -> X.calm = true -> ∀ (i:Nat) (pins:List (Addr × Obj)) (s:Shared) (σ:St) (H:Hp) (E:Value -> Shared -> Prop),Inv X pins σ H s -> (∀ b ∈ fp,FpOk X pins H b) -> tn i s.heap -> J.stop i H ->
  wpAny (model P w) X.A (pyNext (.ref it)) (fun r s1=>r = none /\ Inv X pins σ H s1) E s
 self:∀ (A:Around) (i:Nat) (s:Shared) (Q:Value -> Shared -> Prop) (E:Value -> Shared -> Prop),tn i s.heap -> Q (.ref it) s -> wpAny (model P w) A (pyIter (.ref it)) Q E s
noncomputable abbrev TI:=St -> Hp -> (It -> Hp -> Prop) -> Prop
noncomputable def PIE (X:Cx) (pins:List (Addr × Obj)) (σ:St) (tg:Expr) (R:It -> Hp -> Prop) (itv:Value) (s2:Shared):Prop :=
 ∃ (it:Addr) (fp:List Addr) (tn:Nat -> Heap -> Prop) (J:It) (H':Hp),itv = .ref it /\ Inv X pins σ H' s2 /\ Turn X.prog X.w X.K tg J fp it tn /\ tn 0 s2.heap /\ (∀ b ∈ fp,FpOk X pins H' b) /\ R J H'
noncomputable def PI (X:Cx) (tg iter:Expr) (wi:TI):Prop :=
 ∀ (pins:List (Addr × Obj)) (s:Shared) (σ:St) (H:Hp) (R:It -> Hp -> Prop),Inv X pins σ H s -> wi σ H R ->
  wpAny (model X.prog X.w) X.A (eval iter X.env) (fun v s1=>wpAny (model X.prog X.w) X.A (pyIter v) (PIE X pins σ tg R) X.xe s1) X.xe s
theorem go_of {M:Model} {A:Around} {E:Value -> Shared -> Prop} {s:Shared} {tg:Expr} {it:Addr} {u:Value} {o:Obj} {n:String} {vs:Array Value} {Q:Unit -> Shared -> Prop} (ho:s.heap.get? it = some o) (hc:o.cls = .type n) (hd:o.data = .fields vs)
  (hn:["enumerate","zip","dict_itemiterator","dict_reverseitemiterator","odict_iterator","itertools.zip_longest","itertools.pairwise"].contains n = false) (hQ:Q () s):wpAny M A (letOwnedTupleGo tg (.ref it) u) Q E s:=by
 unfold letOwnedTupleGo
 cases tg <;> first
  | exact wpAny_pure hQ
  | (cases u <;> first
      | exact wpAny_pure hQ
      | (refine wpAny_bind (wpAny_load ho ?_)
         rw [hc,hd]
         show wpAny M A (if (["enumerate","zip","dict_itemiterator","dict_reverseitemiterator","odict_iterator","itertools.zip_longest","itertools.pairwise"].contains n && vs[0]? == some (rawInt _)) = true then _ else _) Q E s
         rw [if_neg (by intro h; rw [hn,Bool.false_and] at h; cases h)]
         exact wpAny_pure hQ))
noncomputable def Itl (K:PySem.W.Frag) (a:Addr):It :=
 ⟨fun i H=>∃ xs x,SqL K H a xs /\ xs[i]? = some x,fun i H x H'=>H' = H /\ ∀ xs,SqL K H a xs -> xs[i]? = some x,fun i H=>∃ xs,SqL K H a xs /\ xs.length <= i⟩
noncomputable def Itt (K:PySem.W.Frag) (a:Addr):It :=
 ⟨fun i H=>∃ xs x,SqT K H a xs /\ xs[i]? = some x,fun i H x H'=>H' = H /\ ∀ xs,SqT K H a xs -> xs[i]? = some x,fun i H=>∃ xs,SqT K H a xs /\ xs.length <= i⟩
noncomputable def Itr (lo:Int) (n:Nat):It:=⟨fun i _=>i < n,fun i H x H'=>H' = H /\ x = .int (lo + i),fun i _=>n <= i⟩
theorem turn_list {P:Program} {w:World} {K:PySem.W.Frag} {tg:Expr} (a it:Addr):Turn P w K tg (Itl K a) [it] it (fun i h=>h.IsListIter it a i) where
 mem:=by simp
 obj:=fun i h st b hb=>by
  have e:b = it:=by simpa using hb
  subst e
  obtain ⟨o,e,c,d⟩:=st
  exact ⟨o,e,fun v z=>by rw [d] at z; cases z⟩
 keep:=fun i h h' st k=>st.at fun o e=>k it (by simp) o e
 item:=by
  intro X hP hw hK hc i pins s σ H E I hf st hg
  subst hP hw hK
  obtain ⟨xs,x,hq,hx⟩:=hg
  obtain ⟨its,rv,p,hz⟩:=I.list hq
  obtain ⟨u,hu,ru⟩:=rv.get hx
  obtain ⟨f0,f1,f2,f3,f4,f5⟩:=hf it (by simp)
  refine wpAny_pyNext_list_item st p.isList (x:=u) (by simpa using hu) fun h' st' sb=>?_
  have I1:Inv X pins σ H { s with heap:=h' }:=I.turned (t':=s.toks) (fun b o hb e=>(sb.2 b hb).trans e) f0 f1 f3 f4 f5
  obtain ⟨o,e,c,d⟩:=id st'
  exact ⟨u,rfl,go_of (s:={ s with heap:=h' }) e c d (by decide) ⟨x,H,I1,ru,⟨rfl,fun ys hy=>by rw [I.list_inj hy hq]; exact hx⟩,st',fun b hb=>(hf b hb).1⟩⟩
 done:=by
  intro X hP hw hK hc i pins s σ H E I hf st hg
  subst hP hw hK
  obtain ⟨xs,hq,hx⟩:=hg
  obtain ⟨its,rv,p,hz⟩:=I.list hq
  obtain ⟨f0,f1,f2,f3,f4,f5⟩:=hf it (by simp)
  have hl:=rv.length
  exact wpAny_pyNext_list_end (I.ok.hd hc) st p.isList (by simp; omega) fun h' eb=>⟨rfl,I.turned (t':=s.toks) (fun b o hb e=>eb b o hb e) f0 f1 f3 f4 f5⟩
 self:=fun _ _ _ _ _ st h=>wpAny_pyIter_listiter st h
theorem turn_tuple {P:Program} {w:World} {K:PySem.W.Frag} {tg:Expr} (a it:Addr):Turn P w K tg (Itt K a) [it] it (fun i h=>h.IsTupleIter it a i) where
 mem:=by simp
 obj:=fun i h st b hb=>by
  have e:b = it:=by simpa using hb
  subst e
  obtain ⟨o,e,c,d⟩:=st
  exact ⟨o,e,fun v z=>by rw [d] at z; cases z⟩
 keep:=fun i h h' st k=>st.at fun o e=>k it (by simp) o e
 item:=by
  intro X hP hw hK hc i pins s σ H E I hf st hg
  subst hP hw hK
  obtain ⟨xs,x,hq,hx⟩:=hg
  obtain ⟨its,rv,p,hz⟩:=I.tuple hq
  obtain ⟨u,hu,ru⟩:=rv.get hx
  obtain ⟨f0,f1,f2,f3,f4,f5⟩:=hf it (by simp)
  refine wpAny_pyNext_tuple_item st (show s.heap.IsTuple a its.toArray from p) (x:=u) (by simpa using hu) fun h' st' sb=>?_
  have I1:Inv X pins σ H { s with heap:=h' }:=I.turned (t':=s.toks) (fun b o hb e=>(sb.2 b hb).trans e) f0 f1 f3 f4 f5
  obtain ⟨o,e,c,d⟩:=id st'
  exact ⟨u,rfl,go_of (s:={ s with heap:=h' }) e c d (by decide) ⟨x,H,I1,ru,⟨rfl,fun ys hy=>by rw [I.tuple_inj hy hq]; exact hx⟩,st',fun b hb=>(hf b hb).1⟩⟩
 done:=by
  intro X hP hw hK hc i pins s σ H E I hf st hg
  subst hP hw hK
  obtain ⟨xs,hq,hx⟩:=hg
  obtain ⟨its,rv,p,hz⟩:=I.tuple hq
  obtain ⟨f0,f1,f2,f3,f4,f5⟩:=hf it (by simp)
  have hl:=rv.length
  exact wpAny_pyNext_tuple_end (I.ok.hd hc) st (show s.heap.IsTuple a its.toArray from p) (by simp; omega) fun h' eb=>⟨rfl,I.turned (t':=s.toks) (fun b o hb e=>eb b o hb e) f0 f1 f3 f4 f5⟩
 self:=fun _ _ _ _ _ st h=>wpAny_pyIter_tupleiter st h
theorem turn_range {P:Program} {w:World} {K:PySem.W.Frag} {tg:Expr} (it:Addr) (lo:Int) (n:Nat):Turn P w K tg (Itr lo n) [it] it (fun i h=>IsRangeIter h it (lo + (i:Nat) * 1) ((n:Int) - (i:Nat)) 1) where
 mem:=by simp
 obj:=fun i h st b hb=>by
  have e:b = it:=by simpa using hb
  subst e
  exact ⟨_,st,fun v z=>by
    have z':Data.fields _ = Data.cell v:=z
    cases z'⟩
 keep:=fun i h h' st k=>k it (by simp) _ st
 item:=by
  intro X hP hw hK hc i pins s σ H E I hf st hg
  subst hP hw hK
  obtain ⟨f0,f1,f2,f3,f4,f5⟩:=hf it (by simp)
  have W:=Walks.range (prog:=X.prog) (w:=X.w) (I.ok.hd hc) it lo 1 n
  refine W.item i s _ _ hg st fun v h' tk hv st' kk=>?_
  obtain ⟨t,rfl⟩:=hv
  have I1:Inv X pins σ H { s with heap:=h',toks:=tk }:=I.turned (fun b o hb e=>kk b o (by simpa using hb) e) f0 f1 f3 f4 f5
  refine ⟨_,rfl,go_of (s:={ s with heap:=h',toks:=tk }) (n:="range_iterator") st' rfl rfl (by decide) ⟨.int (lo + i),H,I1,⟨t,?_⟩,⟨rfl,rfl⟩,st',fun b hb=>(hf b hb).1⟩⟩
  rw [Int.mul_one]
 done:=by
  intro X hP hw hK hc i pins s σ H E I hf st hg
  subst hP hw hK
  obtain ⟨f0,f1,f2,f3,f4,f5⟩:=hf it (by simp)
  exact wpAny_pyNext_range_end (I.ok.hd hc) st (by have:n <= i:=hg; omega) fun h' eb=>⟨rfl,I.turned (t':=s.toks) (fun b o hb e=>eb b o hb e) f0 f1 f3 f4 f5⟩
 self:=fun _ _ _ _ _ st h=>wpAny_pyIter_rangeiter st h
end L2
namespace L2
open PySem PySem.Spec PyProof.Rows
section
variable {X:Cx} {tg:Expr}
theorem range_it {pins:List (Addr × Obj)} {σ:St} {H:Hp} {s:Shared} {R:It -> Hp -> Prop} {E:Value -> Shared -> Prop} {lo hi:Int} {t u v:Tok} {tk:Nat} (I:Inv X pins σ H s) (h1:-(2 ^ 62) <= lo) (h2:lo < 2 ^ 62) (h3:-(2 ^ 62) <= hi) (h4:hi < 2 ^ 62)
  (q:R (Itr lo (hi - lo).toNat) H):wpAny (model X.prog X.w) X.A (pyIter (.ref s.heap.objs.size)) (PIE X pins σ tg R) E { s with heap:=s.heap.push { cls:=.type "range",data:=.fields #[.int lo t,.int hi u,.int 1 v] },toks:=tk }:=by
 refine wpAny_pyIter_range (IsRange.new ..) (small_one h1 h2 h3 h4) ?_
 have I1:Inv X pins σ H { s with heap:=s.heap.push { cls:=.type "range",data:=.fields #[.int lo t,.int hi u,.int 1 v] },toks:=tk }:=I.kept fun b o e=>Heap.get?_push_of_some _ e
 refine ⟨(s.heap.push { cls:=.type "range",data:=.fields #[.int lo t,.int hi u,.int 1 v] }).objs.size,[(s.heap.push { cls:=.type "range",data:=.fields #[.int lo t,.int hi u,.int 1 v] }).objs.size],_,_,H,rfl,
   I1.kept (t':=tk) fun b o e=>Heap.get?_push_of_some _ e,turn_range _ lo (hi - lo).toNat,?_,fun b hb=>?_,q⟩
 ·have e1:lo + ((0:Nat):Int) * 1 = lo:=by simp
  have e2:(((hi - lo).toNat:Nat):Int) - ((0:Nat):Int) = Builtin.Range.rangeSize lo hi 1:=by rw [rangeSize_one]; split <;> omega
  show IsRangeIter _ _ (lo + ((0:Nat):Int) * 1) ((((hi - lo).toNat:Nat):Int) - ((0:Nat):Int)) 1
  rw [e1,e2]
  exact Heap.get?_push_size _ rfl
 ·have e:b = (s.heap.push { cls:=.type "range",data:=.fields #[.int lo t,.int hi u,.int 1 v] }).objs.size:=by simpa using hb
  subst e
  exact I1.fpOk (Nat.le_refl _) (I1.hok.fresh (Nat.le_refl _))
noncomputable def iRng1 (ta:TA):TI:=fun σ H R=>ta σ H fun vs H1=>∃ j:Int,vs = [.int j] /\ -(2 ^ 62) <= j /\ j < 2 ^ 62 /\ R (Itr 0 j.toNat) H1
theorem pi_range1 {a:Expr} {ta:TA} {p pos:Pos} (hg:Gl X "range") (hm:X.mg "range" = none) (ha:PA X [a] ta) (hs:starEach [a] X.env = [(false,eval a X.env)]:=by rfl):PI X tg (.Call (.Name "range" p) [a] [] pos) (iRng1 ta):=by
 intro pins s σ H R I h
 refine Call_ (ld_blt I hg hm boot_range (PyProof.Rows.callWith_type1 (thn (ha pos pins s σ H _ I h) fun us s1 ⟨vs,H1,I1,r1,q1⟩=>?_) hs rfl))
 obtain ⟨j,e,q1,q2,q⟩:=q1
 subst e
 cases r1 with
 | cons r rr =>
  cases rr
  obtain ⟨t,rfl⟩:=r
  exact call_range_1 (range_it I1 (by omega) (by omega) q1 q2 (by simpa using q))
noncomputable def tFor (wi:TI) (g:TG) (tb:TS):TS:=fun D σ H=>wi σ H fun J H1=>∃ W:Nat -> Nat -> St -> Hp -> Prop,(∃ m,W 0 m σ H1) /\ ∀ i m σ H,W i m σ H ->
 (J.stop i H /\ D.nx σ H) \/ (J.go i H /\ ∃ N:St -> Hp -> Prop,(∀ σ' H',N σ' H' -> ∃ m',m' < m /\ W (i + 1) m' σ' H') /\ ∀ x H',J.yld i H x H' -> g x σ H' fun σ2 H2=>tb { D with nx:=N,ct:=N,bk:=D.nx } σ2 H2)
noncomputable def pinsAt (fp:List Addr) (h:Heap):List (Addr × Obj):=fp.filterMap fun b=>(h.get? b).map fun o=>(b,o)
theorem mem_pinsAt {fp:List Addr} {h:Heap} {b:Addr} {o:Obj} (hb:b ∈ fp) (e:h.get? b = some o):(b,o) ∈ pinsAt fp h:=List.mem_filterMap.mpr ⟨b,hb,by rw [e]; rfl⟩
theorem of_pinsAt {fp:List Addr} {h:Heap} {p:Addr × Obj} (hp:p ∈ pinsAt fp h):p.1 ∈ fp /\ h.get? p.1 = some p.2:=by
 obtain ⟨b,hb,e⟩:=List.mem_filterMap.mp hp
 cases q:h.get? b with
 | none=>rw [q] at e; cases e
 | some o =>
  rw [q] at e
  have e':(b,o) = p:=Option.some.inj e
  subst e'
  exact ⟨hb,q⟩
theorem Inv.pinned {pins:List (Addr × Obj)} {σ:St} {H:Hp} {s:Shared} {fp:List Addr} (I:Inv X pins σ H s) (hf:∀ b ∈ fp,FpOk X pins H b) (ho:∀ b ∈ fp,∃ o,s.heap.get? b = some o /\ ∀ v,o.data ≠ .cell v):Inv X (pins ++ pinsAt fp s.heap) σ H s :=
 I.pins_of fun p hp=>(List.mem_append.mp hp).elim (fun z=>I.pin p (List.mem_append_right _ z)) fun z=>by
  obtain ⟨hb,e⟩:=of_pinsAt z
  obtain ⟨f0,f1,f2,_⟩:=hf p.1 hb
  obtain ⟨o,e',d⟩:=ho p.1 hb
  rw [e] at e'; cases e'
  exact ⟨e,f0,f1,f2,d⟩
theorem Inv.unpinned {pins pl:List (Addr × Obj)} {σ:St} {H:Hp} {s:Shared} (I:Inv X (pins ++ pl) σ H s):Inv X pins σ H s:=I.pins_of fun p hp=>I.pin p (List.mem_append_right _ (List.mem_append_left _ hp))
theorem ps_for {iter:Expr} {body:List Stmt} {wi:TI} {g:TG} {tb:TS} {pos:Pos} (hp:PassesOwn (model X.prog X.w) X.A X.env X.xe) (hc:X.calm = true) (hi:PI X tg iter wi) (hg:PG X tg g) (hb:PSs X body tb)
  (hs:∀ x,foldedSetIterable iter X.env x = pure x:=by intro _; rfl):PS X (.For tg iter body [] pos) (tFor wi g tb):=by
 intro pins s σ H D I h
 refine wpAny_For (thn (hi pins s σ H _ I h) fun v s1 h1=>thn h1 fun itv s2 h2=>?_) hs
 obtain ⟨it,fp,tn,J,H2,e,I2,T,st2,f2,W,⟨m0,w0⟩,turn⟩:=h2
 subst e
 have stat:∀ {H':Hp},(∀ b ∈ fp,H' b = none) -> ∀ b ∈ fp,FpOk X pins H' b:=fun hn b hb=>⟨hn b hb,(f2 b hb).2⟩
 refine codeAny_forLoop_any (fun n s'=>∃ i σ' H',Inv X pins σ' H' s' /\ tn i s'.heap /\ (∀ b ∈ fp,H' b = none) /\ W i n σ' H') ?_ m0 ⟨0,σ,H2,I2,st2,fun b hb=>(f2 b hb).1,w0⟩
 rintro n s3 ⟨i,σ3,H3,I3,st3,fr3,w3⟩
 rcases turn i n σ3 H3 w3 with ⟨stop,qn⟩ | ⟨go,N,hN,step⟩
 ·refine wpAny_passesOwn hp (thn (T.done X rfl rfl rfl hc i pins s3 σ3 H3 X.xe I3 (stat fr3) st3 stop) fun r s4 ⟨hr,I4⟩=>?_)
  subst hr
  exact wpAny_execs_nil ⟨σ3,H3,I4,qn⟩
 ·refine wpAny_passesOwn hp (thn (T.item X rfl rfl rfl hc i pins s3 σ3 H3 X.xe I3 (stat fr3) st3 go) fun r s4 ⟨u,hr,h4⟩=>?_)
  subst hr
  refine wpAny_passesOwn hp (thn h4 fun _ s5 ⟨x,H5,I5,r5,y5,st5,fr5⟩=>?_)
  have I5':=I5.pinned (stat fr5) (T.obj _ _ st5)
  refine wpAny_passesOwn hp (thn (hg _ s5 σ3 H5 x u _ I5' r5 (step x H5 y5)) fun _ s6 ⟨σ6,H6,I6,q6⟩=>?_)
  refine wpAny_passesOwn hp (thn (hb _ s6 σ6 H6 _ I6 q6) fun f s7 q7=>?_)
  have again:∀ {σ7:St} {H7:Hp},Inv X (pins ++ pinsAt fp s5.heap) σ7 H7 s7 -> N σ7 H7 -> ∃ m,m < n /\ ∃ i σ' H',Inv X pins σ' H' s7 /\ tn i s7.heap /\ (∀ b ∈ fp,H' b = none) /\ W i m σ' H':=fun {σ7 H7} I7 n7=>by
   obtain ⟨m',hm,w7⟩:=hN σ7 H7 n7
   refine ⟨m',hm,i + 1,σ7,H7,I7.unpinned,T.keep _ _ _ st5 fun b hb o e=>(I7.pin (b,o) (List.mem_append_right _ (List.mem_append_right _ (mem_pinsAt hb e)))).1,fun b hb=>?_,w7⟩
   obtain ⟨o,e,d⟩:=T.obj _ _ st5 b hb
   exact (I7.pin (b,o) (List.mem_append_right _ (List.mem_append_right _ (mem_pinsAt hb e)))).2.1
  cases f with
  | next=>obtain ⟨σ7,H7,I7,n7⟩:=q7; exact again I7 n7
  | cont=>obtain ⟨σ7,H7,I7,n7⟩:=q7; exact again I7 n7
  | brk=>obtain ⟨σ7,H7,I7,q7⟩:=q7; exact ⟨σ7,H7,I7.unpinned,q7⟩
  | ret v=>obtain ⟨x7,σ7,H7,I7,r7,q7⟩:=q7; exact ⟨x7,σ7,H7,I7.unpinned,r7,q7⟩
end
end L2
namespace L2
open PySem PySem.Spec PyProof.Rows
noncomputable abbrev R2:=V -> V -> Hp -> VK -> Prop
noncomputable def OpR (X:Cx) (f:Value -> Value -> Sem Value) (r:R2):Prop :=
 ∀ (pins:List (Addr × Obj)) (s:Shared) (σ:St) (H:Hp) (x y:V) (v u:Value) (Q:VK),Inv X pins σ H s -> RelV x v -> RelV y u -> r x y H Q ->
  wpAny (model X.prog X.w) X.A (f v u) (EP X pins σ Q) X.xe s
noncomputable def UnR (X:Cx) (f:Value -> Sem Value) (r:V -> Hp -> VK -> Prop):Prop :=
 ∀ (pins:List (Addr × Obj)) (s:Shared) (σ:St) (H:Hp) (x:V) (v:Value) (Q:VK),Inv X pins σ H s -> RelV x v -> r x H Q ->
  wpAny (model X.prog X.w) X.A (f v) (EP X pins σ Q) X.xe s
noncomputable def CallR (X:Cx) (f:Value) (r:List V -> Hp -> VK -> Prop):Prop :=
 ∀ (pins:List (Addr × Obj)) (s:Shared) (σ:St) (H:Hp) (xs:List V) (us:List Value) (Q:VK),Inv X pins σ H s -> Vals xs us -> r xs H Q ->
  wpAny (model X.prog X.w) X.A (call f us) (EP X pins σ Q) X.xe s
noncomputable def tOp (r:R2) (ta tb:TE):TE:=fun σ H Q=>ta σ H fun x H1=>tb σ H1 fun y H2=>r x y H2 Q
noncomputable def tUn (r:V -> Hp -> VK -> Prop) (ta:TE):TE:=fun σ H Q=>ta σ H fun x H1=>r x H1 Q
noncomputable def rI (C:Int -> Int -> Prop) (g:Int -> Int -> V):R2:=fun x y H Q=>∃ i j,x = .int i /\ y = .int j /\ C i j /\ Q (g i j) H
noncomputable def rI0 (g:Int -> Int -> V):R2:=fun x y H Q=>∃ i j,x = .int i /\ y = .int j /\ Q (g i j) H
noncomputable def rU (g:Int -> V):V -> Hp -> VK -> Prop:=fun x H Q=>∃ i,x = .int i /\ Q (g i) H
section
variable {X:Cx} {a b c:Expr} {ta tb tc:TE} {pos:Pos}
theorem binT (ha:PE X a ta) (hb:PE X b tb) {pins:List (Addr × Obj)} {s:Shared} {σ:St} {H:Hp} {R:V -> V -> Hp -> Prop} (I:Inv X pins σ H s)
  (h:ta σ H fun x H1=>tb σ H1 fun y H2=>R x y H2) {Q:Value -> Shared -> Prop} {f:Value -> Value -> Sem Value}
  (hf:∀ v u s2 x y H2,Inv X pins σ H2 s2 -> RelV x v -> RelV y u -> R x y H2 -> wpAny (model X.prog X.w) X.A (f v u) Q X.xe s2) :
  wpAny (model X.prog X.w) X.A (eval a X.env) (fun v s₁=>wpAny (model X.prog X.w) X.A (eval b X.env) (fun u s₂=>wpAny (model X.prog X.w) X.A (f v u) Q X.xe s₂) X.xe s₁) X.xe s:=by
 refine thn (ha pins s σ H _ I h) fun v s1 ⟨x,H1,I1,r1,q1⟩=>?_
 refine thn (hb pins s1 σ H1 _ I1 q1) fun u s2 ⟨y,H2,I2,r2,q2⟩=>?_
 exact hf v u s2 x y H2 I2 r1 r2 q2
theorem pe_op {op:Operator} {r:R2} (ho:OpR X (binaryOp op) r) (ha:PE X a ta) (hb:PE X b tb):PE X (.BinOp a op b pos) (tOp r ta tb):=by
 intro pins s σ H Q I h
 exact wpAny_BinOp (binT ha hb I h fun v u s2 x y H2 I2 rx ry q=>ho pins s2 σ H2 x y v u Q I2 rx ry q)
theorem pe_un {op:UnaryOp} {r:V -> Hp -> VK -> Prop} (ho:UnR X (unaryOp op) r) (ha:PE X a ta):PE X (.UnaryOp op a pos) (tUn r ta):=by
 intro pins s σ H Q I h
 exact UnaryOp_ (thn (ha pins s σ H _ I h) fun v s1 ⟨x,H1,I1,r1,q1⟩=>ho pins s1 σ H1 x v Q I1 r1 q1)
theorem opI {f:Value -> Value -> Sem Value} {C:Int -> Int -> Prop} {g:Int -> Int -> Int}
  (rule:∀ (i j:Int) (t u:Tok) (s:Shared) (Q:Value -> Shared -> Prop) (E:Value -> Shared -> Prop),C i j -> Q (.int (g i j) s.toks) { s with toks:=s.toks + 1 } -> wpAny (model X.prog X.w) X.A (f (.int i t) (.int j u)) Q E s) :
  OpR X f (rI C fun i j=>.int (g i j)):=by
 intro pins s σ H x y v u Q I rx ry h
 obtain ⟨i,j,rfl,rfl,hc,q⟩:=h
 obtain ⟨t,rfl⟩:=rx
 obtain ⟨t',rfl⟩:=ry
 exact rule i j t t' s _ _ hc ⟨.int (g i j),H,I.tok _,⟨_,rfl⟩,q⟩
theorem opI0 {f:Value -> Value -> Sem Value} {g:Int -> Int -> Int}
  (rule:∀ (i j:Int) (t u:Tok) (s:Shared) (Q:Value -> Shared -> Prop) (E:Value -> Shared -> Prop),Q (.int (g i j) s.toks) { s with toks:=s.toks + 1 } -> wpAny (model X.prog X.w) X.A (f (.int i t) (.int j u)) Q E s) :
  OpR X f (rI0 fun i j=>.int (g i j)):=by
 intro pins s σ H x y v u Q I rx ry h
 obtain ⟨i,j,rfl,rfl,q⟩:=h
 obtain ⟨t,rfl⟩:=rx
 obtain ⟨t',rfl⟩:=ry
 exact rule i j t t' s _ _ ⟨.int (g i j),H,I.tok _,⟨_,rfl⟩,q⟩
theorem opB0 {f:Value -> Value -> Sem Value} {g:Int -> Int -> Bool}
  (rule:∀ (i j:Int) (t u:Tok) (s:Shared) (Q:Value -> Shared -> Prop) (E:Value -> Shared -> Prop),Q (.bool (g i j)) s -> wpAny (model X.prog X.w) X.A (f (.int i t) (.int j u)) Q E s) :
  OpR X f (rI0 fun i j=>.bl (g i j)):=by
 intro pins s σ H x y v u Q I rx ry h
 obtain ⟨i,j,rfl,rfl,q⟩:=h
 obtain ⟨t,rfl⟩:=rx
 obtain ⟨t',rfl⟩:=ry
 exact rule i j t t' s _ _ ⟨.bl (g i j),H,I,rfl,q⟩
noncomputable def CDiv (i j:Int):Prop:=0 < j /\ j < 1073741824
noncomputable def CPow (i j:Int):Prop:=0 <= j /\ j <= 1000000 /\ i.natAbs < 2 ^ 64
noncomputable def CMul (i j:Int):Prop:=(-(2 ^ 64) < i /\ i < 2 ^ 64) \/ (-(2 ^ 64) < j /\ j < 2 ^ 64)
theorem CMul.ok {i j:Int} (h:CMul i j):IntMulOk i j:=by
 rcases h with ⟨h1,h2⟩ | ⟨h1,h2⟩
 ·exact .of_left (intBits_le_64 h1 h2)
 ·exact .of_right (intBits_le_64 h1 h2)
theorem op_add:OpR X (binaryOp .Add) (rI0 fun i j=>.int (i + j)):=opI0 fun _ _ _ _ _ _ _ q=>add_int q
theorem op_sub:OpR X (binaryOp .Sub) (rI0 fun i j=>.int (i - j)):=opI0 fun _ _ _ _ _ _ _ q=>sub_int q
theorem op_mul:OpR X (binaryOp .Mult) (rI CMul fun i j=>.int (i * j)):=opI fun _ _ _ _ _ _ _ hc q=>mul_int q hc.ok
theorem op_fdiv:OpR X (binaryOp .FloorDiv) (rI CDiv fun i j=>.int (i / j)):=opI fun i j _ _ _ _ _ hc q=>by
 have h1:(0:Int) < j:=hc.1
 have h2:j < 1073741824:=hc.2
 exact floordiv_int (by omega) (by rw [Int.fdiv_eq_ediv_of_nonneg i (by omega)]; exact q) (.inl (PyProof.noPylong_small (by omega)))
theorem op_mod:OpR X (binaryOp .Mod) (rI (fun _ j=>0 < j) fun i j=>.int (i % j)):=opI fun i j _ _ _ _ _ hc q=>by
 have h1:(0:Int) < j:=hc
 exact mod_int' (by omega) (by rw [Int.fmod_eq_emod_of_nonneg i (by omega)]; exact q)
theorem op_pow:OpR X (binaryOp .Pow) (rI CPow fun i j=>.int (i ^ j.toNat)):=opI fun _ _ _ _ _ _ _ hc q=>pow_int_small hc.1 hc.2.1 hc.2.2 q
theorem unI {f:Value -> Sem Value} {g:Int -> Int}
  (rule:∀ (i:Int) (t:Tok) (s:Shared) (Q:Value -> Shared -> Prop) (E:Value -> Shared -> Prop),Q (.int (g i) s.toks) { s with toks:=s.toks + 1 } -> wpAny (model X.prog X.w) X.A (f (.int i t)) Q E s) :
  UnR X f (rU fun i=>.int (g i)):=by
 intro pins s σ H x v Q I rx h
 obtain ⟨i,rfl,q⟩:=h
 obtain ⟨t,rfl⟩:=rx
 exact rule i t s _ _ ⟨.int (g i),H,I.tok _,⟨_,rfl⟩,q⟩
theorem un_neg:UnR X (unaryOp .USub) (rU fun i=>.int (-i)):=unI fun _ _ _ _ _ q=>neg_int q
end
noncomputable def scal:V -> V -> Bool
 | .non,.non=>true | .non,.int _=>true | .int _,.non=>true | .non,.bl _=>true | .bl _,.non=>true | .non,.str _=>true | .str _,.non=>true
 | .int _,.int _=>true | .bl _,.bl _=>true | .str _,.str _=>true | .byt _,.byt _=>true
 | .int _,.str _=>true | .str _,.int _=>true | .bl _,.str _=>true | .str _,.bl _=>true
 | _,_=>false
noncomputable def rEq:R2:=fun x y H Q=>scal x y = true /\ Q (.bl (decide (x = y))) H
noncomputable def rNe:R2:=fun x y H Q=>scal x y = true /\ Q (.bl (!decide (x = y))) H
theorem dec_int {i j:Int}:decide (V.int i = V.int j) = (i == j):=by
 rw [Bool.eq_iff_iff]
 simp
theorem dec_bl {i j:Bool}:decide (V.bl i = V.bl j) = (i == j):=by
 rw [Bool.eq_iff_iff]
 simp
theorem dec_str {i j:Str}:decide (V.str i = V.str j) = (i == j):=by
 rw [Bool.eq_iff_iff]
 simp
theorem dec_byt {i j:Array UInt8}:decide (V.byt i = V.byt j) = (i.toList == j.toList):=by
 rw [Bool.eq_iff_iff]
 cases i
 cases j
 simp
section
variable {X:Cx} {a b c:Expr} {ta tb tc:TE} {pos:Pos}
theorem fin_bl {pins:List (Addr × Obj)} {σ:St} {H:Hp} {s:Shared} {Q:VK} {k k':Bool} (I:Inv X pins σ H s) (q:Q (.bl k) H) (e:k = k'):EP X pins σ Q (.bool k') s:=by
 subst e
 exact ⟨.bl k,H,I,rfl,q⟩
theorem op_eq:OpR X (compareOp .Eq) rEq:=by
 intro pins s σ H x y v u Q I rx ry h
 obtain ⟨hs,q⟩:=h
 cases x with
 | non =>
  cases rx
  cases y with
  | non=>cases ry; exact PySem.EqNone.eq_none_none (fin_bl I q (by simp))
  | bl j=>cases ry; exact PySem.EqNone.eq_none_bool (fin_bl I q (by simp))
  | int j=>obtain ⟨t',rfl⟩:=ry; exact PySem.EqNone.eq_none_int (fin_bl I q (by simp))
  | str j=>obtain ⟨t',rfl⟩:=ry; exact PySem.EqNone.eq_none_str (fin_bl I q (by simp))
  | _=>exact absurd (show false = true from hs) Bool.false_ne_true
 | bl i =>
  cases rx
  cases y with
  | non=>cases ry; exact PySem.EqNone.eq_bool_none (fin_bl I q (by simp))
  | bl j=>cases ry; exact eq_bool (fin_bl I q dec_bl)
  | str j=>obtain ⟨t',rfl⟩:=ry; exact PySem.EqMixed.eq_bool_str (fin_bl I q (by simp))
  | _=>exact absurd (show false = true from hs) Bool.false_ne_true
 | int i =>
  obtain ⟨t,rfl⟩:=rx
  cases y with
  | non=>cases ry; exact PySem.EqNone.eq_int_none (fin_bl I q (by simp))
  | int j=>obtain ⟨t',rfl⟩:=ry; exact eq_int (fin_bl I q dec_int)
  | str j=>obtain ⟨t',rfl⟩:=ry; exact PySem.EqMixed.eq_int_str (fin_bl I q (by simp))
  | _=>exact absurd (show false = true from hs) Bool.false_ne_true
 | str i =>
  obtain ⟨t,rfl⟩:=rx
  cases y with
  | non=>cases ry; exact PySem.EqNone.eq_str_none (fin_bl I q (by simp))
  | bl j=>cases ry; exact PySem.EqMixed.eq_str_bool (fin_bl I q (by simp))
  | int j=>obtain ⟨t',rfl⟩:=ry; exact PySem.EqMixed.eq_str_int (fin_bl I q (by simp))
  | str j=>obtain ⟨t',rfl⟩:=ry; exact eq_str (fin_bl I q dec_str)
  | _=>exact absurd (show false = true from hs) Bool.false_ne_true
 | byt i =>
  obtain ⟨t,rfl⟩:=rx
  cases y with
  | byt j=>obtain ⟨t',rfl⟩:=ry; exact PySem.W.eq_bytes (fin_bl I q dec_byt)
  | _=>exact absurd (show false = true from hs) Bool.false_ne_true
 | _=>cases y <;> exact absurd (show false = true from hs) Bool.false_ne_true
theorem op_ne:OpR X (compareOp .NotEq) rNe:=by
 intro pins s σ H x y v u Q I rx ry h
 obtain ⟨hs,q⟩:=h
 cases x with
 | non =>
  cases rx
  cases y with
  | non=>cases ry; exact PySem.EqNone.ne_none_none (fin_bl I q (by simp))
  | bl j=>cases ry; exact PySem.EqNone.ne_none_bool (fin_bl I q (by simp))
  | int j=>obtain ⟨t',rfl⟩:=ry; exact PySem.EqNone.ne_none_int (fin_bl I q (by simp))
  | str j=>obtain ⟨t',rfl⟩:=ry; exact PySem.EqNone.ne_none_str (fin_bl I q (by simp))
  | _=>exact absurd (show false = true from hs) Bool.false_ne_true
 | bl i =>
  cases rx
  cases y with
  | non=>cases ry; exact PySem.EqNone.ne_bool_none (fin_bl I q (by simp))
  | bl j=>cases ry; exact ne_bool (fin_bl I q (congrArg not dec_bl))
  | str j=>obtain ⟨t',rfl⟩:=ry; exact PySem.EqMixed.ne_bool_str (fin_bl I q (by simp))
  | _=>exact absurd (show false = true from hs) Bool.false_ne_true
 | int i =>
  obtain ⟨t,rfl⟩:=rx
  cases y with
  | non=>cases ry; exact PySem.EqNone.ne_int_none (fin_bl I q (by simp))
  | int j=>obtain ⟨t',rfl⟩:=ry; exact ne_int (fin_bl I q (congrArg not dec_int))
  | str j=>obtain ⟨t',rfl⟩:=ry; exact PySem.EqMixed.ne_int_str (fin_bl I q (by simp))
  | _=>exact absurd (show false = true from hs) Bool.false_ne_true
 | str i =>
  obtain ⟨t,rfl⟩:=rx
  cases y with
  | non=>cases ry; exact PySem.EqNone.ne_str_none (fin_bl I q (by simp))
  | bl j=>cases ry; exact PySem.EqMixed.ne_str_bool (fin_bl I q (by simp))
  | int j=>obtain ⟨t',rfl⟩:=ry; exact PySem.EqMixed.ne_str_int (fin_bl I q (by simp))
  | str j=>obtain ⟨t',rfl⟩:=ry; exact ne_str (fin_bl I q (congrArg not dec_str))
  | _=>exact absurd (show false = true from hs) Bool.false_ne_true
 | byt i =>
  obtain ⟨t,rfl⟩:=rx
  cases y with
  | byt j=>obtain ⟨t',rfl⟩:=ry; exact PySem.W.ne_bytes (fin_bl I q (congrArg not dec_byt))
  | _=>exact absurd (show false = true from hs) Bool.false_ne_true
 | _=>cases y <;> exact absurd (show false = true from hs) Bool.false_ne_true
theorem op_lt:OpR X (compareOp .Lt) (rI0 fun i j=>.bl (decide (i < j))):=opB0 fun _ _ _ _ _ _ _ q=>lt_int q
theorem op_le:OpR X (compareOp .LtE) (rI0 fun i j=>.bl (decide (i <= j))):=opB0 fun _ _ _ _ _ _ _ q=>le_int q
theorem op_gt:OpR X (compareOp .Gt) (rI0 fun i j=>.bl (decide (j < i))):=opB0 fun _ _ _ _ _ _ _ q=>gt_int q
theorem op_ge:OpR X (compareOp .GtE) (rI0 fun i j=>.bl (decide (j <= i))):=opB0 fun _ _ _ _ _ _ _ q=>ge_int q
theorem OpR.or {f:Value -> Value -> Sem Value} {r r':R2} (h:OpR X f r) (h':OpR X f r'):OpR X f (fun x y H Q=>r x y H Q \/ r' x y H Q):=by
 intro pins s σ H x y v u Q I rx ry q
 rcases q with q | q
 ·exact h pins s σ H x y v u Q I rx ry q
 ·exact h' pins s σ H x y v u Q I rx ry q
theorem nomark (b:Expr) {op:CmpOp} (h:op ≠ .In:=by decide) (h2:op ≠ .NotIn:=by decide):behindInMarks op b = false:=by
 have e1:(op == CmpOp.In) = false:=by cases op <;> first | rfl | exact absurd rfl h
 have e2:(op == CmpOp.NotIn) = false:=by cases op <;> first | rfl | exact absurd rfl h2
 cases b <;> simp [behindInMarks,e1,e2]
theorem pe_cmpR {op:CmpOp} {r:R2} (ho:OpR X (compareOp op) r) (ha:PE X a ta) (hb:PE X b tb) (hm:behindInMarks op b = false):PE X (.Compare a [op] [b] pos) (tOp r ta tb):=by
 intro pins s σ H Q I h
 exact wpAny_Compare1 (binT ha hb I h fun v u s2 x y H2 I2 rx ry q=>ho pins s2 σ H2 x y v u Q I2 rx ry q) hm
noncomputable def tTest (t:TE):TT:=fun σ H Q=>t σ H fun x H'=>∃ k,x = .bl k /\ Q k H'
theorem pt_cmpR {op:CmpOp} {r:R2} (ho:OpR X (compareOp op) r) (ha:PE X a ta) (hb:PE X b tb) (hm:behindInMarks op b = false):PT X (.Compare a [op] [b] pos) (tTest (tOp r ta tb)):=by
 intro pins s σ H Q I h
 refine wpAny_isTrue_Compare1 (thn (ha pins s σ H _ I h) fun v s1 ⟨x,H1,I1,r1,q1⟩=>thn (hb pins s1 σ H1 _ I1 q1) fun u s2 ⟨y,H2,I2,r2,q2⟩ =>
   thn (ho pins s2 σ H2 x y v u _ I2 r1 r2 q2) fun c s3 ⟨z,H3,I3,r3,k,e,q3⟩=>?_) hm
 subst e
 cases r3
 exact wpAny_truthy_bool ⟨H3,I3,q3⟩
noncomputable def tChain (r r':R2) (ta tb tc:TE):TE:=fun σ H Q=>ta σ H fun x H1=>tb σ H1 fun y H2=>r x y H2 fun z H3=>∃ k,z = .bl k /\
 (if k = true then tc σ H3 fun w' H4=>r' y w' H4 Q else Q (.bl false) H3)
theorem pe_chain {op op':CmpOp} {r r':R2} (ho:OpR X (compareOp op) r) (ho':OpR X (compareOp op') r') (ha:PE X a ta) (hb:PE X b tb) (hc:PE X c tc)
  (hm:lastMarks [op,op'] [b,c] = false:=by with_unfolding_all rfl):PE X (.Compare a [op,op'] [b,c] pos) (tChain r r' ta tb tc):=by
 intro pins s σ H Q I h
 refine Compare_chain (thn (ha pins s σ H _ I h) fun v s1 ⟨x,H1,I1,r1,q1⟩=>chain_link (thn (hb pins s1 σ H1 _ I1 q1) fun u s2 ⟨y,H2,I2,r2,q2⟩ =>
   thn (ho pins s2 σ H2 x y v u _ I2 r1 r2 q2) fun d s3 ⟨z,H3,I3,r3,k,e,q3⟩=>?_)) hm
 subst e
 cases r3
 refine wpAny_truthy_bool ?_
 cases k with
 | false=>exact ite_ff ⟨.bl false,H3,I3,rfl,q3⟩
 | true=>exact ite_tt (chain_last (thn (hc pins s3 σ H3 _ I3 q3) fun w' s4 ⟨z',H4,I4,r4,q4⟩=>ho' pins s4 σ H4 y z' u w' Q I4 r2 r4 q4))
theorem line63:(sizeLine:Nat) < 2 ^ 63:=by rw [sizeLine_eq]; decide
theorem vals1 {x:V} {us:List Value} (r:Vals [x] us):∃ u,us = [u] /\ RelV x u:=by
 cases r with
 | cons r1 r2=>cases r2; exact ⟨_,rfl,r1⟩
theorem vals2 {x y:V} {us:List Value} (r:Vals [x,y] us):∃ u w',us = [u,w'] /\ RelV x u /\ RelV y w':=by
 cases r with
 | cons r1 r2 =>
  cases r2 with
  | cons r3 r4=>cases r4; exact ⟨_,_,rfl,r1,r3⟩
theorem call_max2 (hc:X.calm = true):CallR X (.builtin "max") (fun xs H Q=>∃ i j,xs = [.int i,.int j] /\ Q (.int (if j > i then j else i)) H):=by
 intro pins s σ H xs us Q I r h
 obtain ⟨i,j,rfl,q⟩:=h
 obtain ⟨u,w',rfl,⟨t,rfl⟩,⟨t',rfl⟩⟩:=vals2 r
 refine max_two_ints (I.ok.hd hc) fun h' tk k=>⟨_,H,I.kept k,?_,q⟩
 by_cases hj:j > i
 ·rw [if_pos hj,if_pos hj]; exact ⟨_,rfl⟩
 ·rw [if_neg hj,if_neg hj]; exact ⟨_,rfl⟩
theorem call_min2 (hc:X.calm = true):CallR X (.builtin "min") (fun xs H Q=>∃ i j,xs = [.int i,.int j] /\ Q (.int (if j < i then j else i)) H):=by
 intro pins s σ H xs us Q I r h
 obtain ⟨i,j,rfl,q⟩:=h
 obtain ⟨u,w',rfl,⟨t,rfl⟩,⟨t',rfl⟩⟩:=vals2 r
 refine min_two_ints (I.ok.hd hc) fun h' tk k=>⟨_,H,I.kept k,?_,q⟩
 by_cases hj:j < i
 ·rw [if_pos hj,if_pos hj]; exact ⟨_,rfl⟩
 ·rw [if_neg hj,if_neg hj]; exact ⟨_,rfl⟩
theorem call_int1:CallR X (.type "int") (fun xs H Q=>(∃ i,xs = [.int i] /\ Q (.int i) H) \/ ∃ k,xs = [.bl k] /\ Q (.int (if k then 1 else 0)) H):=by
 intro pins s σ H xs us Q I r h
 rcases h with ⟨i,rfl,q⟩ | ⟨k,rfl,q⟩
 ·obtain ⟨u,rfl,t,rfl⟩:=vals1 r
  exact call_int_int ⟨.int i,H,I,⟨_,rfl⟩,q⟩
 ·obtain ⟨u,rfl,r1⟩:=vals1 r
  cases r1
  exact call_int_bool ⟨.int (if k then 1 else 0),H,I.tok _,⟨_,rfl⟩,q⟩
theorem call_str_int:CallR X (.type "str") (fun xs H Q=>∃ i,xs = [.int i] /\ i.natAbs.log2 < 1920 /\ Q (.str (toString i)) H):=by
 intro pins s σ H xs us Q I r h
 obtain ⟨i,rfl,hz,q⟩:=h
 obtain ⟨u,rfl,t,rfl⟩:=vals1 r
 exact PySem.P.str_of_int hz ⟨.str _,H,I.tok _,⟨_,rfl⟩,q⟩
end
end L2
namespace L2
open PySem PySem.Spec PyProof.Rows
structure ObjM (h:Heap) (x dx C:Addr) (mA:Str -> Option Value):Prop where
 obj:h.get? x = some (PySem.W.instObj C dx)
 ns:h.Ns1 dx mA
 ne:dx ≠ x
section
variable {prog:Program} {w:World} {A:Around} {E:Value -> Shared -> Prop} {s:Shared} {K:PySem.W.Frag} {x dx C f:Addr} {mA:Str -> Option Value} {name:Str} {v:Value}
end
section
variable {P:Program} {w:World} {H H':Hp} {h h':Heap} {a C dx:Addr} {fs fs':List (Str × V)}
end
structure Cls (K:PySem.W.Frag) (C:Addr):Prop where
 pg:PySem.W.plainGet K C Str.empty = true
 hd:PySem.W.hasDictIn K C = true
 po:PySem.W.plainOver K C = true
 sa:PySem.W.findIn K (.ref C) "__setattr__" = some (some (.builtin "object.__setattr__"))
structure Con (K:PySem.W.Frag) (C:Addr) (f:Str) (v:V) (u:Value):Prop where
 at_:PySem.W.findIn K (.ref C) f = some (some u)
 rel:RelV v u
 get:PySem.W.specialIn K u "__get__" = some none
 cp:PySem.W.copiedNames.contains f = false
structure Meth (K:PySem.W.Frag) (C:Addr) (m:Str) (f:Addr):Prop where
 at_:PySem.W.findIn K (.ref C) m = some (some (.ref f))
 fn:PySem.W.isFn K (.ref f) = true
 kp:PySem.W.keepIn K (.ref f) = true
section
variable {X:Cx} {pins:List (Addr × Obj)} {σ:St} {H:Hp} {s:Shared} {a C dx:Addr} {fs:List (Str × V)} {f:Str} {v:V} {A:Around} {E:Value -> Shared -> Prop}
end
section
variable {X:Cx} {o e value:Expr} {f:Str} {pos pos' tpos:Pos} {ta tv:TE}
end
section
variable {X:Cx} {pins:List (Addr × Obj)} {σ:St} {H:Hp} {s:Shared} {A:Around} {E:Value -> Shared -> Prop} {Q:Value -> Shared -> Prop} {c:Value} {b:Bool}
inductive TyOf (K:PySem.W.Frag) (H:Hp):V -> Value -> Prop where
 | non:TyOf K H .non (.type "NoneType")
 | bl (x:Bool):TyOf K H (.bl x) (.type "bool")
 | int (i:Int):TyOf K H (.int i) (.type "int")
 | str (x:Str):TyOf K H (.str x) (.type "str")
 | flt (x:UInt64):TyOf K H (.flt x) (.type "float")
 | lst {a:Addr} {xs:List V} (e:H a = some (.lst xs)):TyOf K H (.ref a) (.type "list")
 | frz {a:Addr} {o:Obj} {xs:List V} (e:H a = some (.frz o (.lst xs))):TyOf K H (.ref a) (.type "list")
 | tup {a:Addr} {xs:List V} (e:H a = some (.tup xs)):TyOf K H (.ref a) (.type "tuple")
 | dK {a:Addr} {kvs:List (Key × V)} (e:H a = some (.dK kvs)):TyOf K H (.ref a) (.type "dict")
 | dT {a:Addr} {kvs:List (List Key × V)} (e:H a = some (.dT kvs)):TyOf K H (.ref a) (.type "dict")
 | ins {a C dx:Addr} {fs:List (Str × V)} (e:H a = some (.ins C dx fs)) (cl:Cls K C) (ha:PySem.W.findIn K (.ref C) "__class__" = some (some (.builtin "object.__class__")))
   (hn:PySem.W.specialIn K (.builtin "object.__class__") "__get__" = some (some (.builtin "getset_descriptor.__get__"))) (htk:PySem.W.takesIn K (.builtin "object.__class__") = some true)
   (hm:PySem.W.mroIn K C (.type "object") = some true):TyOf K H (.ref a) (.ref C)
end
end L2
namespace L2
open PySem PySem.Spec PyProof.Rows
structure Room (k:Nat) (A:Around):Prop where
 hd:A.handled = none
 dp:A.depth + 3 * k + 5 < recursionLimit
 un:A.units + 16 * k + 200 < cLine
 gd:A.guards = some []
theorem Room.mono {j k:Nat} {A:Around} (r:Room k A) (h:j <= k):Room j A:=⟨r.hd,by have:=r.dp; omega,by have:=r.un; omega,r.gd⟩
theorem Room.deeper {k:Nat} {A:Around} (r:Room (k + 1) A) (env:Env):Room k (A.deeper env) :=
 ⟨r.hd,by have:=r.dp; show A.depth + 1 + 3 * k + 5 < _; omega,by have:=r.un; show A.units + 3 + 16 * k + 200 < _; omega,r.gd⟩
theorem Room.depth {k:Nat} {A:Around} (r:Room k A):A.depth < recursionLimit:=by have:=r.dp; omega
theorem Room.units {k:Nat} {A:Around} (r:Room k A):A.units + 64 < cLine:=by have:=r.un; omega
noncomputable def tNil:TA:=fun _ H Q=>Q [] H
noncomputable def tCons (ta:TE) (tr:TA):TA:=fun σ H Q=>ta σ H fun x H1=>tr σ H1 fun xs H2=>Q (x :: xs) H2
section
variable {X:Cx} {e:Expr} {es:List Expr} {te:TE} {t:TA} {pos:Pos}
theorem pa_nil:PA X [] tNil:=fun _ _ _ _ H Q I h=>Calls.spliced_nil ⟨[],H,I,.nil,h⟩
theorem pa_cons (ha:PE X e te) (hr:PA X es t) (hs:starEach (e :: es) X.env = (false,eval e X.env) :: starEach es X.env:=by rfl):PA X (e :: es) (tCons te t):=by
 intro pos pins s σ H Q I h
 rw [hs]
 show wpAny _ _ (spliced ((false,eval e X.env) :: backTo pos (starEach es X.env))) _ _ s
 refine Calls.spliced_cons (thn (ha pins s σ H _ I h) fun u s1 ⟨x,H1,I1,r1,q1⟩=>?_)
 exact thn (hr pos pins s1 σ H1 _ I1 q1) fun us s2 ⟨xs,H2,I2,r2,q2⟩=>⟨x :: xs,H2,I2,.cons r1 r2,q2⟩
noncomputable def tTup (t:TA):TE:=fun σ H Q=>t σ H fun xs H1=>xs.length <= sizeLine /\ ∀ p,H1 p = none -> Q (.ref p) (upd H1 p (.tup xs))
noncomputable def tLst (t:TA):TE:=fun σ H Q=>t σ H fun xs H1=>xs.length <= sizeLine /\ ∀ p,H1 p = none -> Q (.ref p) (upd H1 p (.lst xs))
theorem pe_tup {x1} (h:PA X es t):PE X (.Tuple es x1 pos) (tTup t):=by
 intro pins s σ H Q I hq
 refine wpAny_Tuple_spliced (thn (h pos pins s σ H _ I hq) fun us s1 ⟨xs,H1,I1,r,z,q⟩=>⟨by rw [<- r.length]; exact z,?_⟩)
 have hf:H1 s1.heap.objs.size = none:=I1.hok.fresh (Nat.le_refl _)
 refine ⟨.ref s1.heap.objs.size,upd H1 s1.heap.objs.size (.tup xs),I1.laid (t':=s1.toks) (fun b u e=>Heap.get?_push_of_some _ e) (Nat.le_refl _) ?_,rfl,q _ hf⟩
 exact ⟨z,us,r,⟨_,Heap.get?_push_size _ rfl,rfl,_,rfl,rfl⟩⟩
theorem pe_lst (h:PA X es t):PE X (.List es pos) (tLst t):=by
 intro pins s σ H Q I hq
 refine wpAny_List_spliced (thn (h pos pins s σ H _ I hq) fun us s1 ⟨xs,H1,I1,r,z,q⟩=>⟨by rw [<- r.length]; exact z,?_⟩)
 have hf:H1 s1.heap.objs.size = none:=I1.hok.fresh (Nat.le_refl _)
 refine ⟨.ref s1.heap.objs.size,upd H1 s1.heap.objs.size (.lst xs),I1.laid (t':=s1.toks) (fun b u e=>Heap.get?_push_of_some _ e) (Nat.le_refl _) ?_,rfl,q _ hf⟩
 exact ⟨z,us,0,r,Heap.get?_push_size _ rfl⟩
end
noncomputable abbrev Sp:=List V -> Hp -> VK -> XK -> Prop
noncomputable abbrev CXT:=List Env -> Hp -> Shared -> XK -> Value -> Shared -> Prop
structure Env0 (P:Program) (w:World) (K:PySem.W.Frag) (mg:Str -> Option Value) (base:Heap) (A:Around) (outer:List Env) (s:Shared) (H:Hp):Prop where
 frames:A.frames = some outer
 mod:Mod K mg base
 bs:∀ b o,base.get? b = some o -> s.heap.get? b = some o /\ H b = none
 bsz:base.objs.size <= s.heap.objs.size
 funs:s.heap.FunFrames base outer
 frf:∀ b ∈ frs outer,H b = none
 hok:HOk P w H s.heap
 bare:AllBare s.gens
noncomputable def CE (outer:List Env) (P:Program) (w:World) (H:Hp) (s:Shared) (Q:VK) (u:Value) (s':Shared):Prop :=
 ∃ v H',s'.os = s.os /\ AllBare s'.gens /\ Un (frs outer) [] H H' s.heap s'.heap /\ HOk P w H' s'.heap /\ RelV v u /\ Q v H'
noncomputable def CR (CX:CXT) (outer:List Env) (P:Program) (w:World) (H:Hp) (s:Shared) (Q:VK) (E:XK) (r:Result) (s':Shared):Prop :=
 match r with
 | .ok (.ret u)=>CE outer P w H s Q u s'
 | .ok _=>False
 | .error e=>CX outer H s E e s'
structure FnOk (P:Program) (w:World) (K:PySem.W.Frag) (mg:Str -> Option Value) (base:Heap) (CX:CXT) (k:Nat) (f:Addr) (fd:FuncData) (ps:List Str) (sp:Sp):Prop where
 len:∀ vs H Q E,sp vs H Q E -> vs.length = ps.length
 run:∀ (A:Around) (outer:List Env) (s:Shared) (H:Hp) (args:Args) (us:List Value) (vs:List V) (Q:VK) (E:XK),Room k A -> Env0 P w K mg base A outer s H -> BindsTo s fd args (ps.zip us) -> Vals vs us -> sp vs H Q E ->
  codeAny (model P w) A (.call (.ref f) args) (CR CX outer P w H s Q E) s
section
variable {X:Cx} {pins:List (Addr × Obj)} {σ:St} {H:Hp} {s s':Shared}
theorem Inv.env0 (I:Inv X pins σ H s):Env0 X.prog X.w X.K X.mg X.base X.A X.stack s H :=
 ⟨I.ok.frames,I.ok.mod,I.bs,Nat.le_trans I.ok.bsz I.sz,I.stack,I.stkFree,I.hok,I.bare⟩
theorem Inv.after {Q:VK} {u:Value} (I:Inv X pins σ H s) (h:CE X.stack X.prog X.w H s Q u s'):EP X pins σ Q u s':=by
 obtain ⟨v,H',os,bare,un,hok,r,q⟩:=h
 obtain ⟨hh,g,d,t,os'⟩:=s'
 obtain rfl:os' = s.os:=os
 exact ⟨v,H',I.call (h':=hh) (g':=g) (d':=d) (t':=t) (ch:=[]) un hok bare (fun b z=>absurd z (by simp)),r,q⟩
end
noncomputable def tCall (sp:Sp) (dvs:List V) (E:XK) (t:TA):TE:=fun σ H Q=>t σ H fun vs H1=>sp (vs ++ dvs) H1 Q E
noncomputable def Binds (K:PySem.W.Frag) (fd:FuncData) (ps:List Str) (ds:List Value):Prop :=
 ∀ (s:Shared) (us:List Value),K.In s.heap -> (us ++ ds).length = ps.length -> BindsTo s fd ⟨us,[]⟩ (ps.zip (us ++ ds))
theorem Binds.all {K:PySem.W.Frag} {fd:FuncData} {ps:List Str} (h:∀ us:List Value,us.length = ps.length -> bindArgs fd ⟨us,[]⟩ = pure (ps.zip us)):Binds K fd ps []:=fun s us _ hl=>by
 rw [List.append_nil] at hl ⊢
 exact .of_eq (h us hl)
noncomputable def Passes (CX:CXT) (X:Cx) (E:XK):Prop:=∀ (pins:List (Addr × Obj)) (σ:St) (H:Hp) (s:Shared) (e:Value) (s':Shared),Inv X pins σ H s -> CX X.stack H s E e s' -> X.xe e s'
section
variable {X:Cx} {CX:CXT} {k:Nat} {f C:Addr} {fd:FuncData} {ps:List Str} {sp:Sp} {dvs:List V} {ds:List Value} {E:XK} {x m:Str} {p pos apos:Pos} {e o:Expr} {es:List Expr} {ta:TE} {t:TA}
theorem run_fn {pins:List (Addr × Obj)} {σ:St} {H:Hp} {s:Shared} {Q:VK} {us:List Value} {vs:List V} (F:FnOk X.prog X.w X.K X.mg X.base CX k f fd ps sp) (hr:Room k X.A) (hb:Binds X.K fd ps ds) (hd:Vals dvs ds) (hx:Passes CX X E)
  (I:Inv X pins σ H s) (r:Vals vs us) (h:sp (vs ++ dvs) H Q E):wpAny (model X.prog X.w) X.A (call (.ref f) us) (EP X pins σ Q) X.xe s:=by
 have r2:Vals (vs ++ dvs) (us ++ ds):=r.append hd
 have hl:(us ++ ds).length = ps.length:=by rw [<- r2.length]; exact F.len _ _ _ _ h
 refine wpAny_call (codeAny_mono (F.run X.A X.stack s H ⟨us,[]⟩ (us ++ ds) (vs ++ dvs) Q E hr I.env0 (hb s us I.kIn hl) r2 h) fun r s' hq=>?_)
 cases r with
 | error e=>exact hx pins σ H s e s' I hq
 | ok fl =>
  cases fl with
  | ret u=>exact I.after hq
  | next=>exact False.elim hq
  | brk=>exact False.elim hq
  | cont=>exact False.elim hq
theorem pe_call (F:FnOk X.prog X.w X.K X.mg X.base CX k f fd ps sp) (hr:Room k X.A) (hg:Gl X x) (hm:X.mg x = some (.ref f)) (hk:PySem.W.keepIn X.K (.ref f) = true) (hb:Binds X.K fd ps ds) (hd:Vals dvs ds) (hx:Passes CX X E)
  (ha:PA X (e :: es) t) (hdb:(x == ("__debug__":Str)) = false:=by decide) (he:starEach (e :: es) X.env = (false,eval e X.env) :: starEach es X.env:=by rfl) (hpl:(backTo pos (starEach es X.env)).any (·.1) = false:=by rfl) :
  PE X (.Call (.Name x p) (e :: es) [] pos) (tCall sp dvs E t):=by
 intro pins s σ H Q I h
 refine wpAny_Call_Name_kw (ld_glob I hg hm ?_ hdb)
 refine PySem.W.callWith_K (h₀:=X.base) I.ok.mod.kin hk (thn (ha pos pins s σ H _ I h) fun us s1 ⟨vs,H1,I1,r,q⟩=>⟨I1.kIn,?_⟩) he hpl
 exact run_fn F hr hb hd hx I1 r q
structure Mk (K:PySem.W.Frag) (C f:Addr):Prop where
 makes:PySem.W.makesIn K C = true
 init:PySem.W.findIn K (.ref C) "__init__" = some (some (.ref f))
 fn:PySem.W.isFn K (.ref f) = true
 kp:PySem.W.keepIn K (.ref C) = true
end
section
variable {X:Cx} {CX:CXT} {k:Nat} {f C:Addr} {fd:FuncData} {ps ks:List Str} {sp:Sp} {E:XK} {x m:Str} {p pos apos kpos:Pos} {e o:Expr} {es:List Expr} {kws:List Keyword} {te ta:TE} {t tk:TA} {nm:Option Str}
structure KBinds (K:PySem.W.Frag) (fd:FuncData) (ps ks:List Str) (g:List Value -> List Value -> List Value) (gV:List V -> List V -> List V):Prop where
 to:∀ (s:Shared) (us ws:List Value),K.In s.heap -> (g us ws).length = ps.length -> BindsTo s fd ⟨us,ks.zip ws⟩ (ps.zip (g us ws))
 rel:∀ {vs:List V} {us:List Value} {zs:List V} {ws:List Value},Vals vs us -> Vals zs ws -> Vals (gV vs zs) (g us ws)
variable {g:List Value -> List Value -> List Value} {gV:List V -> List V -> List V}
end
structure FnScope (N P:List Str) (sc:Scope):Prop where
 kind:sc.kind = .function
 co:sc.isCoroutine = false
 gen:sc.isGenerator = false
 nd:N.Nodup
 pre:N.take P.length = P
 par:∀ x ∈ P,sc.names.lookup x = some .local \/ sc.names.lookup x = some .cell
 nofree:∀ y ∈ sc.names,y.2 ≠ .free
theorem bindL_out {kindOf:Str -> Option NameKind} {x:Str}:∀ {binds:List (Str × Value)} {m:Str -> Option Value},(∀ v,(x,v) ∉ binds) -> bindL kindOf binds m x = m x
 | [],_,_=>rfl
 | (n,v) :: r,m,h=>by
  unfold bindL
  rw [bindL_out fun w hw=>h w (List.mem_cons_of_mem _ hw)]
  split
  ·have:x ≠ n:=by rintro rfl; exact h v List.mem_cons_self
   simp [this]
  ·rfl
theorem bindC_out {kindOf:Str -> Option NameKind} {x:Str}:∀ {binds:List (Str × Value)} {m:Str -> Option Value},(∀ v,(x,v) ∉ binds) -> bindC kindOf binds m x = m x
 | [],_,_=>rfl
 | (n,v) :: r,m,h=>by
  unfold bindC
  rw [bindC_out fun w hw=>h w (List.mem_cons_of_mem _ hw)]
  split
  ·rfl
  ·have:x ≠ n:=by rintro rfl; exact h v List.mem_cons_self
   simp [this]
theorem bindL_get {kindOf:Str -> Option NameKind} {x:Str} {v:Value}:∀ {P:List Str} {vs:List Value} {i:Nat} {m:Str -> Option Value},P.Nodup -> P[i]? = some x -> vs[i]? = some v -> kindOf x = some .local ->
  bindL kindOf (P.zip vs) m x = some v
 | [],_,_,_,_,h,_,_=>by simp at h
 | _ :: _,[],_,_,_,_,h,_=>by simp at h
 | p :: P,w :: vs,0,m,nd,h1,h2,hk=>by
  simp at h1 h2; subst h1; subst h2
  show bindL kindOf ((p,w) :: P.zip vs) m p = _
  unfold bindL
  rw [bindL_out fun v hv=>(List.nodup_cons.mp nd).1 (List.of_mem_zip hv).1,if_pos hk]
  simp
 | p :: P,w :: vs,i + 1,m,nd,h1,h2,hk=>by
  show bindL kindOf ((p,w) :: P.zip vs) m x = _
  unfold bindL
  exact bindL_get (i:=i) (List.nodup_cons.mp nd).2 (by simpa using h1) (by simpa using h2) hk
theorem bindC_get {kindOf:Str -> Option NameKind} {x:Str} {v:Value}:∀ {P:List Str} {vs:List Value} {i:Nat} {m:Str -> Option Value},P.Nodup -> P[i]? = some x -> vs[i]? = some v -> kindOf x ≠ some .local ->
  bindC kindOf (P.zip vs) m x = some v
 | [],_,_,_,_,h,_,_=>by simp at h
 | _ :: _,[],_,_,_,_,h,_=>by simp at h
 | p :: P,w :: vs,0,m,nd,h1,h2,hk=>by
  simp at h1 h2; subst h1; subst h2
  show bindC kindOf ((p,w) :: P.zip vs) m p = _
  unfold bindC
  rw [bindC_out fun v hv=>(List.nodup_cons.mp nd).1 (List.of_mem_zip hv).1,if_neg hk]
  simp
 | p :: P,w :: vs,i + 1,m,nd,h1,h2,hk=>by
  show bindC kindOf ((p,w) :: P.zip vs) m x = _
  unfold bindC
  exact bindC_get (i:=i) (List.nodup_cons.mp nd).2 (by simpa using h1) (by simpa using h2) hk
noncomputable def start (N:List Str) (vs:List V):St:=vs.map some ++ List.replicate (N.length - vs.length) none
noncomputable def cxOf (CX:CXT) (P:Program) (w:World) (K:PySem.W.Frag) (mg:Str -> Option Value) (base:Heap) (N:List Str) (qual:Str) (scope:Scope) (f:Addr) (cd:Value) (A:Around) (outer:List Env) (s:Shared) (H:Hp) (E:XK):Cx where
 prog:=P
 w:=w
 K:=K
 mg:=mg
 base:=base
 A:=A.deeper (envOfC qual scope s.heap.objs.size f cd)
 N:=N
 s₀:=s
 H₀:=H
 env:=envOfC qual scope s.heap.objs.size f cd
 outer:=outer
 stack:=envOfC qual scope s.heap.objs.size f cd :: outer
 ex:=[]
 calm:=true
 fn:=fun _=>true
 pn:=[]
 xe:=fun e s'=>wpAny (model P w) (A.deeper (envOfC qual scope s.heap.objs.size f cd)) (leaving (envOfC qual scope s.heap.objs.size f cd) e) (fun _ s''=>CX outer H s E e s'') (fun e' s''=>CX outer H s E e' s'') s'
theorem cell_has {sc:Scope} {n:Nat} {x:Str} (h:sc.names.lookup x = some .cell):∃ c,(cellsFrom n sc.names []).lookup x = some c:=by
 have q:=PySem.W.cellsFrom_some sc.names n [] (.inl h)
 exact Option.isSome_iff_exists.mp q
theorem inv_start {CX:CXT} {P:Program} {w:World} {K:PySem.W.Frag} {mg:Str -> Option Value} {base:Heap} {N ps:List Str} {qual:Str} {scope:Scope} {f:Addr} {cd:Value} {A:Around} {outer:List Env} {s s1:Shared} {H:Hp} {E:XK} {us:List Value} {vs:List V}
  (S:FnScope N ps scope) (hd:A.handled = none) (e0:Env0 P w K mg base A outer s H) (hl:vs.length = ps.length) (r:Vals vs us)
  (x:InCallC s s.heap.objs.size (bindL (envOfC qual scope s.heap.objs.size f cd).kindOf (ps.zip us) fun _=>none) (cellsFrom (s.heap.objs.size + 1) scope.names []) (bindC (envOfC qual scope s.heap.objs.size f cd).kindOf (ps.zip us) fun _=>none) s1) :
  Inv (cxOf CX P w K mg base N qual scope f cd A outer s H E) [] (start N vs) H s1:=by
 have hpl:ps.length <= N.length:=by have:=congrArg List.length S.pre; rw [List.length_take] at this; omega
 obtain ⟨h1,tk,rfl,hk⟩:=x.done
 have noA:∀ b:Addr,b ∉ (cxOf CX P w K mg base N qual scope f cd A outer s H E).ex:=fun b z=>absurd (show b ∈ ([]:List Addr) from z) (by simp)
 refine ⟨⟨e0.mod,S.kind,rfl,rfl,Nat.le_refl _,fun y z c h1 h2=>?_,fun y hy=>?_,fun y c _ h=>?_,fun _=>hd,Around.frames_deeper e0.frames,.inr ⟨rfl,rfl⟩,fun b z=>absurd z (noA b),e0.bs,e0.bsz,fun b _ _=>noA b,fun b z=>absurd z (noA b),e0.funs,e0.frf⟩,
   rfl,e0.bare,Un.kept hk,⟨_,x.toInCall.ns,fun i y v h1 h2 h3=>?_⟩,fun y c h=>⟨_,x.cell y c h⟩,e0.hok.fresh (Nat.le_refl _),fun y c h=>?_,fun p hp=>absurd (show p ∈ ([]:List (Addr × Obj)) from hp) (by simp),e0.hok.kept hk,?_⟩
 ·exact name_of_addr x.apart (PySem.mem_of_lookup h1) (PySem.mem_of_lookup h2)
 ·have hy:scope.names.lookup y = some .cell \/ scope.names.lookup y = some .free:=hy
  rcases hy with hy | hy
  ·exact cell_has hy
  ·exact absurd rfl (S.nofree _ (PySem.mem_of_lookup hy))
 ·exact Nat.le_of_lt (x.above y c (PySem.mem_of_lookup h))
 ·have hi:i < vs.length:=by
   unfold start at h2
   by_cases hi:i < vs.length
   ·exact hi
   ·rw [List.getElem?_append_right (by simpa using hi)] at h2
    rw [List.getElem?_replicate] at h2
    split at h2 <;> cases h2
  have ha:vs[i]? = some v:=by
   unfold start at h2
   rw [List.getElem?_append_left (by simpa using hi),List.getElem?_map] at h2
   cases e:vs[i]? with
   | none=>rw [e] at h2; cases h2
   | some a=>rw [e] at h2; cases h2; rfl
  obtain ⟨u,hu,rv⟩:=r.get ha
  have hp:ps[i]? = some y:=by
   rw [<- S.pre,List.getElem?_take_of_lt (by omega)]; exact h1
  have ndP:ps.Nodup:=by rw [<- S.pre]; exact S.nd.sublist (List.take_sublist _ _)
  refine ⟨u,rv,?_⟩
  rcases S.par y (List.mem_of_getElem? hp) with k | k
  ·exact .inl ⟨k,bindL_get ndP hp hu k⟩
  ·obtain ⟨c,e⟩:=cell_has (n:=s.heap.objs.size + 1) k
   refine .inr ⟨.inl k,c,e,?_⟩
   have q:=x.cell y c e
   rw [bindC_get ndP hp hu (by show scope.names.lookup y ≠ _; rw [k]; decide)] at q
   exact q
 ·exact e0.hok.fresh (Nat.le_of_lt (x.above y c (PySem.mem_of_lookup h)))
 ·unfold start
  show _ = N.length
  rw [List.length_append,List.length_map,List.length_replicate]
  omega
theorem fn_of {CX:CXT} {P:Program} {w:World} {K:PySem.W.Frag} {mg:Str -> Option Value} {base:Heap} {k:Nat} {f:Addr} {name qual:Str} {params:Arguments} {body:List Stmt} {scope:Scope} {dV kV doc pm cdv ct oc:Value} {an od:Option Addr}
  {osl:Array (Option Value)} {N ps:List Str} {sp:Sp} (lk:K.lookup f = some ⟨oc,od,.func (PySem.W.fnOf name qual params body scope dV kV doc pm an cdv ct),osl⟩) (hcd:PySem.W.codeIn K cdv qual = true) (S:FnScope N ps scope)
  (len:∀ vs H Q E,sp vs H Q E -> vs.length = ps.length)
  (hbody:∀ (A:Around) (outer:List Env) (s:Shared) (H:Hp) (vs:List V) (Q:VK) (E:XK),Room k (A.deeper (envOfC qual scope s.heap.objs.size f cdv)) -> sp vs H Q E ->
    ∃ t,PSs (cxOf CX P w K mg base N qual scope f cdv A outer s H E) body t /\ t { nx:=fun _ H'=>Q .non H',rt:=Q } (start N vs) H) :
  FnOk P w K mg base CX (k + 1) f (PySem.W.fnOf name qual params body scope dV kV doc pm an cdv ct) ps sp:=by
 refine ⟨len,fun A outer s H args us vs Q E hr e0 hb r hsp=>?_⟩
 have hl:=len _ _ _ _ hsp
 have KX:K.In s.heap:=e0.mod.kin.keeps fun b o e=>(e0.bs b o e).1
 have lim:s.heap.NoLimit:=e0.mod.nolimit.keeps fun b o e=>(e0.bs b o e).1
 have hkind:∀ y ∈ ps.zip us,scope.names.lookup y.1 = some .local \/ (scope.names.lookup y.1 = some .cell /\ ((cellsFrom (s.heap.objs.size + 1) scope.names []).lookup y.1).isSome = true):=fun ⟨n,v⟩ hy=>by
  rcases S.par n (List.of_mem_zip hy).1 with q | q
  ·exact .inl q
  ·exact .inr ⟨q,PySem.W.cellsFrom_some _ _ _ (.inl q)⟩
 refine codeAny_call_function hr.depth (KX _ _ lk) rfl S.co S.gen rfl (PySem.W.codeRec_of KX hcd) (hb _ _ _ _ ?_)
 refine wpAny_newFunctionEnv_cells S.kind hkind fun env he s1 x=>?_
 subst he
 refine ⟨lim.keeps x.toInCall.keep,codeAny_func ?_⟩
 obtain ⟨t,ht,hq⟩:=hbody A outer s H vs Q E (hr.deeper _) hsp
 have I:Inv (cxOf CX P w K mg base N qual scope f cdv A outer s H E) [] (start N vs) H s1:=inv_start S hr.hd e0 hl r x
 refine wpAny_mono (ht [] s1 (start N vs) H _ I hq) (fun fl s' hs=>?_) fun e s' hs=>hs
 have fin:∀ {σ':St} {H':Hp} {v:V} {u:Value},Inv (cxOf CX P w K mg base N qual scope f cdv A outer s H E) [] σ' H' s' -> RelV v u -> Q v H' -> CE outer P w H s Q u s' :=
  fun {σ' H' v u} J rv q=>⟨v,H',J.os,J.bare,J.base,J.hok,rv,q⟩
 cases fl with
 | ret u =>
  obtain ⟨v,σ',H',J,rv,q⟩:=hs
  exact fin J rv q
 | next =>
  obtain ⟨σ',H',J,q⟩:=hs
  exact fin (v:=V.non) (u:=Value.none) J rfl q
 | brk =>
  obtain ⟨_,_,_,q⟩:=hs
  exact False.elim q
 | cont =>
  obtain ⟨_,_,_,q⟩:=hs
  exact False.elim q
end L2
namespace L2
open PySem PySem.Spec PyProof.Rows
section
variable {X:Cx} {x:Str} {p pos:Pos} {e:Expr} {es:List Expr} {t:TA} {id T:String} {r:List V -> Hp -> VK -> Prop}
noncomputable def tCB (r:List V -> Hp -> VK -> Prop) (t:TA):TE:=fun σ H Q=>t σ H fun vs H1=>r vs H1 Q
theorem pe_callB (hc:CallR X (.builtin id) r) (hg:Gl X x) (hm:X.mg x = none) (hv:bootBuiltins x = some (.builtin id)) (ha:PA X (e :: es) t) (hn:x ≠ "__name__":=by decide) (hdb:(x == ("__debug__":Str)) = false:=by decide)
  (he:starEach (e :: es) X.env = (false,eval e X.env) :: starEach es X.env:=by rfl) (hpl:(backTo pos (starEach es X.env)).any (·.1) = false:=by rfl):PE X (.Call (.Name x p) (e :: es) [] pos) (tCB r t):=by
 intro pins s σ H Q I h
 refine wpAny_Call_Name_kw (ld_blt I hg hm hv ?_ hn hdb)
 exact PyProof.Rows.callWith_builtin1 (thn (ha pos pins s σ H _ I h) fun us s1 ⟨vs,H1,I1,r1,q1⟩=>hc pins s1 σ H1 vs us Q I1 r1 q1) he hpl
theorem pe_callTy (hc:CallR X (.type T) r) (hg:Gl X x) (hm:X.mg x = none) (hv:bootBuiltins x = some (.type T)) (ha:PA X (e :: es) t) (hn:x ≠ "__name__":=by decide) (hdb:(x == ("__debug__":Str)) = false:=by decide)
  (he:starEach (e :: es) X.env = (false,eval e X.env) :: starEach es X.env:=by rfl) (hpl:(backTo pos (starEach es X.env)).any (·.1) = false:=by rfl):PE X (.Call (.Name x p) (e :: es) [] pos) (tCB r t):=by
 intro pins s σ H Q I h
 refine wpAny_Call_Name_kw (ld_blt I hg hm hv ?_ hn hdb)
 exact PyProof.Rows.callWith_type1 (thn (ha pos pins s σ H _ I h) fun us s1 ⟨vs,H1,I1,r1,q1⟩=>hc pins s1 σ H1 vs us Q I1 r1 q1) he hpl
end
end L2
namespace HT
open PySem PyProof.Rows
noncomputable def lexLt:List Int -> List Int -> Bool
 | [],[]=>false
 | [],_ :: _=>true
 | _ :: _,[]=>false
 | x :: xs,y :: ys=>if x = y then lexLt xs ys else decide (x < y)
theorem lexLt_cons (x y:Int) (xs ys:List Int):lexLt (x :: xs) (y :: ys) = if x = y then lexLt xs ys else decide (x < y):=rfl
section
open PySem.SeqAt
open PySem.AutoSeq1 (wpAny_loadPart')
open PySem.MeetsSeq PySem.MeetsSeq2 PySem.MeetsSeq3
end
section
variable {prog:Program} {w:World} {A:Around} {E:Value -> Shared -> Prop} {s:Shared}
theorem cat_tup {t b:Addr} {vs ws:List Value} {Q:Value -> Shared -> Prop} (ht:IsTup s.heap t vs.toArray) (hb:IsTup s.heap b ws.toArray) (hv:vs ≠ [])
  (h1:ws = [] -> Q (.ref t) s) (h2:ws ≠ [] -> Q (.ref s.heap.objs.size) { s with heap:=s.heap.push { cls:=.type "tuple",data:=.seq (vs ++ ws).toArray } })
  (hsz:vs.length + ws.length <= sizeLine):wpAny (model prog w) A (binaryOp .Add (.ref t) (.ref b)) Q E s:=by
 obtain ⟨⟨cls,dd,data,sl⟩,ho,hc,n,hd⟩:=id ht
 obtain ⟨⟨cls2,dd2,data2,sl2⟩,ho2,hc2,n2,hd2⟩:=id hb
 simp only at hc hd hc2 hd2
 subst hc hd hc2 hd2
 have e:vs.toArray ++ ws.toArray = (vs ++ ws).toArray:=by simp
 by_cases hw:ws = []
 ·exact concat_meets ⟨_,ho,rfl⟩ ⟨_,ho2,rfl⟩ noFill_tuple_add seq_tuple_add PySem.F.slot_tuple_add PySem.F.entry_tuple_add (PySem.F.args_tuple_add_2 _ _)
   (tuple_addW1 t b vs.toArray ws.toArray n n2 dd dd2 sl sl2 (by simpa using hv) (by simp [hw])) ⟨ho,ho2,h1 hw⟩
 ·refine concat_meets ⟨_,ho,rfl⟩ ⟨_,ho2,rfl⟩ noFill_tuple_add seq_tuple_add PySem.F.slot_tuple_add PySem.F.entry_tuple_add (PySem.F.args_tuple_add_2 _ _)
   (tuple_addW2 t b vs.toArray ws.toArray n n2 dd dd2 sl sl2 (by simpa using hv) (by simpa using hw) (by rw [List.size_toArray,List.size_toArray]; exact hsz)) ⟨ho,ho2,?_⟩
  rw [e]
  exact h2 hw
noncomputable def sIx (n d:Nat):Option Int -> Nat
 | none=>d
 | some v=>if v < 0 then (v + (n:Int)).toNat else min v.toNat n
theorem sIx_le (n d:Nat) (hd:d <= n) (o:Option Int):sIx n d o <= n:=by
 cases o with
 | none=>exact hd
 | some v =>
  show (if v < 0 then (v + (n:Int)).toNat else min v.toNat n) <= n
  by_cases hv:v < 0
  ·rw [if_pos hv]; omega
  ·rw [if_neg hv]; exact Nat.min_le_right _ _
theorem clip_eq (v:Int) (n d:Nat):(if v < 0 then max (v + (n:Int)) 0 else min v (n:Int)) = ((sIx n d (some v):Nat):Int):=by
 show (if v < 0 then max (v + (n:Int)) 0 else min v (n:Int)) = (((if v < 0 then (v + (n:Int)).toNat else min v.toNat n):Nat):Int)
 by_cases hv:v < 0
 ·simp only [if_pos hv]; omega
 ·simp only [if_neg hv]; omega
theorem adjust_gen (lo hi:Option Int) (n:Nat):Builtin.Slice.sliceAdjust lo hi 1 (n:Int) = (((sIx n 0 lo:Nat):Int),((sIx n n hi:Nat):Int)):=by
 have h1:¬ ((1:Int) < 0):=by omega
 unfold Builtin.Slice.sliceAdjust
 simp only [h1,if_false]
 refine Prod.ext ?_ ?_
 ·cases lo with
  | none=>rfl
  | some v=>exact clip_eq v n 0
 ·cases hi with
  | none=>rfl
  | some v=>exact clip_eq v n n
theorem places_gen (i j:Nat):Builtin.Slice.slicePlaces (i:Int) (j:Int) 1 = j - i:=by
 unfold Builtin.Slice.slicePlaces
 have h1:(1:Int) > 0:=by omega
 simp only [h1,if_true,Int.ediv_one]
 split <;> omega
theorem slicePart_ {v:Value} {o:Option Int} {Q:Option Int -> Shared -> Prop} (p:IsPart v o) (h:Q o s):wpAny (model prog w) A (Builtin.Slice.slicePartIndex v) Q E s:=by
 cases p with
 | none=>exact slicePart_none h
 | int i t=>exact slicePart_int h
theorem sliceApplied_gen {sl:Addr} {vl vu:Value} {lo hi:Option Int} {n:Nat} {Q:Int × Int × Nat -> Shared -> Prop} (hs:s.heap.IsSliceOf sl vl vu .none) (pl:IsPart vl lo) (pu:IsPart vu hi)
  (h:Q (((sIx n 0 lo:Nat):Int),1,sIx n n hi - sIx n 0 lo) s):wpAny (model prog w) A (Builtin.Slice.sliceApplied (.ref sl) (pure (n:Int))) Q E s:=by
 obtain ⟨os,hos,hcs,hds⟩:=id hs
 unfold Builtin.Slice.sliceApplied Builtin.Slice.sliceFields
 refine wpAny_bind (wpAny_bind (wpAny_field hos hds (x:=vl) rfl (wpAny_bind (wpAny_field hos hds (x:=vu) rfl (wpAny_bind (wpAny_field hos hds (x:=.none) rfl (wpAny_pure ?_)))))))
 refine wpAny_bind (slicePart_none ?_)
 show wpAny _ _ (if ((1:Int) == 0) = true then _ else _) _ _ s
 rw [if_neg (by decide)]
 refine wpAny_bind (slicePart_ pl (wpAny_bind (slicePart_ pu (wpAny_bind (wpAny_pure ?_)))))
 show wpAny _ _ (match Builtin.Slice.sliceAdjust lo hi 1 (n:Int) with | (lo,hi)=>pure (lo,(1:Int),Builtin.Slice.slicePlaces lo hi 1)) _ _ s
 rw [adjust_gen lo hi n]
 show wpAny _ _ (pure (((sIx n 0 lo:Nat):Int),(1:Int),Builtin.Slice.slicePlaces ((sIx n 0 lo:Nat):Int) ((sIx n n hi:Nat):Int) 1)) _ _ s
 rw [places_gen]
 exact wpAny_pure h
theorem pick_gen (xs:Array Value) (i k:Nat):((List.range k).filterMap fun (m:Nat)=>xs[((i:Int) + (m:Int) * 1).toNat]?).toArray = ((xs.toList.drop i).take k).toArray:=by
 have e:(fun (m:Nat)=>xs[((i:Int) + (m:Int) * 1).toNat]?) = fun m=>xs[i + m]?:=by
  funext m
  have:((i:Int) + (m:Int) * 1).toNat = i + m:=by omega
  rw [this]
 rw [e]
 have:=pick_run xs i k
 rw [List.filterMap_map] at this
 have e2:((fun x=>xs[x]?) ∘ fun x=>i + x) = fun m=>xs[i + m]?:=rfl
 rw [e2] at this
 rw [this]
theorem getItem_tuple_cut {t sl:Addr} {items:Array Value} {vl vu:Value} {lo hi:Option Int} {Q:Value -> Shared -> Prop} (ht:IsTup s.heap t items) (hs:s.heap.IsSliceOf sl vl vu .none) (pl:IsPart vl lo) (pu:IsPart vu hi)
  (hw:¬ (sIx items.size 0 lo = 0 /\ sIx items.size items.size hi = items.size))
  (h:Q (.ref s.heap.objs.size) { s with heap:=s.heap.push { cls:=.type "tuple",data:=.seq ((items.toList.drop (sIx items.size 0 lo)).take (sIx items.size items.size hi - sIx items.size 0 lo)).toArray } })
  (hsz:items.size <= sizeLine):wpAny (model prog w) A (getItem (.ref t) (.ref sl)) Q E s:=by
 have htake:sizeOk (.seq ((items.toList.drop (sIx items.size 0 lo)).take (sIx items.size items.size hi - sIx items.size 0 lo)).toArray):=by
  show ((items.toList.drop (sIx items.size 0 lo)).take (sIx items.size items.size hi - sIx items.size 0 lo)).toArray.size <= sizeLine
  rw [List.size_toArray,List.length_take,List.length_drop,Array.length_toList]
  omega
 have hj:sIx items.size items.size hi <= items.size:=sIx_le _ _ (Nat.le_refl _) hi
 obtain ⟨os,hos,hcs,hds⟩:=id hs
 have hTs:s.TypeIs (.ref sl) "slice":=⟨os,hos,hcs⟩
 unfold getItem
 try with_reducible refine wpAny_holding ?_
 first | refine wpAny_bind (wpAny_pure ?_) | skip
 refine wpAny_bind (wpAny_sequenceKey ht.typeIs (by decide) ?_)
 refine wpAny_bind (wpAny_callSpecial?_slot (name:=Str.ofString "__getitem__") ht.typeIs PyProof.Rows.slot_tuple_getitem
   (wpAny_call_entry PyProof.Rows.slot_tuple_getitem ht.typeIs entry_tuple_getitem ?_ (args_tuple_getitem _ _)))
 show wpAny _ _ (Builtin.Tuple.tupleItemsOf (.ref t) >>= _) _ _ s
 refine wpAny_bind (tupleItemsOf_ ht ?_)
 refine wpAny_bind (wpAny_typeOf hTs ?_)
 rw [if_pos (by decide)]
 refine wpAny_bind (sliceApplied_gen hs pl pu ?_)
 have hno:¬ ((((sIx items.size 0 lo:Nat):Int) == 0 && (1:Int) == 1 && (sIx items.size items.size hi - sIx items.size 0 lo) == items.size) = true):=by
  intro q
  rw [Bool.and_eq_true,Bool.and_eq_true] at q
  have q1:((sIx items.size 0 lo:Nat):Int) = 0:=eq_of_beq q.1.1
  have q2:sIx items.size items.size hi - sIx items.size 0 lo = items.size:=eq_of_beq q.2
  exact hw ⟨by omega,by omega⟩
 show wpAny _ _ (if (((sIx items.size 0 lo:Nat):Int) == 0 && (1:Int) == 1 && (sIx items.size items.size hi - sIx items.size 0 lo) == items.size) = true then _ else _) _ _ s
 rw [if_neg hno,pick_gen]
 first
  | exact wpAny_bind (m:=Builtin.Tuple.tupleExact _) (wpAny_newObj_type (wpAny_pure ⟨_,rfl,wpAny_pure h⟩) htake)
  | exact wpAny_bind (m:=Builtin.Tuple.tupleExact _) (wpAny_newObj_type (wpAny_bind (wpAny_pure (wpAny_pure ⟨_,rfl,wpAny_pure h⟩))) htake)
  | exact wpAny_bind (wpAny_bind (m:=Builtin.Tuple.tupleExact _) (wpAny_newObj_type (wpAny_pure (wpAny_pure ⟨_,rfl,wpAny_pure h⟩)) htake))
  | exact wpAny_bind (wpAny_bind (m:=Builtin.Tuple.tupleExact _) (wpAny_newObj_type (wpAny_pure ⟨_,rfl,wpAny_pure h⟩) htake))
end
end HT
namespace L2
open PySem PySem.Spec PyProof.Rows
noncomputable abbrev TO:=St -> Hp -> (Option Int -> Hp -> Prop) -> Prop
noncomputable def PO (X:Cx) (e:Option Expr) (t:TO):Prop :=
 ∀ (pins:List (Addr × Obj)) (s:Shared) (σ:St) (H:Hp) (Q:Option Int -> Hp -> Prop),Inv X pins σ H s -> t σ H Q ->
  wpAny (model X.prog X.w) X.A (evalPart e X.env) (fun u s'=>∃ o H',Inv X pins σ H' s' /\ IsPart u o /\ Q o H') X.xe s
noncomputable def tNoPart:TO:=fun _ H Q=>Q none H
noncomputable def tPart (t:TE):TO:=fun σ H Q=>t σ H fun x H1=>∃ i,x = .int i /\ Q (some i) H1
theorem intsAre_of {ns:List Int}:∀ {us:List Value},Vals (ns.map V.int) us -> IntsAre us ns:=by
 induction ns with
 | nil=>intro us r; rw [List.map_nil] at r; cases r; exact .nil
 | cons n ns ih =>
  intro us r
  rw [List.map_cons] at r
  cases r with
  | cons r1 r2 =>
   obtain ⟨t,e⟩:=r1
   subst e
   exact .cons n t (ih r2)
section
variable {X:Cx} {e:Expr} {te:TE} {lo hi:Option Expr} {tl th:TO} {pos p2:Pos}
theorem po_none:PO X none tNoPart:=by
 intro pins s σ H Q I h
 rw [evalPart_none]
 exact wpAny_pure ⟨none,H,I,.none,h⟩
theorem po_some (h:PE X e te):PO X (some e) (tPart te):=by
 intro pins s σ H Q I hw
 rw [evalPart_some]
 refine thn (h pins s σ H _ I hw) fun u s1 ⟨x,H1,I1,r1,q1⟩=>?_
 obtain ⟨i,rfl,q⟩:=q1
 obtain ⟨t,rfl⟩:=r1
 exact ⟨some i,H1,I1,.int i t,q⟩
noncomputable def SlR (X:Cx) (r:V -> Option Int -> Option Int -> Hp -> VK -> Prop):Prop :=
 ∀ (pins:List (Addr × Obj)) (s:Shared) (σ:St) (H:Hp) (x:V) (v vl vu:Value) (lo hi:Option Int) (sl:Addr) (Q:VK),Inv X pins σ H s -> RelV x v -> s.heap.IsSliceOf sl vl vu .none -> IsPart vl lo -> IsPart vu hi -> r x lo hi H Q ->
  ∃ T id,typeLookup (.type T) "__getitem__" = pure (some (.builtin id)) /\ s.TypeIs v T /\ wpAny (model X.prog X.w) X.A (getItem v (.ref sl)) (EP X pins σ Q) X.xe s
noncomputable def tSl (r:V -> Option Int -> Option Int -> Hp -> VK -> Prop) (te:TE) (tl th:TO):TE:=fun σ H Q=>te σ H fun x H1=>tl σ H1 fun l H2=>th σ H2 fun u H3=>r x l u H3 Q
theorem pe_slice {r:V -> Option Int -> Option Int -> Hp -> VK -> Prop} (hr:SlR X r) (he:PE X e te) (hl:PO X lo tl) (hu:PO X hi th):PE X (.Subscript e (.Slice lo hi none p2) pos) (tSl r te tl th):=by
 intro pins s σ H Q I h
 refine Subscript_ (thn (he pins s σ H _ I h) fun v s1 ⟨x,H1,I1,r1,q1⟩=>?_)
 refine wpAny_Slice (thn (hl pins s1 σ H1 _ I1 q1) fun vl s2 ⟨l,H2,I2,pl,q2⟩=>thn (hu pins s2 σ H2 _ I2 q2) fun vu s3 ⟨u,H3,I3,pu,q3⟩=>?_)
 rw [evalPart_none]
 refine wpAny_pure ?_
 have I4:Inv X pins σ H3 { s3 with heap:=s3.heap.push { cls:=.type "slice",data:=.fields #[vl,vu,.none] } }:=I3.kept (t':=s3.toks) fun b ob q=>Heap.get?_push_of_some _ q
 obtain ⟨T,id,hT,ht,hg⟩:=hr pins { s3 with heap:=s3.heap.push { cls:=.type "slice",data:=.fields #[vl,vu,.none] } } σ H3 x v vl vu l u s3.heap.objs.size Q I4 r1 (Heap.IsSliceOf.new ..) pl pu q3
 show wpAny (model X.prog X.w) X.A (subscriptTail e (.Slice lo hi none p2) v (.ref s3.heap.objs.size)) (EP X pins σ Q) X.xe { s3 with heap:=s3.heap.push { cls:=.type "slice",data:=.fields #[vl,vu,.none] } }
 exact tail_any (ops:=[.ref s3.heap.objs.size,v]) ht hT hg (by with_unfolding_all rfl)
noncomputable def cutV (xs:List V) (lo hi:Option Int):List V:=(xs.drop (HT.sIx xs.length 0 lo)).take (HT.sIx xs.length xs.length hi - HT.sIx xs.length 0 lo)
theorem cutV_length (xs:List V) (lo hi:Option Int):(cutV xs lo hi).length <= xs.length:=by
 unfold cutV
 rw [List.length_take,List.length_drop]
 omega
noncomputable def rSlT (K:PySem.W.Frag):V -> Option Int -> Option Int -> Hp -> VK -> Prop:=fun x lo hi H Q=>∃ a xs,x = .ref a /\ SqT K H a xs /\
 ¬ (HT.sIx xs.length 0 lo = 0 /\ HT.sIx xs.length xs.length hi = xs.length) /\ ∀ p,H p = none -> Q (.ref p) (upd H p (.tup (cutV xs lo hi)))
theorem sl_tup:SlR X (rSlT X.K):=by
 intro pins s σ H x v vl vu lo hi sl Q I rx hs pl pu h
 obtain ⟨a,xs,rfl,hx,hw,q⟩:=h
 cases rx
 obtain ⟨its,r,ht,hz⟩:=I.tuple hx
 have hlen:its.toArray.size = xs.length:=by rw [List.size_toArray]; exact r.length.symm
 refine ⟨"tuple",_,PyProof.Rows.slot_tuple_getitem.lookup,ht.typeIs,?_⟩
 refine HT.getItem_tuple_cut ht hs pl pu (by rw [hlen]; exact hw) ?_ (by rw [hlen]; exact hz)
 rw [hlen]
 refine ⟨.ref s.heap.objs.size,_,I.laid (t':=s.toks) (o:=.tup (cutV xs lo hi)) (fun b ob q=>Heap.get?_push_of_some _ q) (Nat.le_refl _) ?_,rfl,q _ (I.hok.fresh (Nat.le_refl _))⟩
 exact ⟨Nat.le_trans (cutV_length xs lo hi) hz,_,(r.drop (HT.sIx xs.length 0 lo)).take (HT.sIx xs.length xs.length hi - HT.sIx xs.length 0 lo),IsTupD.new _ _⟩
noncomputable def rCatT (K:PySem.W.Frag):R2:=fun x y H Q=>∃ a b xs ys,x = .ref a /\ y = .ref b /\ SqT K H a xs /\ SqT K H b ys /\ xs ≠ [] /\ xs.length + ys.length <= sizeLine /\
 (ys = [] -> Q (.ref a) H) /\ (ys ≠ [] -> ∀ p,H p = none -> Q (.ref p) (upd H p (.tup (xs ++ ys))))
theorem Vals.nil_iff {xs:List V} {us:List Value} (r:Vals xs us):us = [] ↔ xs = []:=by
 cases r with
 | nil=>simp
 | cons _ _=>simp
theorem op_catT:OpR X (binaryOp .Add) (rCatT X.K):=by
 intro pins s σ H x y v u Q I rx ry h
 obtain ⟨a,b,xs,ys,rfl,rfl,ha,hb,hx,hz,q1,q2⟩:=h
 cases rx
 cases ry
 obtain ⟨its,r1,p1,_⟩:=I.tuple ha
 obtain ⟨its2,r2,p2,_⟩:=I.tuple hb
 refine HT.cat_tup p1 p2 (fun z=>hx (r1.nil_iff.mp z)) (fun z=>⟨.ref a,H,I,rfl,q1 (r2.nil_iff.mp z)⟩) (fun z=>?_) (by rw [<- r1.length,<- r2.length]; exact hz)
 refine ⟨.ref s.heap.objs.size,_,I.laid (t':=s.toks) (o:=.tup (xs ++ ys)) (fun b ob q=>Heap.get?_push_of_some _ q) (Nat.le_refl _) ?_,rfl,q2 (fun w=>z (r2.nil_iff.mpr w)) _ (I.hok.fresh (Nat.le_refl _))⟩
 exact ⟨by rw [List.length_append]; exact hz,_,r1.append r2,IsTupD.new _ _⟩
end
end L2
namespace L2
open PySem PySem.Spec PyProof.Rows
noncomputable def ixN (n:Nat) (i:Int):Option Nat:=if 0 <= i then (if i < n then some i.toNat else none) else if -(n:Int) <= i then some (i + n).toNat else none
noncomputable def atI {α:Type} (xs:List α) (i:Int):Option α:=(ixN xs.length i).bind fun j=>xs[j]?
theorem ixN_seq {n:Nat} {i:Int} {j:Nat} (h:ixN n i = some j):seqIndex? i n = some j /\ j < n /\ -(n:Int) <= i /\ i < n:=by
 unfold ixN at h
 by_cases h0:0 <= i
 ·rw [if_pos h0] at h
  by_cases h1:i < n
  ·rw [if_pos h1] at h
   have e:i.toNat = j:=Option.some.inj h
   exact ⟨by rw [seqIndex_of h0 h1,e],by omega,by omega,h1⟩
  ·rw [if_neg h1] at h; cases h
 ·rw [if_neg h0] at h
  by_cases h1:-(n:Int) <= i
  ·rw [if_pos h1] at h
   have e:(i + n).toNat = j:=Option.some.inj h
   exact ⟨by rw [seqIndex_neg (by omega) h1,e],by omega,h1,by omega⟩
  ·rw [if_neg h1] at h; cases h
theorem atI_get {α:Type} {xs:List α} {i:Int} {v:α} (h:atI xs i = some v):∃ j,seqIndex? i xs.length = some j /\ xs[j]? = some v /\ j < xs.length /\ -(xs.length:Int) <= i /\ i < xs.length:=by
 unfold atI at h
 cases e:ixN xs.length i with
 | none=>rw [e] at h; cases h
 | some j =>
  rw [e] at h
  obtain ⟨h1,h2,h3,h4⟩:=ixN_seq e
  exact ⟨j,h1,h,h2,h3,h4⟩
theorem atI_nat {α:Type} {xs:List α} {j:Nat} {v:α} (h:xs[j]? = some v):atI xs (j:Int) = some v:=by
 have hj:j < xs.length:=(List.getElem?_eq_some_iff.mp h).1
 have e:ixN xs.length (j:Int) = some j:=by
  unfold ixN
  rw [if_pos (by omega),if_pos (by omega)]; simp
 unfold atI; rw [e]; exact h
noncomputable def PlainIx (b:Expr):Prop:=∀ o i,subscripted b false o i = operate [o,i] (getItem o i)
noncomputable def IxR (X:Cx) (r:R2):Prop :=
 ∀ (value slice:Expr) (pins:List (Addr × Obj)) (s:Shared) (σ:St) (H:Hp) (x y:V) (v u:Value) (Q:VK),Inv X pins σ H s -> RelV x v -> RelV y u -> r x y H Q ->
  subscripted slice false v u = operate [v,u] (getItem v u) -> wpAny (model X.prog X.w) X.A (subscriptTail value slice v u) (EP X pins σ Q) X.xe s
noncomputable def MtR (X:Cx) (id:String) (r:V -> List V -> Hp -> VK -> Prop):Prop :=
 ∀ (pins:List (Addr × Obj)) (s:Shared) (σ:St) (H:Hp) (x:V) (xs:List V) (v:Value) (us:List Value) (Q:VK),Inv X pins σ H s -> RelV x v -> Vals xs us -> r x xs H Q ->
  wpAny (model X.prog X.w) X.A (call (.builtin id) (v :: us)) (EP X pins σ Q) X.xe s
section
variable {X:Cx} {a b:Expr} {ta tb:TE} {pos:Pos}
theorem IxR.or {r r':R2} (h:IxR X r) (h':IxR X r'):IxR X (fun x y H Q=>r x y H Q \/ r' x y H Q):=by
 intro value slice pins s σ H x y v u Q I rx ry q hs
 rcases q with q | q
 ·exact h value slice pins s σ H x y v u Q I rx ry q hs
 ·exact h' value slice pins s σ H x y v u Q I rx ry q hs
theorem pe_ix {r:R2} (hr:IxR X r) (ha:PE X a ta) (hb:PE X b tb) (hs:PlainIx b):PE X (.Subscript a b pos) (tOp r ta tb):=by
 intro pins s σ H Q I h
 exact Subscript_ (binT ha hb I h fun v u s2 x y H2 I2 rx ry q=>hr a b pins s2 σ H2 x y v u Q I2 rx ry q (hs _ _))
noncomputable def rIxL (K:PySem.W.Frag):R2:=fun x y H Q=>∃ p xs i v,x = .ref p /\ y = .int i /\ SqL K H p xs /\ atI xs i = some v /\ Q v H
noncomputable def rIxT (K:PySem.W.Frag):R2:=fun x y H Q=>∃ p xs i v,x = .ref p /\ y = .int i /\ SqT K H p xs /\ atI xs i = some v /\ Q v H
theorem ix_list:IxR X (rIxL X.K):=by
 intro value slice pins s σ H x y v u Q I rx ry h hs
 obtain ⟨p,xs,i,z,rfl,rfl,hq,he,q⟩:=h
 cases rx
 obtain ⟨t,rfl⟩:=ry
 obtain ⟨its,r,pl,hz⟩:=I.list hq
 obtain ⟨j,h1,h2,h3,h4,h5⟩:=atI_get he
 obtain ⟨w,ew,rw'⟩:=r.get h2
 have hl:=r.length
 have hn:=line63
 have fin:EP X pins σ Q w s:=⟨z,H,I,rw',q⟩
 by_cases h0:0 <= i
 ·have hj:i.toNat = j:=by
   rw [seqIndex_of h0 h5] at h1
   exact Option.some.inj h1
  exact item_listR pl.isList h0 (by omega) (by rw [hj]; simpa using ew) fin hs
 ·have hj:(i + (its.toArray.size:Int)).toNat = j:=by
   rw [seqIndex_neg (by omega) h4] at h1
   rw [List.size_toArray,<- hl]
   exact Option.some.inj h1
  exact subscriptTail_builtinR (x:=w) pl.isList.typeIs slot_list_getitem.lookup
   (wpAny_getItem_list_neg (Q:=fun r s'=>r = w /\ EP X pins σ Q r s') pl.isList (by omega) (by rw [List.size_toArray] <;> omega) (by omega) (by rw [hj]; simpa using ew) ⟨rfl,fin⟩) hs
theorem ix_tup:IxR X (rIxT X.K):=by
 intro value slice pins s σ H x y v u Q I rx ry h hs
 obtain ⟨p,xs,i,z,rfl,rfl,hq,he,q⟩:=h
 cases rx
 obtain ⟨t,rfl⟩:=ry
 obtain ⟨its,r,pl,hz⟩:=I.tuple hq
 obtain ⟨j,h1,h2,h3,h4,h5⟩:=atI_get he
 obtain ⟨w,ew,rw'⟩:=r.get h2
 have hl:=r.length
 have hn:=line63
 have fin:EP X pins σ Q w s:=⟨z,H,I,rw',q⟩
 exact subscriptTail_builtinR (x:=w) pl.typeIs slot_tuple_getitem.lookup
  (getItem_tuple (j:=j) (Q:=fun r s'=>r = w /\ EP X pins σ Q r s') pl (by omega) (by omega) (by rw [List.size_toArray,<- hl]; exact h1) (by simpa using ew) ⟨rfl,fin⟩) hs
theorem mapSeq_set (its:List Value) (n j:Nat) (u:Value):Obj.mapSeq (·.setIfInBounds j u) { cls:=.type "list",data:=.seq its.toArray n } = { cls:=.type "list",data:=.seq (its.set j u).toArray n }:=by
 simp [Obj.mapSeq]
theorem Inv.lst {pins:List (Addr × Obj)} {σ:St} {H:Hp} {s:Shared} {p:Addr} {xs:List V} (I:Inv X pins σ H s) (h:H p = some (.lst xs)) :
  ∃ (its:List Value) (n:Nat),Vals xs its /\ s.heap.get? p = some { cls:=.type "list",data:=.seq its.toArray n } /\ xs.length <= sizeLine:=by
 obtain ⟨z,its,n,r,e⟩:=I.hok p _ h
 exact ⟨its,n,r,e,z⟩
theorem Inv.lstUpd {pins:List (Addr × Obj)} {σ:St} {H:Hp} {s:Shared} {p:Addr} {xs ys:List V} {its its':List Value} {n n':Nat} {f:Obj -> Obj} (I:Inv X pins σ H s) (h:H p = some (.lst xs))
  (ho:s.heap.get? p = some { cls:=.type "list",data:=.seq its.toArray n }) (hf:f { cls:=.type "list",data:=.seq its.toArray n } = { cls:=.type "list",data:=.seq its'.toArray n' }) (r:Vals ys its') (hz:ys.length <= sizeLine) (t:Nat) :
  Inv X pins σ (upd H p (.lst ys)) { s with heap:=s.heap.update p f,toks:=t }:=by
 have e:(s.heap.update p f).get? p = some { cls:=.type "list",data:=.seq its'.toArray n' }:=by
  rw [Heap.get?_update_self f ho (by rw [hf] <;> rfl),hf]
 refine I.write (x:=p) (e:=p) (by rw [h]; trivial) (.inl rfl) (fun b u hb q=>(Heap.get?_update_other _ _ (Ne.symm hb)).trans q) ⟨_,e⟩ ?_
 exact ⟨hz,its',n',r,e⟩
noncomputable def rSetL:V -> V -> V -> Hp -> (Hp -> Prop) -> Prop:=fun o i v H Q=>∃ p xs k j,o = .ref p /\ i = .int k /\ H p = some (.lst xs) /\ ixN xs.length k = some j /\ Q (upd H p (.lst (xs.set j v)))
theorem set_list:PSet X rSetL:=by
 intro pins s σ H o i v ov iv u Q I ro ri rv h
 obtain ⟨p,xs,k,j,rfl,rfl,hp,hj,q⟩:=h
 cases ro
 obtain ⟨t,rfl⟩:=ri
 obtain ⟨its,n,r,ho,hz⟩:=I.lst hp
 obtain ⟨h1,h2,h3,h4⟩:=ixN_seq hj
 have hl:=r.length
 have hn:=line63
 have I':Inv X pins σ (upd H p (.lst (xs.set j v))) { s with heap:=s.heap.update p (Obj.mapSeq (·.setIfInBounds j u)) } :=
  I.lstUpd hp ho (mapSeq_set its n j u) (r.set rv j) (by rw [List.length_set]; exact hz) s.toks
 by_cases h0:0 <= k
 ·have hk:k.toNat = j:=by
   rw [seqIndex_of h0 h4] at h1
   exact Option.some.inj h1
  exact PySem.W.ki_setAt ho h0 (by omega) (by rw [List.size_toArray,<- hl]; exact h4) (by rw [hk]; exact ⟨_,I',q⟩)
 ·have hk:(k + (its.toArray.size:Int)).toNat = j:=by
   rw [seqIndex_neg (by omega) h3] at h1
   rw [List.size_toArray,<- hl]
   exact Option.some.inj h1
  exact PySem.W.ki_setBack ho (by omega) (by rw [List.size_toArray,<- hl]; exact h3) (by omega) (by rw [hk]; exact ⟨_,I',q⟩)
noncomputable def flatV:V -> Bool
 | .non=>true
 | .bl _=>true
 | .int _=>true
 | .str _=>true
 | _=>false
noncomputable def eqV:V -> V -> Bool
 | .non,.non=>true
 | .bl a,.bl b=>a == b
 | .bl a,.int b=>(if a then 1 else 0) == b
 | .int a,.bl b=>a == (if b then 1 else 0)
 | .int a,.int b=>a == b
 | .str a,.str b=>a == b
 | _,_=>false
theorem eqAt_V {A:Around} {s:Shared} {y x:V} {u v:Value} (ry:RelV y u) (rx:RelV x v) (fy:flatV y = true) (fx:flatV x = true):SeqAt.EqAt A s u v (eqV y x):=by
 cases y with
 | non =>
  cases ry
  cases x with
  | non=>cases rx; exact SeqAt.EqAt.same _
  | bl b=>cases rx; exact SeqAt.EqAt.none_bool b
  | int b=>obtain ⟨t,rfl⟩:=rx; exact SeqAt.EqAt.none_int b t
  | str b=>obtain ⟨t,rfl⟩:=rx; exact SeqAt.EqAt.none_str b t
  | _=>exact absurd (show false = true from fx) Bool.false_ne_true
 | bl a =>
  cases ry
  cases x with
  | non=>cases rx; exact SeqAt.EqAt.bool_none a
  | bl b=>cases rx; exact SeqAt.EqAt.bool_bool a b
  | int b=>obtain ⟨t,rfl⟩:=rx; exact SeqAt.EqAt.bool_int a b t
  | str b=>obtain ⟨t,rfl⟩:=rx; exact SeqAt.EqAt.bool_str a b t
  | _=>exact absurd (show false = true from fx) Bool.false_ne_true
 | int a =>
  obtain ⟨t',rfl⟩:=ry
  cases x with
  | non=>cases rx; exact SeqAt.EqAt.int_none a t'
  | bl b=>cases rx; exact SeqAt.EqAt.int_bool a t' b
  | int b=>obtain ⟨t,rfl⟩:=rx; exact SeqAt.EqAt.int_int a t' b t
  | str b=>obtain ⟨t,rfl⟩:=rx; exact SeqAt.EqAt.int_str a t' b t
  | _=>exact absurd (show false = true from fx) Bool.false_ne_true
 | str a =>
  obtain ⟨t',rfl⟩:=ry
  cases x with
  | non=>cases rx; exact SeqAt.EqAt.str_none a t'
  | bl b=>cases rx; exact SeqAt.EqAt.str_bool a t' b
  | int b=>obtain ⟨t,rfl⟩:=rx; exact SeqAt.EqAt.str_int a t' b t
  | str b=>obtain ⟨t,rfl⟩:=rx; exact SeqAt.EqAt.str_str a t' b t
  | _=>exact absurd (show false = true from fx) Bool.false_ne_true
 | _=>exact absurd (show false = true from fy) Bool.false_ne_true
noncomputable def eqU (x:V) (u:Value):Bool:=match u with
 | .none=>eqV .non x
 | .bool b=>eqV (.bl b) x
 | .int i _=>eqV (.int i) x
 | .str z _=>eqV (.str z) x
 | _=>false
theorem eqU_of {x y:V} {u:Value} (r:RelV y u) (f:flatV y = true):eqU x u = eqV y x:=by
 cases y with
 | non=>cases r; rfl
 | bl b=>cases r; rfl
 | int i=>obtain ⟨t,rfl⟩:=r; rfl
 | str z=>obtain ⟨t,rfl⟩:=r; rfl
 | _=>exact absurd (show false = true from f) Bool.false_ne_true
theorem any_eqU {x:V}:∀ {xs:List V} {us:List Value},Vals xs us -> xs.all flatV = true -> us.any (eqU x) = xs.any fun y=>eqV y x
 | _,_,.nil,_=>rfl
 | y :: xs,u :: us,.cons r t,f=>by
  rw [List.all_cons,Bool.and_eq_true] at f
  rw [List.any_cons,List.any_cons,eqU_of r f.1,any_eqU t f.2]
theorem mem_eqAt {A:Around} {s:Shared} {x:V} {v:Value} (rx:RelV x v) (fx:flatV x = true):∀ {xs:List V} {us:List Value},Vals xs us -> xs.all flatV = true -> ∀ u ∈ us,SeqAt.EqAt A s u v (eqU x u)
 | _,_,.nil,_=>fun u hu=>by cases hu
 | y :: xs,u :: us,.cons r t,f=>fun u' hu=>by
  rw [List.all_cons,Bool.and_eq_true] at f
  rcases List.mem_cons.mp hu with rfl | hu
  ·rw [eqU_of r f.1]; exact eqAt_V r rx f.1 fx
  ·exact mem_eqAt rx fx t f.2 u' hu
noncomputable def inV (x:V) (xs:List V):Bool:=xs.any fun y=>eqV y x
noncomputable def rIn (K:PySem.W.Frag) (neg:Bool):R2:=fun x y H Q=>∃ p xs,y = .ref p /\ (SqL K H p xs \/ SqT K H p xs) /\ flatV x = true /\ xs.all flatV = true /\ Q (.bl (if neg then !inV x xs else inV x xs)) H
theorem op_in_seq:OpR X (compareOp .In) (rIn X.K false):=by
 intro pins s σ H x y v u Q I rx ry h
 obtain ⟨p,xs,rfl,hq,fx,fs,q⟩:=h
 cases ry
 rcases hq with hq | hq
 ·obtain ⟨its,r,pl,hz⟩:=I.list hq
  refine SeqAt.in_listAt (eqU x) pl.isList (fun w hw=>mem_eqAt rx fx r fs w (by simpa using hw)) ⟨.bl _,H,I,rfl,?_⟩
  rw [show its.toArray.any (eqU x) = its.any (eqU x) by simp,any_eqU r fs]
  exact q
 ·obtain ⟨its,r,pl,hz⟩:=I.tuple hq
  refine SeqAt.in_tupleAt (eqU x) pl (fun w hw=>mem_eqAt rx fx r fs w (by simpa using hw)) ⟨.bl _,H,I,rfl,?_⟩
  rw [show its.toArray.any (eqU x) = its.any (eqU x) by simp,any_eqU r fs]
  exact q
theorem call_len_seq:CallR X (.builtin "len") (fun xs H Q=>∃ p ys,xs = [.ref p] /\ (SqL X.K H p ys \/ SqT X.K H p ys) /\ Q (.int ys.length) H):=by
 intro pins s σ H xs us Q I r h
 obtain ⟨p,ys,rfl,hq,q⟩:=h
 obtain ⟨u,rfl,rx⟩:=vals1 r
 cases rx
 have hn:=line63
 rcases hq with hq | hq
 ·obtain ⟨its,r',pl,hz⟩:=I.list hq
  have hlen:=r'.length
  exact Calls.call_len_list pl.isList (by simp only [List.size_toArray] <;> omega) ⟨.int ys.length,H,I.tok _,⟨s.toks + 1,by rw [List.size_toArray,hlen]⟩,q⟩
 ·obtain ⟨its,r',pl,hz⟩:=I.tuple hq
  have hlen:=r'.length
  exact len_tuple pl (by simp only [List.size_toArray] <;> omega) ⟨.int ys.length,H,I.tok _,⟨s.toks + 1,by rw [List.size_toArray,hlen]⟩,q⟩
theorem call_list_of:CallR X (.type "list") (fun xs H Q=>∃ p ys,xs = [.ref p] /\ (SqL X.K H p ys \/ SqT X.K H p ys) /\ ∀ l,H l = none -> Q (.ref l) (upd H l (.lst ys))):=by
 intro pins s σ H xs us Q I r h
 obtain ⟨p,ys,rfl,hq,q⟩:=h
 obtain ⟨u,rfl,rx⟩:=vals1 r
 cases rx
 have fin:∀ (its:List Value),Vals ys its -> ys.length <= sizeLine -> ∀ (h':Heap) (c':Nat),(∀ b o',s.heap.get? b = some o' -> h'.get? b = some o') ->
   h'.get? s.heap.objs.size = some { cls:=.type "list",dict:=none,data:=.seq its.toArray c',slots:=#[] } -> EP X pins σ Q (.ref s.heap.objs.size) { s with heap:=h' }:=fun its r' hz h' c' kp e =>
  ⟨.ref s.heap.objs.size,_,I.laid (t':=s.toks) kp (Nat.le_refl _) (show ObjOk X.prog X.w _ h' _ (.lst ys) from ⟨hz,its,c',r',e⟩),rfl,q _ (I.hok.fresh (Nat.le_refl _))⟩
 rcases hq with hq | hq
 ·obtain ⟨its,r',pl,hz⟩:=I.list hq
  have hlen:=r'.length
  obtain ⟨o,ho,hc,n,hd⟩:=pl.isList
  exact call_list_seq p (.inl rfl) ho hc hd (fun h' c' kp e=>fin its r' hz h' c' kp e) (by simp only [List.size_toArray] <;> omega)
 ·obtain ⟨its,r',pl,hz⟩:=I.tuple hq
  have hlen:=r'.length
  obtain ⟨o,ho,hc,n,hd⟩:=pl
  exact call_list_seq p (.inr rfl) ho hc hd (fun h' c' kp e=>fin its r' hz h' c' kp e) (by simp only [List.size_toArray] <;> omega)
theorem call_tuple_of:CallR X (.type "tuple") (fun xs H Q=>∃ p ys,xs = [.ref p] /\ ((SqL X.K H p ys /\ ∀ l,H l = none -> Q (.ref l) (upd H l (.tup ys))) \/ (SqT X.K H p ys /\ Q (.ref p) H))):=by
 intro pins s σ H xs us Q I r h
 obtain ⟨p,ys,rfl,h⟩:=h
 obtain ⟨u,rfl,rx⟩:=vals1 r
 cases rx
 rcases h with ⟨hq,q⟩ | ⟨hq,q⟩
 ·obtain ⟨its,r',pl,hz⟩:=I.list hq
  have hlen:=r'.length
  refine call_tuple_list pl.isList (fun h' kp=>?_) (by simp only [List.size_toArray] <;> omega)
  have I1:Inv X pins σ H { s with heap:=h' }:=I.kept (t':=s.toks) kp
  have I2:Inv X pins σ (upd H h'.objs.size (.tup ys)) { s with heap:=h'.push { cls:=.type "tuple",data:=.seq its.toArray } } :=
   I1.laid (t':=s.toks) (fun b o e=>Heap.get?_push_of_some _ e) (Nat.le_refl _) (show ObjOk X.prog X.w _ _ _ (.tup ys) from ⟨hz,its,r',IsTupD.new _ _⟩)
  exact ⟨.ref h'.objs.size,_,I2,rfl,q _ (I1.hok.fresh (Nat.le_refl _))⟩
 ·obtain ⟨its,r',pl,hz⟩:=I.tuple hq
  exact call_tuple_same pl ⟨.ref p,H,I,rfl,q⟩
noncomputable def tyV (K:PySem.W.Frag) (T:String) (x:V) (H:Hp):Prop:=match x with
 | .str _=>T = "str"
 | .int _=>T = "int"
 | .ref p=>(T = "list" /\ ∃ xs,SqL K H p xs) \/ (T = "tuple" /\ ∃ o,K.lookup p = some o /\ o.cls = .type "tuple" /\ o.dict = none) \/
   (T = "dict" /\ ((∃ kvs,H p = some (.dK kvs)) \/ ∃ kvs,H p = some (.dT kvs))) \/ (T = "set" /\ ∃ S n,H p = some (.set S n))
 | _=>False
theorem tyV_is {pins:List (Addr × Obj)} {σ:St} {H:Hp} {s:Shared} {T:String} {x:V} {v:Value} (I:Inv X pins σ H s) (r:RelV x v) (ty:tyV X.K T x H) :
  s.TypeIs v T /\ ∀ a,v = .ref a -> ∃ ob,s.heap.get? a = some ob /\ ob.dict = none:=by
 cases x with
 | str z =>
  obtain ⟨t,rfl⟩:=r
  cases (show T = "str" from ty)
  exact ⟨typeIs_str s z t,fun _ e=>nomatch e⟩
 | int i =>
  obtain ⟨t,rfl⟩:=r
  cases (show T = "int" from ty)
  exact ⟨typeIs_int s i t,fun _ e=>nomatch e⟩
 | ref p =>
  cases r
  rcases ty with ⟨rfl,xs,hq⟩ | ⟨rfl,o,hk,hc,hd⟩ | ⟨rfl,hk⟩ | ⟨rfl,S,n,hk⟩
  ·obtain ⟨its,_,pl,_⟩:=I.list hq
   refine ⟨pl.isList.typeIs,fun a e=>?_⟩
   cases e
   obtain ⟨o,n,e,c,hd,_⟩:=pl
   exact ⟨o,e,hd⟩
  ·refine ⟨⟨o,I.kIn p o hk,hc⟩,fun a e=>?_⟩
   cases e
   exact ⟨o,I.kIn _ o hk,hd⟩
  ·have z:∃ o,s.heap.get? p = some o /\ o.ExactDict:=by
    rcases hk with ⟨kvs,hk⟩ | ⟨kvs,hk⟩
    ·obtain ⟨_,_,_,_,o,_,_,e,ex,_⟩:=I.hok p _ hk
     exact ⟨o,e,ex⟩
    ·obtain ⟨_,_,_,_,o,_,_,e,ex,_⟩:=I.hok p _ hk
     exact ⟨o,e,ex⟩
   obtain ⟨o,e,ex⟩:=z
   refine ⟨⟨o,e,ex.1⟩,fun a e2=>?_⟩
   cases e2
   exact ⟨o,e,ex.2.1⟩
  ·obtain ⟨o,_,_,_,e,ex,_⟩:=I.hok p _ hk
   refine ⟨⟨o,e,ex.1⟩,fun a e2=>?_⟩
   cases e2
   exact ⟨o,e,ex.2.1⟩
 | _=>exact False.elim ty
noncomputable def tBM0 (K:PySem.W.Frag) (T:String) (r:V -> List V -> Hp -> VK -> Prop) (to:TE):TE:=fun σ H Q=>to σ H fun x H1=>tyV K T x H1 /\ r x [] H1 Q
noncomputable def tBM (K:PySem.W.Frag) (T:String) (r:V -> List V -> Hp -> VK -> Prop) (to:TE) (t:TA):TE:=fun σ H Q=>to σ H fun x H1=>tyV K T x H1 /\ t σ H1 fun xs H2=>r x xs H2 Q
variable {o e:Expr} {es:List Expr} {to:TE} {t:TA} {name:Str} {apos cpos:Pos} {T id:String} {r:V -> List V -> Hp -> VK -> Prop}
theorem pe_bm0 (pa:PlainAttrs T) (slot:Slot T name id) (hty:typeOf (.builtin id) = pure (.type "method_descriptor")) (hm:MtR X id r) (ho:PE X o to)
  (hbase:attributeBase o name X.env (eval o X.env) = eval o X.env:=by rfl) (hline:(apos.endLine == cpos.line) = true:=by rfl):PE X (.Call (.Attribute o name apos) [] [] cpos) (tBM0 X.K T r to):=by
 intro pins s σ H Q I h
 refine wpAny_Call_method0_late hbase hline (thn (ho pins s σ H _ I h) fun v s1 ⟨x,H1,I1,r1,ty,q1⟩=>?_)
 obtain ⟨h1,h2⟩:=tyV_is I1 r1 ty
 exact ⟨T,id,pa,slot,hty,h1,h2,Calls.callWith_builtin rfl (PySem.evalArgs_none (hm pins s1 σ H1 x [] v [] Q I1 r1 .nil q1))⟩
theorem pe_bm (pa:PlainAttrs T) (slot:Slot T name id) (hty:typeOf (.builtin id) = pure (.type "method_descriptor")) (hm:MtR X id r) (ho:PE X o to) (ha:PA X (e :: es) t)
  (hbase:attributeBase o name X.env (eval o X.env) = eval o X.env:=by rfl)
  (hfew:((backTo cpos (starEach (e :: es) X.env)).all (fun x=>!x.1) && (backToKw cpos (keywordEach [] X.env)).all (fun x=>x.1.isSome)
    && decide ((e :: es).length + ([]:List Keyword).length + (if ([]:List Keyword).isEmpty then 0 else 1) < 30)) = true:=by rfl)
  (hline:(apos.endLine == cpos.line) = true:=by rfl) (hs:starEach (e :: es) X.env = (false,eval e X.env) :: starEach es X.env:=by rfl) (hplain:(backTo cpos (starEach es X.env)).any (·.1) = false:=by rfl) :
  PE X (.Call (.Attribute o name apos) (e :: es) [] cpos) (tBM X.K T r to t):=by
 intro pins s σ H Q I h
 refine wpAny_Call_method_late hbase hfew hline rfl (thn (ho pins s σ H _ I h) fun v s1 ⟨x,H1,I1,r1,ty,q1⟩=>?_)
 obtain ⟨h1,h2⟩:=tyV_is I1 r1 ty
 refine ⟨T,id,pa,slot,hty,h1,h2,?_⟩
 have hA:=ha cpos pins s1 σ H1 _ I1 q1
 rw [hs] at hA ⊢
 refine Calls.callWith_builtin (by show (false || (backTo cpos (starEach es X.env)).any (·.1)) = false; rw [hplain] <;> rfl) (Calls.evalArgs_plain ?_)
 exact thn hA fun us s2 ⟨vs,H2,I2,r2,q2⟩=>hm pins s2 σ H2 x vs v us Q I2 r1 r2 q2
end
end L2
namespace L2
open PySem PySem.Spec PyProof.Rows
noncomputable def MtM (X:Cx) (id:String) (r:V -> List V -> Hp -> VK -> Prop):Prop :=
 ∀ (pins:List (Addr × Obj)) (s:Shared) (σ:St) (H:Hp) (x:V) (xs:List V) (v:Value) (us:List Value) (Q:VK),Inv X pins σ H s -> RelV x v -> Vals xs us -> r x xs H Q ->
  wpAny (model X.prog X.w) X.A (call (.builtin id) (v :: us)) (EP X pins σ Q) X.xe s
theorem Vals.one:∀ {x:V} {us:List Value},Vals [x] us -> ∃ u,us = [u] /\ RelV x u
 | _,_,.cons r .nil=>⟨_,rfl,r⟩
theorem Vals.zero:∀ {us:List Value},Vals [] us -> us = []
 | _,.nil=>rfl
theorem Vals.dropLast {xs:List V} {us:List Value} (h:Vals xs us):Vals xs.dropLast us.dropLast:=by
 induction h with
 | nil=>exact .nil
 | cons r t ih =>
  cases t with
  | nil=>exact .nil
  | cons q t'=>exact .cons r ih
theorem Vals.rep {xs:List V} {us:List Value} (h:Vals xs us):∀ k:Nat,Vals (List.replicate k xs).flatten (List.replicate k us).flatten
 | 0=>.nil
 | k + 1=>by
  rw [List.replicate_succ,List.replicate_succ,List.flatten_cons,List.flatten_cons]
  exact Vals.append h (Vals.rep h k)
theorem erase_last {α:Type} (l:List α):l.eraseIdx (l.length - 1) = l.dropLast:=by
 induction l with
 | nil=>rfl
 | cons a r ih =>
  cases r with
  | nil=>rfl
  | cons b r =>
   have e:(a :: b :: r).length - 1 = ((b :: r).length - 1) + 1:=by
    have h1:(a :: b :: r).length = r.length + 2:=rfl
    have h2:(b :: r).length = r.length + 1:=rfl
    omega
   rw [e,List.eraseIdx_cons_succ,ih]
   all_goals rfl
theorem foldl_rep (its:List Value):∀ (k:Nat) (acc:List Value),
  List.foldl (fun x1 x2=>x1 ++ x2) acc.toArray (List.replicate k its.toArray) = (acc ++ (List.replicate k its).flatten).toArray
 | 0,acc=>by simp
 | k + 1,acc=>by
  have e:acc.toArray ++ its.toArray = (acc ++ its).toArray:=by simp
  have e2:(acc ++ its) ++ (List.replicate k its).flatten = acc ++ (List.replicate (k + 1) its).flatten:=by
   rw [List.replicate_succ,List.flatten_cons,List.append_assoc]
  rw [<- e2,<- foldl_rep its k (acc ++ its),<- e,List.replicate_succ,List.foldl_cons]
section
variable {X:Cx} {pins:List (Addr × Obj)} {σ:St} {H:Hp} {s:Shared} {l b:Addr} {xs ys zs:List V}
theorem Inv.lset {its its':List Value} {n:Nat} {f:Array Value -> Array Value} {t':Nat} (I:Inv X pins σ H s) (hH:H l = some (.lst xs))
  (e:s.heap.get? l = some { cls:=.type "list",data:=.seq its.toArray n }) (hf:f its.toArray = its'.toArray) (hv:Vals ys its') (hz:ys.length <= sizeLine) :
  Inv X pins σ (upd H l (.lst ys)) { s with heap:=s.heap.update l (Obj.mapSeq f),toks:=t' }:=by
 have q:=PySem.IsL.update e f
 rw [hf] at q
 refine I.write (x:=l) (e:=l) (by rw [hH]; exact trivial) (.inl rfl) (fun b' u hb hu=>(Heap.get?_update_other s.heap (Obj.mapSeq f) (Ne.symm hb)).trans hu) ⟨_,q⟩ ?_
 exact ⟨hz,its',_,hv,q⟩
theorem Inv.lnew {its:List Value} {t':Nat} (I:Inv X pins σ H s) (hv:Vals ys its) (hz:ys.length <= sizeLine) :
  Inv X pins σ (upd H s.heap.objs.size (.lst ys)) { s with heap:=s.heap.push { cls:=.type "list",data:=.seq its.toArray },toks:=t' } :=
 I.laid (fun _ _ q=>Heap.get?_push_of_some _ q) (Nat.le_refl _) ⟨hz,its,0,hv,Heap.get?_push_size _ rfl⟩
theorem Inv.fresh (I:Inv X pins σ H s):H s.heap.objs.size = none:=I.hok.fresh (Nat.le_refl _)
theorem Inv.lstM (I:Inv X pins σ H s) (hH:H l = some (.lst xs)):xs.length <= sizeLine /\ ∃ (its:List Value) (n:Nat),Vals xs its /\ xs.length = its.length /\ s.heap.get? l = some { cls:=.type "list",data:=.seq its.toArray n }:=by
 obtain ⟨z,its,n,r,e⟩:=I.hok l _ hH
 exact ⟨z,its,n,r,r.length,e⟩
theorem notLongL {n:Nat} (h:n <= sizeLine):Builtin.List.listTooLong n = false:=by
 unfold Builtin.List.listTooLong
 exact decide_eq_false (by omega)
end
section
variable {X:Cx}
noncomputable def rAppend:V -> List V -> Hp -> VK -> Prop:=fun x vs H Q=>∃ l xs y,x = .ref l /\ vs = [y] /\ H l = some (.lst xs) /\ xs.length < sizeLine /\ Q .non (upd H l (.lst (xs ++ [y])))
theorem mt_append:MtM X "list.append" rAppend:=by
 intro pins s σ H x vs v us Q I rx rv h
 obtain ⟨l,xs,y,rfl,rfl,hH,hz,q⟩:=h
 cases rx
 obtain ⟨u,rfl,ru⟩:=rv.one
 obtain ⟨z,its,n,r,hl,e⟩:=I.lstM hH
 refine call_meets F.slot_list_append ⟨_,e,rfl⟩ F.entry_list_append (F.args_list_append_2 _ _) (PySem.list_append l its.toArray n u (by rw [List.size_toArray]; omega)) ⟨e,?_⟩
 refine ⟨.non,_,I.lset (its':=its ++ [u]) hH e (by simp) (r.append (.cons ru .nil)) ?_,rfl,q⟩
 rw [List.length_append,List.length_singleton]
 omega
noncomputable def rExtend:V -> List V -> Hp -> VK -> Prop:=fun x vs H Q=>∃ l b xs zs,x = .ref l /\ vs = [.ref b] /\ H l = some (.lst xs) /\ H b = some (.lst zs) /\ xs.length + zs.length <= sizeLine /\ Q .non (upd H l (.lst (xs ++ zs)))
theorem mt_extend:MtM X "list.extend" rExtend:=by
 intro pins s σ H x vs v us Q I rx rv h
 obtain ⟨l,b,xs,zs,rfl,rfl,hH,hB,hz,q⟩:=h
 cases rx
 obtain ⟨u,rfl,ru⟩:=rv.one
 cases ru
 obtain ⟨z,its,n,r,hl,e⟩:=I.lstM hH
 obtain ⟨z2,its2,n2,r2,hl2,e2⟩:=I.lstM hB
 have hsz:its.toArray.size + its2.toArray.size <= sizeLine:=by rw [List.size_toArray,List.size_toArray]; omega
 have hlong:¬ (!its.toArray.isEmpty && Builtin.List.listTooLong (its.toArray.size + its2.toArray.size)) = true:=by
  rw [notLongL hsz,Bool.and_false]
  exact Bool.false_ne_true
 refine call_meets F.slot_list_extend ⟨_,e,rfl⟩ F.entry_list_extend (F.args_list_extend_2 _ _)
  (AutoSeq1.list_extend_list_list_0 l its.toArray n b its2.toArray n2 hlong (by rw [List.size_toArray]; omega) (by omega)) ⟨e,e2,?_⟩
 refine ⟨.non,_,I.lset (its':=its ++ its2) hH e (by simp) (r.append r2) ?_,rfl,q⟩
 rw [List.length_append]
 omega
noncomputable def rPop:V -> List V -> Hp -> VK -> Prop:=fun x vs H Q=>∃ l xs y,x = .ref l /\ vs = [] /\ H l = some (.lst xs) /\ xs[xs.length - 1]? = some y /\ Q y (upd H l (.lst xs.dropLast))
theorem mt_pop:MtM X "list.pop" rPop:=by
 intro pins s σ H x vs v us Q I rx rv h
 obtain ⟨l,xs,y,rfl,rfl,hH,hy,q⟩:=h
 cases rx
 have hus:=rv.zero
 subst hus
 obtain ⟨z,its,n,r,hl,e⟩:=I.lstM hH
 obtain ⟨u,hu,ru⟩:=r.get hy
 have hy':its.toArray[its.toArray.size - 1]? = some u:=by
  show its.toArray[its.length - 1]? = some u
  rw [<- Array.getElem?_toList,<- hl]
  exact hu
 refine call_meets F.slot_list_pop ⟨_,e,rfl⟩ F.entry_list_pop (F.args_list_pop_1 _) (MeetsSeq.list_pop_last l its.toArray n u hy' (by rw [List.size_toArray]; omega)) ⟨e,?_⟩
 refine ⟨y,_,I.lset (its':=its.dropLast) hH e ?_ r.dropLast ?_,ru,q⟩
 ·show its.toArray.eraseIdxIfInBounds (its.toArray.size - 1) = its.dropLast.toArray
  rw [List.size_toArray,List.eraseIdxIfInBounds_toArray,erase_last]
 ·rw [List.length_dropLast]
  omega
noncomputable def rCat:R2:=fun x y H Q=>∃ l b xs zs,x = .ref l /\ y = .ref b /\ H l = some (.lst xs) /\ H b = some (.lst zs) /\ xs.length + zs.length <= sizeLine /\ ∀ p,H p = none -> Q (.ref p) (upd H p (.lst (xs ++ zs)))
theorem op_cat:OpR X (binaryOp .Add) rCat:=by
 intro pins s σ H x y v u Q I rx ry h
 obtain ⟨l,b,xs,zs,rfl,rfl,hH,hB,hz,q⟩:=h
 cases rx
 cases ry
 obtain ⟨z,its,n,r,hl,e⟩:=I.lstM hH
 obtain ⟨z2,its2,n2,r2,hl2,e2⟩:=I.lstM hB
 refine PySem.P.add_list e e2 ?_ (by rw [List.size_toArray,List.size_toArray]; omega)
 have ea:its.toArray ++ its2.toArray = (its ++ its2).toArray:=by simp
 rw [ea]
 exact ⟨.ref _,_,I.lnew (t':=s.toks) (r.append r2) (by rw [List.length_append]; omega),rfl,q _ I.fresh⟩
noncomputable def rRep:R2:=fun x y H Q=>∃ l k xs,x = .ref l /\ y = .int k /\ H l = some (.lst xs) /\ -(2 ^ 63) <= k /\ k < 2 ^ 63 /\ xs.length * k.toNat <= sizeLine /\
 ∀ p,H p = none -> Q (.ref p) (upd H p (.lst (List.replicate k.toNat xs).flatten))
theorem len_rep {α:Type} (xs:List α) (k:Nat):(List.replicate k xs).flatten.length = k * xs.length:=by
 induction k with
 | zero=>simp
 | succ k ih=>rw [List.replicate_succ,List.flatten_cons,List.length_append,ih,Nat.succ_mul,Nat.add_comm]
theorem op_rep:OpR X (binaryOp .Mult) rRep:=by
 intro pins s σ H x y v u Q I rx ry h
 obtain ⟨l,k,xs,rfl,rfl,hH,h1,h2,hz,q⟩:=h
 cases rx
 obtain ⟨t,rfl⟩:=ry
 obtain ⟨z,its,n,r,hl,e⟩:=I.lstM hH
 have hlen:its.toArray.size * k.toNat <= sizeLine:=by rw [List.size_toArray,<- hl]; exact hz
 have hcap:¬ its.toArray.size * k.toNat > (2 ^ 63 - 1) / 8:=by
  have:(sizeLine:Nat) <= (2 ^ 63 - 1) / 8:=by decide
  omega
 have hfit:¬ (!Builtin.List.listFitsIndex k) = true:=by
  rw [fitsIndex_both h1 h2]
  exact Bool.false_ne_true
 have hlong:¬ Builtin.List.listTooLong (its.toArray.size * k.toNat) = true:=by
  rw [notLongL hlen]
  exact Bool.false_ne_true
 have hnew:List.foldl (fun x1 x2=>x1 ++ x2) #[] (List.replicate (if its.toArray.isEmpty = true then 0 else k.toNat) its.toArray) = (List.replicate k.toNat its).flatten.toArray:=by
  have f0:∀ m:Nat,List.foldl (fun x1 x2=>x1 ++ x2) #[] (List.replicate m its.toArray) = (List.replicate m its).flatten.toArray:=fun m=>by
   have:=foldl_rep its m []
   rw [List.nil_append] at this
   exact this
  rw [f0]
  cases its with
  | nil=>simp
  | cons a r'=>rw [if_neg (by simp)]
 refine wpAny_binaryOp_repeat_ref (T:="list") (U:="int") (by decide) ⟨_,e,rfl⟩ (fun s'=>typeIs_int s' k t) noFill_list_mul F.fills_int_mul F.slot_int_rmul repeat_list F.slot_int_index.lookup
  (call_meets F.slot_int_rmul (typeIs_int s k t) F.entry_int_rmul (F.args_int_rmul_2 _ _) (int___rmul___int_list k t l its.toArray n)
    ⟨e,rfl,⟨_,e,rfl⟩,call_meets F.slot_list_mul ⟨_,e,rfl⟩ F.entry_list_mul (F.args_list_mul_2 _ _) (AutoListH.list___mul___list_int_3 l its.toArray n k t hfit hcap hlong) ⟨e,?_⟩⟩)
 rw [hnew]
 exact ⟨.ref _,_,I.lnew (t':=s.toks) (r.rep k.toNat) (by rw [len_rep,Nat.mul_comm]; exact hz),rfl,q _ I.fresh⟩
end
section
variable {prog:Program} {w:World} {A:Around} {E:Value -> Shared -> Prop} {s:Shared}
set_option maxRecDepth 100000 in
end
section
variable {X:Cx}
end
end L2
namespace L2
open PySem PySem.Spec PyProof.Rows
section
variable {κ:Type} [DecidableEq κ]
end
theorem kV_is {P:Program} {w:World} {k:Key} {u:Value} (r:RelV (kV k) u):(mixKind P w).is k u = true:=by
 cases k with
 | inl i=>obtain ⟨t,e⟩:=(show ∃ t,u = Value.int i t from r); subst e; exact mixKind_int P w i t
 | inr x=>obtain ⟨t,e⟩:=(show ∃ t,u = Value.str x t from r); subst e; exact mixKind_str P w x t
theorem items_are {P:Program} {w:World}:∀ {ks:List Key} {us:List Value},Vals (ks.map kV) us -> ItemsAre (mixKind P w) ks us
 | [],_,r=>by rw [List.map_nil] at r; cases r; exact .nil
 | k :: ks,_,r=>by
  rw [List.map_cons] at r
  cases r with
  | cons h t=>exact .cons (kV_is h) (items_are t)
noncomputable abbrev KT (H:Hp):List (List Key × V) -> List (List Key × Addr × Value) -> Prop:=Paired fun p q=>p.1 = q.1 /\ H q.2.1 = some (.tup (p.1.map kV)) /\ RelV p.2 q.2.2
section
variable {P:Program} {w:World} {H:Hp} {h:Heap} {a:Addr}
theorem rd_of {u:HO} (ok:HOk P w H h) (e:Rd H a u):ObjOk P w H h a u:=e.ok ok
theorem dk_rd {kvs:List (Key × V)} (ok:HOk P w H h) (e:Rd H a (.dK kvs)):kvs.length <= sizeLine /\ (a == sysModules) = false /\ ∃ vs,KV kvs vs /\ h.DictOf (mixKind P w) a vs :=
 show ObjOk P w H h a (.dK kvs) from rd_of ok e
theorem key_of {ks:List Key} (ok:HOk P w H h) (e:H a = some (.tup (ks.map kV))):(tupleKind (mixKind P w)).is h ks a:=by
 obtain ⟨_,its,r,o,h1,h2,n,h3,_⟩:=(show ObjOk P w H h a (.tup (ks.map kV)) from ok a _ e)
 exact ⟨o,its.toArray,n,h1,h2,h3,by simpa using items_are r⟩
theorem dt_rd {kvs:List (List Key × V)} (ok:HOk P w H h) (e:Rd H a (.dT kvs)):kvs.length <= sizeLine /\ (a == sysModules) = false /\
  ∃ xs,KT H kvs xs /\ h.DictOfH (tupleKind (mixKind P w)) a xs:=by
 obtain ⟨z,y,xs,r,o,es,ep,h1,h2,h3,h4,h5⟩:=(show ObjOk P w H h a (.dT kvs) from rd_of ok e)
 refine ⟨z,y,xs,r,o,es,ep,h1,h2,h3,h4,fun x hx=>?_,h5⟩
 have all:∀ {l:List (List Key × V)} {m:List (List Key × Addr × Value)},KT H l m -> ∀ x ∈ m,(tupleKind (mixKind P w)).is h x.1 x.2.1:=by
  intro l m q
  induction q with
  | nil=>intro x hx; exact nomatch hx
  | @cons p q ps qs hq t ih =>
   intro x hx
   rcases List.mem_cons.mp hx with e | hx
   ·subst e
    exact key_of ok (by rw [<- hq.1]; exact hq.2.1)
   ·exact ih x hx
 exact all r x hx
end
section
variable {X:Cx} {pins:List (Addr × Obj)} {σ:St} {H:Hp} {s:Shared} {a:Addr} {y v:V} {u r:Value} {o:Option V} {A:Around} {E:Value -> Shared -> Prop}
theorem Inv.big (I:Inv X pins σ H s):sysModules < s.heap.objs.size:=by
 have h:mainGlobals < s.heap.objs.size:=(I.mod.glob.keeps I.bk).lt
 exact Nat.lt_trans (by decide) h
end
section
variable {X:Cx} {pins:List (Addr × Obj)} {σ:St} {H:Hp} {s:Shared} {a:Addr} {kvs:List (Key × V)} {k:Key} {u:Value} {A:Around} {E:Value -> Shared -> Prop}
end
section
variable {X:Cx} {o i e value:Expr} {pos pos' tpos:Pos} {td ty tv:TE}
end
theorem dt_empty {P:Program} {w:World} {H:Hp} (h:Heap) (hb:sysModules < h.objs.size):ObjOk P w H (h.push { cls:=.type "dict",data:=.dict #[] }) h.objs.size (.dT []) :=
 ⟨Nat.zero_le _,beq_eq_false_iff_ne.mpr (Ne.symm (Nat.ne_of_lt hb)),[],.nil,_,#[],0,Heap.get?_push_size _ rfl,⟨rfl,rfl,rfl⟩,rfl,rfl,List.nodup_nil⟩
noncomputable def tDNewT:TE:=fun _ H Q=>∀ p,H p = none -> Q (.ref p) (upd H p (.dT []))
section
variable {X:Cx} {pos:Pos}
theorem pe_dnewT:PE X (.Dict [] [] pos) tDNewT:=fun pins s σ H Q I h =>
 wpAny_Dict_empty ⟨.ref s.heap.objs.size,_,I.laid (a:=s.heap.objs.size) (o:=.dT []) (t':=s.toks) (fun _ _ q=>Heap.get?_push_of_some _ q) (Nat.le_refl _) (dt_empty s.heap I.big),rfl,h _ (I.hok.fresh (Nat.le_refl _))⟩
end
structure M1 (X:Cx) (o:Expr) (m:Str) (apos:Pos) (e:Expr) (cpos:Pos):Prop where
 base:attributeBase o m X.env (eval o X.env) = eval o X.env
 few:((backTo cpos (starEach [e] X.env)).all (fun x=>!x.1) && (backToKw cpos (keywordEach [] X.env)).all (fun x=>x.1.isSome)
   && decide (([e]:List Expr).length + ([]:List Keyword).length + (if ([]:List Keyword).isEmpty then 0 else 1) < 30)) = true
 line:(apos.endLine == cpos.line) = true
 trees:backTo cpos (starEach [e] X.env) = [(false,eval e X.env)]
structure M2 (X:Cx) (o:Expr) (m:Str) (apos:Pos) (e f:Expr) (cpos:Pos):Prop where
 base:attributeBase o m X.env (eval o X.env) = eval o X.env
 few:((backTo cpos (starEach [e,f] X.env)).all (fun x=>!x.1) && (backToKw cpos (keywordEach [] X.env)).all (fun x=>x.1.isSome)
   && decide (([e,f]:List Expr).length + ([]:List Keyword).length + (if ([]:List Keyword).isEmpty then 0 else 1) < 30)) = true
 line:(apos.endLine == cpos.line) = true
 trees:backTo cpos (starEach [e,f] X.env) = [(false,eval e X.env),(false,eval f X.env)]
noncomputable def IsD (H:Hp) (a:Addr):Prop:=(∃ kvs,Rd H a (.dK kvs)) \/ ∃ kvs,Rd H a (.dT kvs)
theorem isD_at {X:Cx} {pins:List (Addr × Obj)} {σ:St} {H:Hp} {s:Shared} {a:Addr} (I:Inv X pins σ H s) (d:IsD H a) :
  s.TypeIs (.ref a) "dict" /\ (∀ b,Value.ref a = .ref b -> ∃ ob,s.heap.get? b = some ob /\ ob.dict = none) /\ (a == sysModules) = false:=by
 rcases d with ⟨kvs,e⟩ | ⟨kvs,e⟩
 ·obtain ⟨_,hd,vs,_,dd⟩:=dk_rd I.hok e
  refine ⟨dd.typeIs,fun b q=>?_,hd⟩
  cases q
  obtain ⟨ob,_,_,h1,h2,_⟩:=dd
  exact ⟨ob,h1,h2.2.1⟩
 ·obtain ⟨_,hd,xs,_,dd⟩:=dt_rd I.hok e
  refine ⟨dd.typeIs,fun b q=>?_,hd⟩
  cases q
  obtain ⟨ob,_,_,h1,h2,_⟩:=dd
  exact ⟨ob,h1,h2.2.1⟩
section
variable {X:Cx} {pins:List (Addr × Obj)} {σ:St} {H:Hp} {s:Shared} {a:Addr} {y d:V} {u r:Value} {o:Option V} {A:Around} {E:Value -> Shared -> Prop}
end
section
variable {X:Cx} {o e f:Expr} {apos cpos:Pos} {td ty tx:TE}
end
section
variable {X:Cx} {pins:List (Addr × Obj)} {σ:St} {H:Hp} {s:Shared} {a:Addr} {kvs:List (Key × V)} {A:Around} {E:Value -> Shared -> Prop}
end
section
variable {X:Cx} {pins:List (Addr × Obj)} {σ:St} {H:Hp} {s:Shared} {a:Addr} {y:V} {u:Value} {A:Around} {E:Value -> Shared -> Prop}
end
end L2
namespace Att
open PySem PySem.W PySem.Calls PyProof.Rows
theorem ints_of_wellAll {P:Params} {h:Heap}:∀ (ns:List Int) (vs:List Value),WellAll P h vs (ns.map WData.int) -> IntsAre vs ns:=by
 intro ns
 induction ns with
 | nil =>
  intro vs w
  rw [List.map_nil] at w
  cases w
  exact .nil
 | cons n ns ih =>
  intro vs w
  rw [List.map_cons] at w
  cases w with
  | cons a b =>
   cases a
   exact .cons _ _ (ih _ b)
theorem script_of {l:OpenLaw} {n:Nat} (hn:l.most = some n) {P:Params} {h:Heap} {args:List WData} {vals:List Value}
  (hpre:l.row.toRowW.claim.pre args = true) (hwl:WellAll P h vals args) :
  ∃ a vs ns,vals = [Value.ref a] /\ args = [WData.list (ns.map WData.int)] /\ h.get? a = some { cls:=.type "list",data:=.seq vs.toArray } /\ IntsAre vs ns /\ ns.length <= n:=by
 have hsh:WShape.hasAll [] args [.list .int] = true:=(pre_splitW hpre).1
 have hc:l.pre.holds [] { args:=args } = true:=(pre_splitW hpre).2
 obtain ⟨d,r,rfl,h1,h2⟩:=hasAllW_cons hsh
 obtain rfl:=hasAllW_nil h2
 obtain ⟨xs,rfl,h3⟩:=hasW_list h1
 obtain ⟨ns,rfl⟩:=items_int h3
 have hlen:ns.length <= n:=by
  unfold OpenLaw.pre at hc
  have h4:(WTm.not (.lt (.lit (.int (n:Int))) (.len (.arg 0)))).holds [] { args:=[.list (ns.map .int)] } = true:=by
   have h4:=(holds_andW hc).1
   rw [hn] at h4
   exact h4
  have h5:=condW_of h4 (w_not (w_lt w_lit (w_len_list (w_arg rfl))))
  rw [List.length_map] at h5
  refine Nat.le_of_not_lt fun q=>?_
  have q':(n:Int) < ((ns.length:Nat):Int):=by omega
  first
   | (rw [decide_eq_true q'] at h5; exact absurd h5 (by decide))
   | (simp at h5; omega)
 cases hwl with
 | cons w1 w2 =>
  cases w2
  cases w1 with
  | list ho hall=>exact ⟨_,_,ns,rfl,rfl,ho,ints_of_wellAll ns _ hall,hlen⟩
theorem post_true (l:OpenLaw) (args:List WData):l.row.toRowW.claim.post args (.bool true) args = true :=
 postW_of (r:=l.row.toRowW) (X:=(true == true))
  (show WShape.has [] (.bool true) .bool = true by first | rfl | decide | simp [WShape.has,WShape.arms,WShape.armsAll])
  (show (WTm.eq .res (.lit (.bool true))).value [] { args:=args,res:=some (.bool true),after:=args } = some (.bool (true == true)) from w_eq_bool (w_res rfl) w_lit) rfl
theorem attach_call {l:OpenLaw} {n:Nat} {q:Program} {loose:List Str} {XP:(Str -> Option Value) -> Heap -> Prop} {YP:World -> Heap -> Prop} {d:DefRec}
  (hn:l.most = some n) (hdf:d.params.defaults = [])
  (call:∀ (w:World) (s₀ s₁:Shared) (mg mb:Str -> Option Value) (fa:Addr) (o:Obj) (pm cd doc:Value) (a:Addr) (vs:List Value) (ns:List Int),
    Ground q loose [] XP w s₀ mg mb s₁.heap -> YP w s₁.heap ->
    s₁.heap.get? fa = some o -> o.data = .func (docDef d.name d.params d.body d.scope pm cd doc) -> s₁.heap.CodeRec cd d.name -> mg d.name = some (.ref fa) ->
    s₁.heap.get? a = some { cls:=.type "list",data:=.seq vs.toArray } -> IntsAre vs ns -> ns.length <= n -> s₁.gens = #[] ->
    codeAny (model l.prog w) callerA (.call (.ref fa) ⟨[.ref a],[]⟩) (fun r s'=>r = .ok (.ret (.bool true)) /\ OldK s₁.heap s'.heap /\ s'.os = s₁.os /\ AllBare s'.gens) s₁) :
  WalkO q loose XP YP l.row.toRowW d [] (fun f vs=>PySem.call f vs):=by
 intro w s₀ s₁ mg mb G Y fa o pm cd doc dV kV ho hd hcd hD hmg hg args vals as hpre hlay hrd hwl hlo
 obtain rfl:dV = .none:=Dflts.none hD hdf
 obtain rfl:kV = .none:=Dflts.noKw hD
 obtain ⟨a,vs,ns,rfl,rfl,hobj,hints,hlen⟩:=script_of hn hpre hwl
 refine enter_call (codeAny_mono (call w s₀ s₁ mg mb fa o pm cd doc a vs ns G Y ho (fd_plain hd) hcd hmg hobj hints hlen hg) fun r s' hq=>?_)
 obtain ⟨rfl,h2,h3,h4⟩:=hq
 exact ⟨.inl ⟨.bool true,.bool true,[],rfl,fun _=>rfl,.bool true,post_true l _,fun _=>⟨List.Pairwise.nil,fun _ hm=>(nomatch hm)⟩⟩,h2,h3,h4⟩
section
variable {prog:Program} {w:World} {A:Around} {E:Value -> Shared -> Prop} {s:Shared} {K:Frag}
end
end Att
namespace L2
open PySem PySem.Spec PyProof.Rows
theorem vals_ints:∀ {vs:List Value} {ns:List Int},IntsAre vs ns -> Vals (ns.map V.int) vs
 | _,_,.nil=>.nil
 | _,_,.cons n t h=>.cons ⟨t,rfl⟩ (vals_ints h)
noncomputable def Only (H:Hp):Prop:=∀ b,H b = none \/ ∃ o xs,H b = some (.frz o (.lst xs))
theorem law_call {P:Program} {w:World} {K:PySem.W.Frag} {mg mb:Str -> Option Value} {CX:CXT} {k:Nat} {fa a:Addr} {fd:FuncData} {x:Str} {sp:Sp} {s₁:Shared} {vs:List Value} {ns:List Int}
  (KX:K.In s₁.heap) (hns:s₁.heap.Ns mainGlobals mg) (hb:s₁.heap.Ns builtinsNs mb) (hbb:∀ x:Str,x ≠ "__name__" -> mb x = bootBuiltins x) (hlim:s₁.heap.NoLimit) (hg:s₁.gens = #[])
  (ha:s₁.heap.get? a = some { cls:=.type "list",data:=.seq vs.toArray }) (hi:IntsAre vs ns) (hl:ns.length <= sizeLine) (hr:Room k callerA)
  (F:∀ base:Heap,K.In base -> base.Ns mainGlobals mg -> FnOk P w K mg base CX k fa fd [x] sp) (hbind:∀ (s:Shared) (u:Value),BindsTo s fd ⟨[u],[]⟩ [(x,u)])
  (hsp:∀ H:Hp,Only H -> SqL K H a (ns.map V.int) -> sp [.ref a] H (fun v _=>v = .bl true) fun _ _ _=>False)
  (hCX:∀ H e s',CX [] H s₁ (fun _ _ _=>False) e s' -> False) :
  codeAny (model P w) callerA (.call (.ref fa) ⟨[.ref a],[]⟩) (fun r s'=>r = .ok (.ret (.bool true)) /\ OldK s₁.heap s'.heap /\ s'.os = s₁.os /\ AllBare s'.gens) s₁:=by
 have rv:=vals_ints hi
 have lenV:=hi.length
 have core:∀ H:Hp,Only H -> SqL K H a (ns.map V.int) -> HOk P w H s₁.heap -> (∀ b,H b ≠ none -> b = a) -> (H a ≠ none -> K.lookup a = none) ->
   codeAny (model P w) callerA (.call (.ref fa) ⟨[.ref a],[]⟩) (fun r s'=>r = .ok (.ret (.bool true)) /\ OldK s₁.heap s'.heap /\ s'.os = s₁.os /\ AllBare s'.gens) s₁:=by
  intro H hO hS hok hA hK
  have base_of:∀ {b:Addr} {o:Obj},s₁.heap.get? b = some o -> H b = none -> (hidT s₁.heap H).get? b = some o:=fun e n=>hidT_get e n
  have noA:∀ {b:Addr} {o:Obj} {es:Array DictEntry} {ep:Nat},s₁.heap.get? b = some o -> o.data = .dict es ep -> H b = none:=fun {b o es ep} e d=>by
   cases q:H b with
   | none=>rfl
   | some u =>
    have e':b = a:=hA b (by rw [q]; simp)
    subst e'
    rw [ha] at e; cases e
    have d':Data.seq vs.toArray _ = Data.dict es ep:=d
    cases d'
  have nsK:∀ {b:Addr} {m:Str -> Option Value},s₁.heap.Ns b m -> (hidT s₁.heap H).Ns b m:=fun {b m} ⟨o,es,ep,e,d,r⟩=>⟨o,es,ep,base_of e (noA e d),d,r⟩
  have hKb:K.In (hidT s₁.heap H):=fun b o e=>base_of (KX b o e) (by
    cases q:H b with
    | none=>rfl
    | some u =>
      have e':b = a:=hA b (by rw [q]; simp)
      subst e'
      rw [hK (by rw [q]; simp)] at e; cases e)
  have hM:Mod K mg (hidT s₁.heap H):=⟨hKb,nsK hns,⟨mb,nsK hb,hbb⟩,let ⟨mc,h1,h2⟩:=hlim; ⟨mc,nsK h1,h2⟩⟩
  have e0:Env0 P w K mg (hidT s₁.heap H) callerA [] s₁ H:=⟨rfl,hM,fun b o e=>of_hidT e,Nat.le_of_eq (hidT_size _ _),trivial,fun b hb=>absurd (show b ∈ ([]:List Addr) from hb) (by simp),hok,.of_eq hg⟩
  refine codeAny_mono ((F _ hKb (nsK hns)).run callerA [] s₁ H ⟨[.ref a],[]⟩ [.ref a] [.ref a] _ _ hr e0 (hbind s₁ (.ref a)) (.cons rfl .nil) (hsp H hO hS)) fun r s' h=>?_
  cases r with
  | error e=>exact (hCX H e s' h).elim
  | ok fl =>
   cases fl with
   | next=>exact False.elim h
   | brk=>exact False.elim h
   | cont=>exact False.elim h
   | ret u =>
    obtain ⟨v,H',os,bare,un,hok',r',q⟩:=h
    have q':v = .bl true:=q
    subst q'
    obtain rfl:u = Value.bool true:=r'
    refine ⟨rfl,OldK.of_keep fun b o e=>?_,os,bare⟩
    cases q:H b with
    | none=>exact un.keep b o e q (by intro z; exact absurd (show b ∈ ([]:List Addr) from z) (by simp)) (by simp)
    | some u =>
     rcases hO b with z | ⟨ob,xs,z⟩
     ·rw [q] at z; cases z
     ·have z2:=un.frzs b ob _ z
      obtain ⟨e1,_⟩:=hok b _ z
      obtain ⟨e2,_⟩:=hok' b _ z2
      rw [e] at e1; cases e1
      exact e2
 cases hk:K.lookup a with
 | some o =>
  have e:=KX a o hk
  rw [ha] at e
  cases e
  refine core (fun _=>none) (fun _=>.inl rfl) (.inr ⟨_,vs.toArray,_,hk,rfl,rfl,rfl,by rw [List.size_toArray,lenV]; exact hl,by simpa using rv⟩) (fun b u z=>by have z':(none:Option HO) = some u:=z; cases z') (fun b z=>absurd rfl z) fun z=>absurd rfl z
 | none =>
  refine core (fun b=>if b = a then some (.frz { cls:=.type "list",data:=.seq vs.toArray } (.lst (ns.map V.int))) else none) (fun b=>?_) (.inl (.inr ⟨{ cls:=.type "list",data:=.seq vs.toArray },if_pos rfl⟩)) (fun b u z=>?_) (fun b z=>?_) fun _=>hk
  ·by_cases hb:b = a
   ·exact .inr ⟨_,_,if_pos hb⟩
   ·exact .inl (if_neg hb)
  ·by_cases hb:b = a
   ·have z':=(if_pos hb).symm.trans z
    cases z'
    subst hb
    exact ⟨ha,by rw [List.length_map]; exact hl,vs,_,rv,ha⟩
   ·have z':=(if_neg hb).symm.trans z
    cases z'
  ·by_cases hb:b = a
   ·exact hb
   ·exact absurd (if_neg hb) z
end L2
namespace L2
open PySem PySem.Spec PyProof.Rows
theorem walk_of {l:PySem.W.OpenLaw} {n k:Nat} {q:Program} {loose:List Str} {XP:(Str -> Option Value) -> Heap -> Prop} {YP:World -> Heap -> Prop} {d:DefRec} {K:Params -> PySem.W.Frag} {CX:World -> CXT} {sp:World -> Sp} {x:Str}
  (hn:l.most = some n) (hn2:n <= sizeLine) (hdf:d.params.defaults = []) (hr:Room k callerA)
  (hY:∀ (w:World) (h:Heap),YP w h -> (K w.params).In h)
  (F:∀ (w:World) (mg:Str -> Option Value) (fa:Addr) (h:Heap),(K w.params).In h -> h.Ns mainGlobals mg -> mg d.name = some (.ref fa) ->
    ∃ fd:FuncData,(∀ (s:Shared) (u:Value),BindsTo s fd ⟨[u],[]⟩ [(x,u)]) /\
      ∀ base:Heap,(K w.params).In base -> base.Ns mainGlobals mg -> FnOk l.prog w (K w.params) mg base (CX w) k fa fd [x] (sp w))
  (hsp:∀ (w:World) (H:Hp) (a:Addr) (ns:List Int),ns.length <= n -> Only H -> SqL (K w.params) H a (ns.map V.int) -> sp w [.ref a] H (fun v _=>v = .bl true) fun _ _ _=>False)
  (hCX:∀ (w:World) (H:Hp) (s:Shared) (e:Value) (s':Shared),CX w [] H s (fun _ _ _=>False) e s' -> False) :
  PySem.W.WalkO q loose XP YP l.row.toRowW d [] (fun f vs=>PySem.call f vs):=by
 refine Att.attach_call hn hdf fun w s₀ s₁ mg mb fa o pm cd doc a vs ns G Y ho hd hcd hmg hobj hints hlen hg=>?_
 have KX:=hY w _ Y
 obtain ⟨fd,hb,hF⟩:=F w mg fa _ KX G.T.g hmg
 exact law_call KX G.T.g G.T.b G.T.builtins G.T.nolimit hg hobj hints (Nat.le_trans hlen hn2) hr hF hb (fun H hO hS=>hsp w H a ns hlen hO hS) fun H e s'=>hCX w H s₁ e s'
end L2
namespace L2
open PySem PySem.Spec PyProof.Rows
noncomputable def defArgs (s:Stmt):Arguments:=match s with
 | .FunctionDef _ a _ _ _ _ _ _ _ _=>a
 | _=>{ posonlyargs:=[],args:=[],vararg:=none,kwonlyargs:=[],kw_defaults:=[],kwarg:=none,defaults:=[] }
noncomputable def defBody (s:Stmt):List Stmt:=match s with
 | .FunctionDef _ _ b _ _ _ _ _ _ _=>b
 | _=>[]
noncomputable def defScope (s:Stmt):Scope:=match s with
 | .FunctionDef _ _ _ _ _ _ sc _ _ _=>sc
 | _=>{ kind:=.function,names:=[],isGenerator:=false,isCoroutine:=false }
noncomputable abbrev CX0:CXT:=fun _ _ _ _ _ _=>False
noncomputable abbrev E0:XK:=fun _ _ _=>False
theorem pass0 {X:Cx}:Passes CX0 X E0:=fun _ _ _ _ _ _ _ h=>h.elim
structure Fun (K:PySem.W.Frag) (x qual:Str) (st:Stmt) (f:Addr) (fd:FuncData):Prop where
 ex:∃ (oc:Value) (od:Option Addr) (kV doc pm:Value) (an:Option Addr) (cdv ct:Value) (osl:Array (Option Value)),
  fd = PySem.W.fnOf x qual (defArgs st) (defBody st) (defScope st) .none kV doc pm an cdv ct /\ K.lookup f = some ⟨oc,od,.func fd,osl⟩ /\ PySem.W.codeIn K cdv qual = true
 kp:PySem.W.keepIn K (.ref f) = true
section
variable {P:Program} {w:World} {K:PySem.W.Frag} {mg:Str -> Option Value} {base:Heap}
theorem Fun.ok {x qual:Str} {st:Stmt} {f:Addr} {fd:FuncData} {N ps:List Str} {k:Nat} {sp:Sp} (F:Fun K x qual st f fd) (S:FnScope N ps (defScope st)) (len:∀ vs H Q E,sp vs H Q E -> vs.length = ps.length)
  (hbody:∀ (cdv:Value) (A:Around) (outer:List Env) (s:Shared) (H:Hp) (vs:List V) (Q:VK) (E:XK),Room k (A.deeper (envOfC qual (defScope st) s.heap.objs.size f cdv)) -> sp vs H Q E ->
    ∃ t,PSs (cxOf CX0 P w K mg base N qual (defScope st) f cdv A outer s H E).nox (defBody st) t /\ t { nx:=fun _ H'=>Q .non H',rt:=Q } (start N vs) H):FnOk P w K mg base CX0 (k + 1) f fd ps sp:=by
 obtain ⟨oc,od,kV,doc,pm,an,cdv,ct,osl,rfl,lk,hcd⟩:=F.ex
 refine fn_of lk hcd S len fun A outer s H vs Q E hr hsp=>?_
 obtain ⟨t,h,q⟩:=hbody cdv A outer s H vs Q E hr hsp
 exact ⟨t,h.nox,q⟩
theorem Fun.binds {x qual:Str} {st:Stmt} {f:Addr} {fd:FuncData} {ps:List Str} (F:Fun K x qual st f fd)
  (h:∀ (kV doc pm:Value) (an:Option Addr) (cdv ct:Value) (us:List Value),us.length = ps.length -> bindArgs (PySem.W.fnOf x qual (defArgs st) (defBody st) (defScope st) .none kV doc pm an cdv ct) ⟨us,[]⟩ = pure (ps.zip us)):Binds K fd ps []:=by
 obtain ⟨oc,od,kV,doc,pm,an,cdv,ct,osl,rfl,lk,hcd⟩:=F.ex
 exact .all (h kV doc pm an cdv ct)
theorem fun_mk {x qual:Str} {st:Stmt} {f:Addr} {oc:Value} {od an:Option Addr} {osl:Array (Option Value)} {kV doc pm cdv ct:Value} (l:K.lookup f = some ⟨oc,od,.func (PySem.W.fnOf x qual (defArgs st) (defBody st) (defScope st) .none kV doc pm an cdv ct),osl⟩)
  (c:PySem.W.codeIn K cdv qual = true) (k:PySem.W.keepIn K (.ref f) = true):Fun K x qual st f (PySem.W.fnOf x qual (defArgs st) (defBody st) (defScope st) .none kV doc pm an cdv ct):=⟨⟨oc,od,kV,doc,pm,an,cdv,ct,osl,rfl,l,c⟩,k⟩
end
section
variable {X:Cx}
end
theorem ite2 {c A B:Prop} [Decidable c] (h1:c -> A) (h2:¬ c -> B):if c then A else B:=by
 by_cases h:c
 ·rw [if_pos h]
  exact h1 h
 ·rw [if_neg h]
  exact h2 h
section
variable {κ:Type} [DecidableEq κ]
end
end L2
namespace L2
open PySem PySem.Spec PyProof.Rows
noncomputable def clOf (cells:List (Str × Addr)):List (Str × NameKind) -> List (Str × Addr) -> List (Str × Addr)
 | [],acc=>acc
 | (n,k) :: r,acc=>clOf cells r (if k == .free then (n,(cells.lookup n).getD 0) :: acc else acc)
theorem closure_of {env:Env} {sc:Scope} (h:∀ y ∈ sc.names,y.2 = .free -> ∃ c,env.cells.lookup y.1 = some c):closureFor sc env = pure (clOf env.cells sc.names []):=by
 have go:∀ (l:List (Str × NameKind)) (acc:List (Str × Addr)),(∀ y ∈ l,y.2 = .free -> ∃ c,env.cells.lookup y.1 = some c) ->
   (forIn l acc fun (x:Str × NameKind) r=>(if (x.2 == NameKind.free) = true then (do let a <- cellOf env x.1; pure (ForInStep.yield ((x.1,a) :: r))) else pure (ForInStep.yield r):Sem (ForInStep (List (Str × Addr))))) = pure (clOf env.cells l acc):=by
  intro l
  induction l with
  | nil=>intro acc _; rfl
  | cons y r ih =>
   intro acc hl
   obtain ⟨n,k⟩:=y
   rw [List.forIn_cons]
   by_cases hk:(k == NameKind.free) = true
   ·obtain ⟨c,hc⟩:=hl (n,k) List.mem_cons_self (by simpa using hk)
    have hc:env.cells.lookup n = some c:=hc
    simp only [hk,if_true,cellOf,hc,pure_bind,clOf,Option.getD_some]
    exact ih _ fun y hy=>hl y (List.mem_cons_of_mem _ hy)
   ·simp only [hk,if_false,pure_bind,clOf]
    exact ih _ fun y hy=>hl y (List.mem_cons_of_mem _ hy)
 have e:=go sc.names [] h
 unfold closureFor
 show (forIn sc.names [] _ >>= fun cs=>pure cs) = _
 rw [show (forIn sc.names ([]:List (Str × Addr)) fun (x:Str × NameKind) r=>(match x with | (name,kind)=>if (kind == NameKind.free) = true then (do let a <- cellOf env name; pure (ForInStep.yield ((name,a) :: r))) else pure (ForInStep.yield r):Sem (ForInStep (List (Str × Addr))))) = pure (clOf env.cells sc.names []) from e]
 rfl
theorem clOf_lookup {cells:List (Str × Addr)} {x:Str} {c:Addr}:∀ {l:List (Str × NameKind)} {acc:List (Str × Addr)},(∀ y ∈ l,y.2 = .free -> ∃ c,cells.lookup y.1 = some c) -> (clOf cells l acc).lookup x = some c ->
  acc.lookup x = some c \/ cells.lookup x = some c
 | [],acc,_,h=>.inl h
 | (n,k) :: r,acc,hl,h=>by
  have ih:=clOf_lookup (l:=r) (fun y hy=>hl y (List.mem_cons_of_mem _ hy)) h
  rcases ih with ih | ih
  ·by_cases hk:(k == NameKind.free) = true
   ·rw [if_pos hk,List.lookup_cons] at ih
    obtain ⟨c',hc⟩:=hl (n,k) List.mem_cons_self (by simpa using hk)
    have hc:cells.lookup n = some c':=hc
    cases e:x == n with
    | true =>
     rw [e] at ih
     have:x = n:=by simpa using e
     subst this
     simp only [hc,Option.getD_some,Option.some.injEq] at ih
     subst ih
     exact .inr hc
    | false=>rw [e] at ih; exact .inl ih
   ·rw [if_neg hk] at ih; exact .inl ih
  ·exact .inr ih
theorem clOf_has {cells:List (Str × Addr)} {x:Str}:∀ {l:List (Str × NameKind)} {acc:List (Str × Addr)},((∃ c,acc.lookup x = some c) \/ l.lookup x = some .free) -> ∃ c,(clOf cells l acc).lookup x = some c
 | [],acc,h=>by
  rcases h with h | h
  ·exact h
  ·simp at h
 | (n,k) :: r,acc,h=>by
  refine clOf_has (l:=r) ?_
  rcases h with ⟨c,h⟩ | h
  ·left
   by_cases hk:(k == NameKind.free) = true
   ·rw [if_pos hk,List.lookup_cons]
    cases x == n with
    | true=>exact ⟨_,rfl⟩
    | false=>exact ⟨c,h⟩
   ·rw [if_neg hk]; exact ⟨c,h⟩
  ·rw [List.lookup_cons] at h
   cases e:x == n with
   | true =>
    rw [e] at h
    have hk:k = .free:=Option.some.inj h
    left
    subst hk
    rw [if_pos (by decide),List.lookup_cons,e]
    exact ⟨_,rfl⟩
   | false=>rw [e] at h; exact .inr h
theorem lookup_relabel {env:Env} {x:Str}:∀ {names:List (Str × NameKind)},
  (names.map fun (n,k)=>if (k == NameKind.free && env.scope.kind == .function && env.kindOf n == some .cell) then (n,NameKind.cell) else (n,k)).lookup x =
   (names.lookup x).map fun k=>if (k == NameKind.free && env.scope.kind == .function && env.kindOf x == some .cell) then .cell else k
 | []=>rfl
 | (n,k) :: r=>by
  have ih:=@lookup_relabel env x r
  rw [List.map_cons]
  show List.lookup x ((if (k == NameKind.free && env.scope.kind == .function && env.kindOf n == some .cell) = true then (n,NameKind.cell) else (n,k)) :: _) = _
  cases hx:x == n with
  | true =>
   have e:x = n:=by simpa using hx
   subst e
   by_cases hc:(k == NameKind.free && env.scope.kind == .function && env.kindOf x == some .cell) = true
   ·rw [if_pos hc]; simp only [List.lookup_cons,hx,Option.map_some]; rw [if_pos hc]
   ·rw [if_neg hc]; simp only [List.lookup_cons,hx,Option.map_some]; rw [if_neg hc]
  | false =>
   by_cases hc:(k == NameKind.free && env.scope.kind == .function && env.kindOf n == some .cell) = true
   ·rw [if_pos hc]; simp only [List.lookup_cons,hx]; exact ih
   ·rw [if_neg hc]; simp only [List.lookup_cons,hx]; exact ih
theorem relabel_lookup (sc:Scope) (env:Env) (x:Str):(relabel sc env).names.lookup x = (sc.names.lookup x).map fun k=>if (k == NameKind.free && env.scope.kind == .function && env.kindOf x == some .cell) then .cell else k:=lookup_relabel
theorem cf_app:∀ (names:List (Str × NameKind)) (n:Nat) (acc:List (Str × Addr)),cellsFrom n names acc = cellsFrom n names [] ++ acc
 | [],_,_=>rfl
 | (x,k) :: r,n,acc=>by
  unfold cellsFrom
  split
  ·rw [cf_app r (n + 1) ((x,n) :: acc),cf_app r (n + 1) [(x,n)],List.append_assoc]; rfl
  ·exact cf_app r n acc
theorem cf_mem {x:Str} {c:Addr}:∀ (names:List (Str × NameKind)) (n:Nat),(x,c) ∈ cellsFrom n names [] -> (x,NameKind.cell) ∈ names /\ n <= c
 | [],_,h=>by cases h
 | (y,k) :: r,n,h=>by
  unfold cellsFrom at h
  split at h
  ·rename_i hk
   have hk:k = .cell:=by simpa using hk
   rw [cf_app,List.mem_append] at h
   rcases h with h | h
   ·have:=cf_mem r (n + 1) h
    exact ⟨List.mem_cons_of_mem _ this.1,by omega⟩
   ·have h:(x,c) = (y,n):=by simpa using h
    cases h
    subst hk
    exact ⟨List.mem_cons_self,Nat.le_refl _⟩
  ·have:=cf_mem r n h
   exact ⟨List.mem_cons_of_mem _ this.1,this.2⟩
theorem lookup_app {α:Type} {x:Str}:∀ {l m:List (Str × α)},(l ++ m).lookup x = (l.lookup x).or (m.lookup x)
 | [],_=>rfl
 | (y,v) :: l,m=>by
  rw [List.cons_append,List.lookup_cons,List.lookup_cons]
  cases x == y with
  | true=>rfl
  | false=>exact lookup_app
theorem wpAny_newEnvComp {M:Model} {A:Around} {E:Value -> Shared -> Prop} {s:Shared} {scope:Scope} {globals:Addr} {closure:List (Str × Addr)} {qual:Str} {env:Env} {Q:Env -> Shared -> Prop}
  (hQ:Q (newEnv scope s.heap.objs.size globals (cellsFrom (s.heap.objs.size + 1) scope.names closure) qual none .none (some env) builtinsNs) { s with heap:=pushCells (s.heap.push { cls:=.type "dict",data:=.dict #[] }) scope.names }) :
  wpAny M A (newFunctionEnv scope globals closure [] qual none .none (some env)) Q E s:=by
 simp only [newFunctionEnv,Option.isSome_some,if_true]
 refine wpAny_bind (wpAny_alloc ?_)
 refine wpAny_bind (wpAny_layCells _ (fun name kind cells=>by cases hkc:kind == NameKind.cell <;> simp [hkc]) _ _ _ _ ?_)
 rw [show ({ s with heap:=s.heap.push { cls:=.type "dict",data:=.dict #[] } }:Shared).heap.objs.size = s.heap.objs.size + 1 from Heap.size_push ..]
 refine wpAny_bind ?_
 rw [List.forIn_nil]
 exact wpAny_pure (wpAny_pure hQ)
noncomputable def frN (N:List Str) (fr:List Nat):List Str:=fr.map fun i=>N.getD i Str.empty
noncomputable def frS (σ:St) (fr:List Nat):St:=fr.map fun i=>(σ[i]?).getD none
noncomputable def cxComp (X:Cx) (own:List Str) (fr:List Nat) (sc:Scope) (C:Addr) (s:Shared) (H:Hp) (ex:List Addr):Cx where
 prog:=X.prog
 w:=X.w
 K:=X.K
 mg:=X.mg
 base:=X.base
 A:=X.A
 N:=own ++ frN X.N fr
 s₀:=s
 H₀:=H
 env:=compEnvC sc (cellsFrom (C + 1) sc.names (clOf X.env.cells sc.names [])) C X.env
 outer:=X.stack
 stack:=X.stack
 ex:=ex
 fn:=fun x=>sc.names.lookup x == some .cell
 calm:=X.calm
 pn:=[]
 xe:=fun _ _=>False
noncomputable def st0 (own:List Str) (σ:St) (fr:List Nat):St:=own.map (fun _=>none) ++ frS σ fr
structure CompSc (X:Cx) (own:List Str) (fr:List Nat) (sc:Scope):Prop where
 kind:sc.kind = .function
 cells:∀ y ∈ sc.names,y.2 = .cell -> sc.names.lookup y.1 = some .cell
 loc:∀ y ∈ sc.names,y.2 = .local -> sc.names.lookup y.1 = some .local
 free:∀ y ∈ sc.names,y.2 = .free -> X.env.kindOf y.1 = some .cell \/ X.env.kindOf y.1 = some .free
 fr:∀ i ∈ fr,∃ x,X.N[i]? = some x /\ sc.names.lookup x = some .free
theorem comp_start {X:Cx} {own:List Str} {fr:List Nat} {sc:Scope} {pins:List (Addr × Obj)} {σ:St} {H:Hp} {s:Shared} {fp:List Addr} {C D:Addr} {h1:Heap} {tk:Nat} {oD:Obj}
  (S:CompSc X own fr sc) (I:Inv X pins σ H s) (hf:∀ b ∈ fp,FpOk X pins H b) (hfo:∀ b ∈ fp,∃ o,s.heap.get? b = some o) (hC:s.heap.objs.size <= C) (hD:s.heap.objs.size <= D) (hDC:D ≠ C) (hn:h1.Ns C fun x=>([]:List (Str × Value)).reverse.lookup x)
  (hk:∀ b o,s.heap.get? b = some o -> h1.get? b = some o) (hcl:∀ x c,(x,c) ∈ cellsFrom (C + 1) sc.names [] -> h1.IsCell c none) (hap:(cellsFrom (C + 1) sc.names []).Pairwise fun x y=>x.2 ≠ y.2) (hoD:h1.get? D = some oD) (hdD:∀ v,oD.data ≠ .cell v) :
  Inv (cxComp X own fr sc C s H fp) [(D,oD)] (st0 own σ fr) H { s with heap:=h1,toks:=tk }:=by
 have hfree:∀ y ∈ sc.names,y.2 = .free -> ∃ c,X.env.cells.lookup y.1 = some c:=fun y hy e=>I.ok.has y.1 (S.free y hy e)
 have cl1:∀ x c,(clOf X.env.cells sc.names []).lookup x = some c -> X.env.cells.lookup x = some c:=fun x c e=>by
  rcases clOf_lookup hfree e with z | z
  ·simp at z
  ·exact z
 have cl2:∀ x c,(cellsFrom (C + 1) sc.names (clOf X.env.cells sc.names [])).lookup x = some c -> (x,c) ∈ cellsFrom (C + 1) sc.names [] \/ X.env.cells.lookup x = some c:=fun x c e=>by
  rw [cf_app,lookup_app] at e
  cases q:(cellsFrom (C + 1) sc.names []).lookup x with
  | none=>rw [q] at e; exact .inr (cl1 x c e)
  | some c'=>rw [q] at e; cases e; exact .inl (PySem.mem_of_lookup q)
 have new:∀ x c,(x,c) ∈ cellsFrom (C + 1) sc.names [] -> C + 1 <= c:=fun x c h=>(cf_mem _ _ h).2
 have oldc:∀ x c,X.env.cells.lookup x = some c -> c < s.heap.objs.size:=fun x c e=>by
  obtain ⟨v,q⟩:=I.cell x c e
  exact q.lt
 have kin:∀ x k,(relabel sc X.env).names.lookup x = some k -> k = .cell \/ k = .free -> sc.names.lookup x = some .free \/ sc.names.lookup x = some .cell:=fun x k e hk=>by
  rw [relabel_lookup] at e
  cases q:sc.names.lookup x with
  | none=>rw [q] at e; cases e
  | some j =>
   rw [q,Option.map_some,Option.some.injEq] at e
   by_cases hj:j = .free
   ·rw [hj]; exact .inl rfl
   ·have hne:(j == NameKind.free) = false:=by simpa using hj
    rw [hne,Bool.false_and,Bool.false_and,if_neg (by simp)] at e
    subst e
    rcases hk with z | z
    ·rw [z]; exact .inr rfl
    ·exact absurd z hj
 have kout:∀ x,sc.names.lookup x = some .free -> ((relabel sc X.env).names.lookup x = some .cell \/ (relabel sc X.env).names.lookup x = some .free):=fun x e=>by
  rw [relabel_lookup,e,Option.map_some]
  by_cases h:(NameKind.free == NameKind.free && X.env.scope.kind == .function && X.env.kindOf x == some .cell) = true
  ·rw [if_pos h]; exact .inl rfl
  ·rw [if_neg h]; exact .inr rfl
 have okc:∀ b ∈ fp,b < s.heap.objs.size:=fun b hb=>by obtain ⟨o,e⟩:=hfo b hb; exact Heap.lt_size e
 have fresh:∀ {a:Addr},s.heap.objs.size <= a -> H a = none:=fun h=>I.hok.fresh h
 have ok:(cxComp X own fr sc C s H fp).Ok:={
   mod:=I.ok.mod
   kind:=S.kind
   glob:=I.ok.glob
   blt:=I.ok.blt
   above:=hC
   inj:=fun x y c h1 h2=>by
     have hC:s.heap.objs.size <= C:=hC
     rcases cl2 x c h1 with a | a <;> rcases cl2 y c h2 with b | b
     · exact name_of_addr hap a b
     · have:=new x c a; have:=oldc y c b; exact absurd (Nat.lt_of_lt_of_le (oldc y c b) (Nat.le_trans hC (Nat.le_of_succ_le (new x c a)))) (Nat.lt_irrefl _)
     · exact absurd (Nat.lt_of_lt_of_le (oldc x c a) (Nat.le_trans hC (Nat.le_of_succ_le (new y c b)))) (Nat.lt_irrefl _)
     · exact I.ok.inj x y c a b
   has:=fun x hx=>by
     have hx:sc.names.lookup x = some .free \/ sc.names.lookup x = some .cell:=by
       rcases hx with hx | hx
       · exact kin x _ hx (.inl rfl)
       · exact kin x _ hx (.inr rfl)
     show ∃ c,(cellsFrom (C + 1) sc.names (clOf X.env.cells sc.names [])).lookup x = some c
     rw [cf_app,lookup_app]
     rcases hx with hx | hx
     · obtain ⟨c,e⟩:=clOf_has (cells:=X.env.cells) (x:=x) (l:=sc.names) (acc:=[]) (.inr hx)
       rw [e]
       cases (cellsFrom (C + 1) sc.names []).lookup x with
       | none=>exact ⟨c,rfl⟩
       | some c'=>exact ⟨c',rfl⟩
     · obtain ⟨c,e⟩:=cell_has (n:=C + 1) hx
       rw [e]
       exact ⟨c,rfl⟩
   cab:=fun x c h e=>by
     have h:sc.names.lookup x = some .cell:=by simpa [cxComp] using h
     have e:(cellsFrom (C + 1) sc.names (clOf X.env.cells sc.names [])).lookup x = some c:=e
     obtain ⟨c',q⟩:=cell_has (n:=C + 1) h
     rw [cf_app,lookup_app,q] at e
     cases e
     exact Nat.le_trans hC (Nat.le_of_succ_le (new x _ (PySem.mem_of_lookup q)))
   hd:=I.ok.hd
   frames:=I.ok.frames
   stk:=.inl rfl
   exf:=fun b hb=>⟨Nat.ne_of_lt (Nat.lt_of_lt_of_le (okc b hb) hC),fun x c e=>by
     rcases cl2 x c e with z | z
     · exact Nat.ne_of_gt (Nat.lt_of_lt_of_le (okc b hb) (Nat.le_trans hC (Nat.le_of_succ_le (new x c z))))
     · exact (hf b hb).2.2.2.2.1 x c z⟩
   bs:=I.bs
   bsz:=Nat.le_trans I.ok.bsz I.sz
   noex:=fun b o e hb=>by
     rcases (hf b hb).2.2.2.1 with z | z
     · exact I.ok.noex b o e z
     · exact absurd (Nat.lt_of_lt_of_le (Heap.lt_size e) (Nat.le_trans I.ok.bsz z)) (Nat.lt_irrefl _)
   exfs:=fun b hb hm=>by
     rcases List.mem_cons.mp (I.stkSub b hm) with z | z
     · exact (hf b hb).2.1 z
     · exact (hf b hb).2.2.1 z
   funs:=I.stack
   frf:=I.stkFree }
 refine ⟨ok,rfl,I.bare,Un.kept hk,⟨_,hn,fun i x v e1 e2 e3=>?_⟩,fun x c e=>?_,fresh hC,fun x c e=>?_,fun p hp=>?_,I.hok.kept hk,?_⟩
 ·have e1:(own ++ frN X.N fr)[i]? = some x:=e1
  have e2:(own.map (fun _=>(none:Option V)) ++ frS σ fr)[i]? = some (some v):=e2
  by_cases hi:i < own.length
  ·rw [List.getElem?_append_left (by simpa using hi),List.getElem?_map] at e2
   cases q:own[i]? with
   | none=>rw [q] at e2; cases e2
   | some z=>rw [q] at e2; cases e2
  ·rw [List.getElem?_append_right (by omega)] at e1
   rw [List.getElem?_append_right (by simpa using hi),List.length_map] at e2
   unfold frN at e1
   unfold frS at e2
   rw [List.getElem?_map] at e1 e2
   cases q:fr[i - own.length]? with
   | none=>rw [q] at e1; cases e1
   | some j =>
    rw [q,Option.map_some,Option.some.injEq] at e1 e2
    obtain ⟨y,hy,hyf⟩:=S.fr j (List.mem_of_getElem? q)
    rw [List.getD_eq_getElem?_getD,hy,Option.getD_some] at e1
    subst e1
    have e2':σ[j]? = some (some v):=by
     cases r:σ[j]? with
     | none=>rw [r] at e2; cases e2
     | some z=>rw [r,Option.getD_some] at e2; rw [e2]
    have hkf:X.env.kindOf y = some .cell \/ X.env.kindOf y = some .free:=S.free (y,.free) (PySem.mem_of_lookup hyf) rfl
    obtain ⟨m,hm,hl⟩:=I.loc
    have vis:Vis X.env.scope y:=by
     rcases hkf with z | z
     ·exact .inr (.inl z)
     ·exact .inr (.inr z)
    obtain ⟨u,r,l⟩:=hl j y v hy e2' vis
    refine ⟨u,r,?_⟩
    rcases l with ⟨k,_⟩ | ⟨k,c,hc,z⟩
    ·rcases hkf with k' | k' <;> rw [k] at k' <;> cases k'
    ·refine .inr ⟨kout y hyf,?_⟩
     obtain ⟨c',hc'⟩:∃ c',(clOf X.env.cells sc.names []).lookup y = some c':=clOf_has (.inr hyf)
     have:c' = c:=Option.some.inj ((cl1 y c' hc').symm.trans hc)
     subst this
     obtain ⟨o,ho,hd⟩:=z
     refine ⟨c',?_,o,hk _ _ ho,hd⟩
     show (cellsFrom (C + 1) sc.names (clOf X.env.cells sc.names [])).lookup y = some c'
     rw [cf_app,lookup_app,hc']
     cases q:(cellsFrom (C + 1) sc.names []).lookup y with
     | none=>rfl
     | some c2 =>
      have:=S.cells _ (cf_mem _ _ (PySem.mem_of_lookup q)).1 rfl
      rw [hyf] at this
      cases this
 ·rcases cl2 x c e with z | z
  ·exact ⟨_,hcl x c z⟩
  ·obtain ⟨v,o,ho,hd⟩:=I.cell x c z
   exact ⟨v,o,hk _ _ ho,hd⟩
 ·rcases cl2 x c e with z | z
  ·exact fresh (Nat.le_trans hC (Nat.le_of_succ_le (new x c z)))
  ·exact I.freeC x c z
 ·have e:p = (D,oD):=by
   have:p ∈ ([]:List (Addr × Obj)) ++ [(D,oD)]:=hp
   simpa using this
  subst e
  refine ⟨hoD,fresh hD,hDC,fun hm=>?_,hdD⟩
  have hm:D ∈ frs X.stack:=hm
  obtain ⟨_,o,ho,_⟩:=I.stack.mem hm
  exact absurd (Nat.lt_of_lt_of_le (Heap.lt_size ho) hD) (Nat.lt_irrefl _)
 ·show (own.map (fun _=>(none:Option V)) ++ frS σ fr).length = (own ++ frN X.N fr).length
  simp [frS,frN]
theorem comp_end {X:Cx} {own:List Str} {fr:List Nat} {sc:Scope} {pins:List (Addr × Obj)} {σ σ':St} {H H':Hp} {s s':Shared} {fp:List Addr} {C D:Addr} {oD:Obj} {ys:List V} {us:List Value} {n:Nat}
  (I:Inv X pins σ H s) (hf:∀ b ∈ fp,FpOk X pins H b) (hC:s.heap.objs.size <= C) (hD:s.heap.objs.size <= D) (hDC:D ≠ C)
  (J:Inv (cxComp X own fr sc C s H fp) [(D,oD)] σ' H' s') (ho:oD = { cls:=.type "list",data:=.seq us.toArray n }) (r:Vals ys us) (hz:ys.length <= sizeLine) :
  Inv X pins σ (upd H' D (.lst ys)) s' /\ (∃ m,s'.heap.Ns C m) /\ FpOk X pins (upd H' D (.lst ys)) C:=by
 have pD:=J.pin (D,oD) (by simp [cxComp])
 have hHD:H' D = none:=pD.2.1
 have u:Un (frs X.stack) fp H H' s.heap s'.heap:=J.base
 have lt:∀ b o,s.heap.get? b = some o -> b ≠ D:=fun b o e=>Nat.ne_of_lt (Nat.lt_of_lt_of_le (Heap.lt_size e) hD)
 have u2:Un (frs X.stack) fp H (upd H' D (.lst ys)) s.heap s'.heap :=
  ⟨u.keep,u.slot,fun b o e n hx=>by rw [upd_ne (lt b o e)]; exact u.free b o e n hx,u.there,fun b xs e=>by rw [upd_ne (ne_of_none (u.tups b xs e) hHD)]; exact u.tups b xs e,
    fun b o x e=>by rw [upd_ne (ne_of_none (u.frzs b o x e) hHD)]; exact u.frzs b o x e,fun b ps e=>by
      obtain ⟨more,q⟩:=u.tbls b ps e
      exact ⟨more,by rw [upd_ne (ne_of_none q hHD)]; exact q⟩⟩
 have hok:HOk X.prog X.w (upd H' D (.lst ys)) s'.heap:=fun b o e=>by
  by_cases hb:b = D
  ·subst hb
   rw [upd_same] at e
   cases e
   exact ⟨hz,us,n,r,by rw [<- ho]; exact pD.1⟩
  ·rw [upd_ne hb] at e
   exact (J.hok b o e).stay (fun _ _ _ q=>q) (fun c q=>by rw [upd_ne (ne_of_none q hHD)]; exact q) fun c xs q=>by rw [upd_ne (ne_of_none q hHD)]; exact q
 refine ⟨I.call' (ch:=fp) J.os u2 hok J.bare fun b hb=>?_,?_,?_⟩
 ·obtain ⟨f0,f1,f2,f3,f4,f5⟩:=hf b hb
  exact ⟨f3,f1,f4,f5⟩
 ·obtain ⟨m,hm,_⟩:=J.loc
  exact ⟨m,hm⟩
 ·have hfree:H' C = none:=J.free
  refine ⟨by rw [upd_ne (Ne.symm hDC)]; exact hfree,?_⟩
  exact (I.fpOk hC (I.hok.fresh hC)).2
theorem codeAny_compLoop_any {prog:Program} {w:World} {A:Around} {R:Result -> Shared -> Prop} {s:Shared} {elt target iter:Expr} {ifs:List Expr} {scope:Scope} {pos:Pos} {it acc:Value} {env:Env} (I:Nat -> Shared -> Prop)
  (turn:∀ n s,I n s -> wpAny (model prog w) A (pyNext it) (fun r s₁=>match r with
    | none=>R (.ok .next) s₁
    | some v=>wpAny (model prog w) A (letOwnedTupleGo target it v) (fun _ s₁'=>wpAny (model prog w) A (assign target env v) (fun _ s₂ =>
        wpAny (model prog w) A (forIn ifs true fun c r=>if r = true then do let ok <- isTrue c env (eval c env); pure (ForInStep.yield ok) else pure (ForInStep.yield r)) (fun ok s₃ =>
          if ok = true then wpAny (model prog w) A (eval elt env) (fun x s₄ =>
            wpAny (model prog w) A (call (.builtin "list.append") [acc,x]) (fun _ s₅=>∃ m,m < n /\ I m s₅) (fun _ _=>False) s₄) (fun _ _=>False) s₃
          else ∃ m,m < n /\ I m s₃) (fun _ _=>False) s₂) (fun _ _=>False) s₁') (fun _ _=>False) s₁) (fun _ _=>False) s)
  (n:Nat) (h:I n s) :
  codeAny (model prog w) A (.compLoop (.ListComp elt [⟨target,iter,ifs,0⟩] scope pos) 0 it acc env) R s:=by
 refine codeAny_loop rfl I (fun n s hI=>?_) n h
 show wpAny _ A ((compTurn (.ListComp elt [⟨target,iter,ifs,0⟩] scope pos) 0 it acc env).onRaise (fun x=>do noteFrame x env; theTreesLotGoes x)) _ _ s
 refine wpAny_noted ?_
 rw [compTurn_list]
 refine wpAny_bind (wpAny_standAt (wpAny_bind (wpAny_mono (turn n s hI) (fun r s₁ h₁=>?_) fun _ _ h'=>h'.elim)))
 cases r with
 | none=>exact wpAny_pure h₁
 | some v =>
  refine wpAny_bind (wpAny_mono h₁ (fun _ s₁' h₁'=>?_) fun _ _ h'=>h'.elim)
  refine wpAny_bind (wpAny_mono h₁' (fun _ s₂ h₂=>wpAny_bind (wpAny_mono h₂ (fun ok s₃ h₃=>?_) fun _ _ h'=>h'.elim)) fun _ _ h'=>h'.elim)
  cases ok with
  | false=>exact wpAny_pure ⟨rfl,h₃⟩
  | true =>
   exact wpAny_bind (wpAny_bind (wpAny_mono h₃ (fun x s₄ h₄=>wpAny_bind (wpAny_mono h₄ (fun _ s₅ h₅=>wpAny_pure (wpAny_pure ⟨rfl,h₅⟩)) fun _ _ h'=>h'.elim)) fun _ _ h'=>h'.elim))
noncomputable def PIf (X:Cx) (ifs:List Expr) (t:TT):Prop :=
 ∀ (pins:List (Addr × Obj)) (s:Shared) (σ:St) (H:Hp) (Q:Bool -> Hp -> Prop),Inv X pins σ H s -> t σ H Q ->
  wpAny (model X.prog X.w) X.A (forIn ifs true fun c r=>if r = true then do let ok <- isTrue c X.env (eval c X.env); pure (ForInStep.yield ok) else pure (ForInStep.yield r)) (TP X pins σ Q) X.xe s
noncomputable def tYes:TT:=fun _ H Q=>Q true H
theorem if_nil {X:Cx}:PIf X [] tYes:=fun _ _ _ H _ I h=>wpAny_tests_nil ⟨H,I,h⟩
theorem if_one {X:Cx} {c:Expr} {t:TT} (h:PT X c t):PIf X [c] t:=fun pins s σ H Q I hw=>wpAny_tests_one (h pins s σ H Q I hw)
noncomputable def tComp (wi:TI) (own:List Str) (fr:List Nat) (g:TG) (tc:TT) (te:TE):TE:=fun σ H Q=>wi σ H fun J H1=>∃ W:Nat -> Nat -> List V -> St -> Hp -> Prop,(∃ m,W 0 m [] (st0 own σ fr) H1) /\ ∀ i m ys τ H,W i m ys τ H ->
 (J.stop i H /\ ∀ D,H D = none -> Q (.ref D) (upd H D (.lst ys))) \/
 (J.go i H /\ ys.length < sizeLine /\ ∃ N:List V -> St -> Hp -> Prop,(∀ ys' τ' H',N ys' τ' H' -> ∃ m',m' < m /\ W (i + 1) m' ys' τ' H') /\ ∀ x H',J.yld i H x H' -> g x τ H' fun τ2 H2 =>
   tc τ2 H2 fun b H3=>if b = true then te τ2 H3 fun y H4=>N (ys ++ [y]) τ2 H4 else N ys τ2 H3)
theorem comp_grow {X:Cx} {D:Addr} {us:List Value} {k:Nat} {pl:List (Addr × Obj)} {σ:St} {H:Hp} {s:Shared} {u:Value} {Q:Value -> Shared -> Prop} {E:Value -> Shared -> Prop}
  (I:Inv X ([(D,{ cls:=.type "list",data:=.seq us.toArray k })] ++ pl) σ H s) (h1:X.s₀.heap.objs.size <= D) (h2:∀ x c,X.env.cells.lookup x = some c -> c ≠ D) (h3:∀ p ∈ X.pn ++ pl,p.1 ≠ D) (hz:us.length < sizeLine)
  (h:∀ k' s',Inv X ([(D,{ cls:=.type "list",data:=.seq (us ++ [u]).toArray k' })] ++ pl) σ H s' -> Q .none s'):wpAny (model X.prog X.w) X.A (call (.builtin "list.append") [.ref D,u]) Q E s:=by
 obtain ⟨e,hn,hL,hF,_⟩:=I.pin (D,{ cls:=.type "list",data:=.seq us.toArray k }) (List.mem_append_right _ (List.mem_append_left _ (List.mem_singleton.mpr rfl)))
 dsimp only at e hn hL hF
 have I0:Inv X pl σ H s:=I.pins_of fun p hp=>I.pin p (List.mem_append_right _ (List.mem_append_right _ hp))
 refine call_meets F.slot_list_append ⟨_,e,rfl⟩ F.entry_list_append (F.args_list_append_2 _ _) (PySem.list_append D us.toArray k u (by rw [List.size_toArray]; omega)) ⟨e,?_⟩
 have q:=PySem.IsL.update e fun xs=>xs.push u
 rw [show us.toArray.push u = (us ++ [u]).toArray by simp] at q
 have I1:Inv X pl σ H { s with heap:=s.heap.update D (Obj.mapSeq fun xs=>xs.push u),toks:=s.toks } :=
  I0.turned (it:=D) (fun b o hb ho=>(Heap.get?_update_other s.heap (Obj.mapSeq fun xs=>xs.push u) (Ne.symm hb)).trans ho) hn hL (.inr h1) h2 h3
 obtain ⟨k',q⟩:∃ k',(s.heap.update D (Obj.mapSeq fun xs=>xs.push u)).get? D = some { cls:=.type "list",data:=.seq (us ++ [u]).toArray k' }:=⟨_,q⟩
 refine h k' _ (I1.pins_of (pins':=[(D,{ cls:=.type "list",data:=.seq (us ++ [u]).toArray k' })] ++ pl) fun p hp=>?_)
 rcases List.mem_append.mp hp with z | z
 ·have z:p = _:=List.mem_singleton.mp z
  subst z
  exact ⟨q,hn,hL,hF,fun v z=>by cases z⟩
 ·exact I1.pin p (List.mem_append_right _ z)
theorem comp_block {X:Cx} {tg iter elt:Expr} {ifs:List Expr} {sc:Scope} {pos:Pos} {own:List Str} {fr:List Nat} {g:TG} {tc:TT} {te:TE} {pins:List (Addr × Obj)} {σ:St} {H2:Hp} {s2:Shared} {it:Addr} {fp:List Addr} {tn:Nat -> Heap -> Prop} {J:It} {Q:VK} {E:Value -> Shared -> Prop}
  {RR:Value -> Addr -> Result -> Shared -> Prop}
  (hc:X.calm = true) (S:CompSc X own fr sc) (I2:Inv X pins σ H2 s2) (T:Turn X.prog X.w X.K tg J fp it tn) (st2:tn 0 s2.heap) (f2:∀ b ∈ fp,FpOk X pins H2 b)
  (hg:∀ C ex,PG (cxComp X own fr sc C s2 H2 ex) tg g) (hif:∀ C ex,PIf (cxComp X own fr sc C s2 H2 ex) ifs tc) (he:∀ C ex,PE (cxComp X own fr sc C s2 H2 ex) elt te)
  (W:Nat -> Nat -> List V -> St -> Hp -> Prop) (m0:Nat) (w0:W 0 m0 [] (st0 own σ fr) H2)
  (turn:∀ i m ys τ H,W i m ys τ H -> (J.stop i H /\ ∀ D,H D = none -> Q (.ref D) (upd H D (.lst ys))) \/
    (J.go i H /\ ys.length < sizeLine /\ ∃ N:List V -> St -> Hp -> Prop,(∀ ys' τ' H',N ys' τ' H' -> ∃ m',m' < m /\ W (i + 1) m' ys' τ' H') /\ ∀ x H',J.yld i H x H' -> g x τ H' fun τ2 H2 =>
      tc τ2 H2 fun b H3=>if b = true then te τ2 H3 fun y H4=>N (ys ++ [y]) τ2 H4 else N ys τ2 H3))
  (hRR:∀ D C H s',Inv X pins σ H s' -> Q (.ref D) H -> (∃ m,s'.heap.Ns C m) -> FpOk X pins H C -> RR (.ref D) C (.ok .next) s') :
  wpAny (model X.prog X.w) X.A (newList []) (fun acc s₃=>wpAny (model X.prog X.w) X.A (newFunctionEnv sc X.env.globals (clOf X.env.cells sc.names []) [] X.env.qual none .none (some X.env)) (fun cenv s₄ =>
    codeAny (model X.prog X.w) X.A (.compStart (.ListComp elt [⟨tg,iter,ifs,0⟩] sc pos) 0 (.ref it) acc { cenv with scope:=relabel sc X.env }) (RR acc cenv.locals) s₄) E s₃) E s2:=by
 refine wpAny_newObj_type (wpAny_newEnvComp ?_)
 dsimp only
 generalize hH2:s2.heap.push { cls:=.type "list",dict:=none,data:=.seq ([]:List Value).toArray } = G
 generalize hh1:pushCells (G.push { cls:=.type "dict",data:=.dict #[] }) sc.names = h₁
 have kp:∀ b o,(G.push { cls:=.type "dict",data:=.dict #[] }).get? b = some o -> h₁.get? b = some o:=fun b o e=>hh1 ▸ pushCells_keeps _ _ b o e
 have hns₁:h₁.Ns G.objs.size fun x=>([]:List (Str × Value)).reverse.lookup x:=(Heap.Ns.new G (.type "dict")).keeps kp
 have cok:CellsOk h₁ (G.objs.size + 1) (cellsFrom (G.objs.size + 1) sc.names []):=by
  have:=cellsFrom_ok sc.names (G.push { cls:=.type "dict",data:=.dict #[] }) (G.objs.size + 1) [] ⟨fun _ _ hm=>(nomatch hm),List.Pairwise.nil⟩ (by rw [Heap.size_push]; exact Nat.le_refl _)
  rw [Heap.size_push,hh1] at this
  exact this
 have hC:G.objs.size = s2.heap.objs.size + 1:=by rw [<- hH2,Heap.size_push]
 have hCle:s2.heap.objs.size <= G.objs.size:=by rw [hC]; exact Nat.le_succ _
 have hDC:s2.heap.objs.size ≠ G.objs.size:=by rw [hC]; exact Nat.ne_of_lt (Nat.lt_succ_self _)
 have old:∀ b o,s2.heap.get? b = some o -> h₁.get? b = some o:=fun b o e=>kp b o (Heap.get?_push_of_some _ (hH2 ▸ Heap.get?_push_of_some _ e))
 have hacc:h₁.get? s2.heap.objs.size = some { cls:=.type "list",data:=.seq ([]:List Value).toArray }:=kp _ _ (Heap.get?_push_of_some _ (hH2 ▸ Heap.get?_push_size _ rfl))
 have st0':tn 0 h₁:=T.keep _ _ _ st2 fun b hb o e=>old b o e
 have fo:∀ b ∈ fp,∃ o,s2.heap.get? b = some o:=fun b hb=>let ⟨o,e,_⟩:=T.obj _ _ st2 b hb; ⟨o,e⟩
 have flt:∀ b ∈ fp,b < s2.heap.objs.size:=fun b hb=>by obtain ⟨o,e⟩:=fo b hb; exact Heap.lt_size e
 have clb:∀ x c,(clOf X.env.cells sc.names []).lookup x = some c -> X.env.cells.lookup x = some c:=fun x c e=>by
  rcases clOf_lookup (fun y hy e=>I2.ok.has y.1 (S.free y hy e)) e with z | z
  ·simp at z
  ·exact z
 have clb2:∀ (C':Addr) x c,(cellsFrom (C' + 1) sc.names (clOf X.env.cells sc.names [])).lookup x = some c -> C' + 1 <= c \/ X.env.cells.lookup x = some c:=fun C' x c e=>by
  rw [cf_app,lookup_app] at e
  cases q:(cellsFrom (C' + 1) sc.names []).lookup x with
  | none=>rw [q] at e; exact .inr (clb x c e)
  | some c'=>rw [q] at e; cases e; exact .inl (cf_mem _ _ (PySem.mem_of_lookup q)).2
 have stt:∀ C':Addr,s2.heap.objs.size <= C' -> ∀ {H':Hp} {pl:List (Addr × Obj)},(∀ b ∈ fp,H' b = none) -> (∀ p ∈ pl,s2.heap.objs.size <= p.1) -> ∀ b ∈ fp,FpOk (cxComp X own fr sc C' s2 H2 fp) pl H' b:=fun C' hC' H' pl hn hp b hb=>by
  have I0:=f2 b hb
  refine ⟨hn b hb,Nat.ne_of_lt (Nat.lt_of_lt_of_le (flt b hb) hC'),fun hm=>?_,.inl hb,fun x c e=>by
      rcases clb2 C' x c e with z | z
      · exact Nat.ne_of_gt (Nat.lt_of_lt_of_le (flt b hb) (Nat.le_trans hC' (Nat.le_of_succ_le z)))
      · exact I0.2.2.2.2.1 x c z,fun p hp'=>?_⟩
  ·rcases List.mem_cons.mp (I2.stkSub b hm) with z | z
   ·exact I0.2.1 z
   ·exact I0.2.2.1 z
  ·have hp':p ∈ pl:=by
    have:p ∈ ([]:List (Addr × Obj)) ++ pl:=hp'
    simpa using this
   exact Nat.ne_of_gt (Nat.lt_of_lt_of_le (flt b hb) (hp p hp'))
 have loop:∀ s₃:Shared,s₃ = { s2 with heap:=h₁,toks:=s2.toks } ->
   codeAny (model X.prog X.w) X.A (.compLoop (.ListComp elt [⟨tg,iter,ifs,0⟩] sc pos) 0 (.ref it) (.ref s2.heap.objs.size) (compEnvC sc (cellsFrom (G.objs.size + 1) sc.names (clOf X.env.cells sc.names [])) G.objs.size X.env))
    (RR (.ref s2.heap.objs.size) G.objs.size) s₃:=by
  rintro s₃ rfl
  have I3:=comp_start (own:=own) (fr:=fr) (tk:=s2.toks) S I2 f2 fo hCle (Nat.le_refl _) hDC hns₁ old (fun x c h=>(cok.empty x c h).1) cok.apart hacc (fun v z=>by cases z)
  refine codeAny_compLoop_any (fun n s'=>∃ i H' ys us k τ,Inv (cxComp X own fr sc G.objs.size s2 H2 fp) [(s2.heap.objs.size,{ cls:=.type "list",data:=.seq us.toArray k })] τ H' s' /\ tn i s'.heap /\ (∀ b ∈ fp,H' b = none) /\ Vals ys us /\ ys.length <= sizeLine /\ W i n ys τ H') ?_ m0
   ⟨0,H2,[],[],0,_,I3,st0',fun b hb=>(f2 b hb).1,.nil,Nat.zero_le _,w0⟩
  rintro n s4 ⟨i,H4,ys,us,k,τ,I4,st4,fr4,rv4,hz4,w4⟩
  have hp4:∀ p ∈ [(s2.heap.objs.size,({ cls:=.type "list",data:=.seq us.toArray k }:Obj))],s2.heap.objs.size <= p.1:=fun p hp=>by
   rw [List.mem_singleton.mp hp]
   exact Nat.le_refl _
  rcases turn i n ys τ H4 w4 with ⟨stop,qn⟩ | ⟨go,hlt,N,hN,step⟩
  ·refine thn (T.done (cxComp X own fr sc G.objs.size s2 H2 fp) rfl rfl rfl hc i _ s4 _ H4 (fun _ _=>False) I4 (stt _ hCle fr4 hp4) st4 stop) fun r s5 ⟨hr,I5⟩=>?_
   subst hr
   obtain ⟨a1,a2,a3⟩:=comp_end I2 f2 hCle (Nat.le_refl _) hDC I5 rfl rv4 hz4
   exact hRR _ _ _ s5 a1 (qn _ (I5.pin _ (List.mem_append_right _ (List.mem_singleton.mpr rfl))).2.1) a2 a3
  ·refine thn (T.item (cxComp X own fr sc G.objs.size s2 H2 fp) rfl rfl rfl hc i _ s4 _ H4 (fun _ _=>False) I4 (stt _ hCle fr4 hp4) st4 go) fun r s5 ⟨u,hr,h5⟩=>?_
   subst hr
   refine thn h5 fun _ s6 ⟨x,H6,I6,r6,y6,st6,fr6⟩=>?_
   have I6':=I6.pinned (stt _ hCle fr6 hp4) (T.obj _ _ st6)
   refine thn (hg G.objs.size fp _ s6 _ H6 x u _ I6' r6 (step x H6 y6)) fun _ s7 ⟨σ7,H7,I7,q7⟩=>?_
   refine thn (hif G.objs.size fp _ s7 σ7 H7 _ I7 q7) fun b s8 ⟨H8,I8,q8⟩=>?_
   have again:∀ {s9:Shared} {H9:Hp} {ys':List V} {us':List Value} {k':Nat},Inv (cxComp X own fr sc G.objs.size s2 H2 fp) ([(s2.heap.objs.size,{ cls:=.type "list",data:=.seq us'.toArray k' })] ++ pinsAt fp s6.heap) σ7 H9 s9 -> Vals ys' us' -> ys'.length <= sizeLine -> N ys' σ7 H9 ->
     ∃ m,m < n /\ ∃ i H' ys us k τ,Inv (cxComp X own fr sc G.objs.size s2 H2 fp) [(s2.heap.objs.size,{ cls:=.type "list",data:=.seq us.toArray k })] τ H' s9 /\ tn i s9.heap /\ (∀ b ∈ fp,H' b = none) /\ Vals ys us /\ ys.length <= sizeLine /\ W i m ys τ H':=fun {s9 H9 ys' us' k'} I9 rv9 hz9 n9=>by
    obtain ⟨m',hm,w9⟩:=hN ys' σ7 H9 n9
    refine ⟨m',hm,i + 1,H9,ys',us',k',σ7,I9.unpinned,T.keep _ _ _ st6 fun b hb o e=>(I9.pin (b,o) (List.mem_append_right _ (List.mem_append_right _ (mem_pinsAt hb e)))).1,fun b hb=>?_,rv9,hz9,w9⟩
    obtain ⟨o,e,d⟩:=T.obj _ _ st6 b hb
    exact (I9.pin (b,o) (List.mem_append_right _ (List.mem_append_right _ (mem_pinsAt hb e)))).2.1
   cases b with
   | false =>
    rw [if_neg Bool.false_ne_true] at q8 ⊢
    exact again I8 rv4 hz4 q8
   | true =>
    rw [if_pos rfl] at q8 ⊢
    refine thn (he G.objs.size fp _ s8 σ7 H8 _ I8 q8) fun y s9 ⟨yv,H9,I9,r9,n9⟩=>?_
    refine comp_grow (X:=cxComp X own fr sc G.objs.size s2 H2 fp) I9 (Nat.le_refl _) (fun x c e z=>?_) (fun p hp z=>?_) (by rw [<- rv4.length]; exact hlt) fun k' s10 I10=>?_
    ·rcases clb2 _ x c e with y | y
     ·rw [z] at y
      exact absurd (Nat.lt_of_lt_of_le (Nat.lt_succ_of_le hCle) y) (Nat.lt_irrefl _)
     ·obtain ⟨v,q⟩:=I2.cell x c y
      exact absurd (Nat.lt_of_lt_of_le q.lt (by rw [z]; exact Nat.le_refl _)) (Nat.lt_irrefl _)
    ·have hp:p ∈ ([]:List (Addr × Obj)) ++ pinsAt fp s6.heap:=hp
     rw [List.nil_append] at hp
     have:=flt _ (of_pinsAt hp).1
     rw [z] at this
     exact absurd this (Nat.lt_irrefl _)
    ·exact again I10 (rv4.append (.cons r9 .nil)) (by rw [List.length_append,List.length_singleton]; omega) n9
 exact codeAny_compStart_list (loop _ rfl) (T.self _ 0 _ _ _ st0' (loop _ rfl))
theorem pe_comp {X:Cx} {tg iter elt:Expr} {ifs:List Expr} {sc:Scope} {pos:Pos} {own:List Str} {fr:List Nat} {wi:TI} {g:TG} {tc:TT} {te:TE} (hc:X.calm = true) (S:CompSc X own fr sc) (hi:PI X tg iter wi)
  (hg:∀ C s H ex,PG (cxComp X own fr sc C s H ex) tg g) (hif:∀ C s H ex,PIf (cxComp X own fr sc C s H ex) ifs tc) (he:∀ C s H ex,PE (cxComp X own fr sc C s H ex) elt te)
  (hs:∀ x,foldedSetIterable iter X.env x = pure x:=by intro _; rfl):PE X (.ListComp elt [⟨tg,iter,ifs,0⟩] sc pos) (tComp wi own fr g tc te):=by
 intro pins s σ H Q I h
 rw [eval_ListComp]
 refine wpAny_comprehension_free (use:=none) rfl hs (closure_of fun y hy e=>I.ok.has y.1 (S.free y hy e)) S.kind S.loc (thn (hi pins s σ H _ I h) fun v s1 h1=>thn h1 fun itv s2 h2=>?_)
 obtain ⟨it,fp,tn,J,H2,e,I2,T,st2,f2,W,⟨m0,w0⟩,turn⟩:=h2
 subst e
 refine comp_block (Q:=Q) (RR:=fun acc C=>compPost (model X.prog X.w) X.A X.xe none (EP X pins σ Q) acc C) hc S I2 T st2 f2 (fun C ex=>hg C s2 H2 ex) (fun C ex=>hif C s2 H2 ex) (fun C ex=>he C s2 H2 ex) W m0 w0 turn ?_
 intro D C H' s' I' q ⟨m,hm⟩ fC
 refine ⟨m,hm,fun h' sb=>⟨.ref D,H',?_,rfl,q⟩⟩
 obtain ⟨f0,f1,f2,f3,f4,f5⟩:=fC
 exact I'.turned (t':=s'.toks) (fun b o hb e=>(sb.2 b hb).trans e) f0 f1 f3 f4 f5
theorem ps_setComp {X:Cx} {tg iter elt:Expr} {ifs:List Expr} {sc:Scope} {pos spos py:Pos} {i:Nat} {y:Str} {own:List Str} {fr:List Nat} {wi:TI} {g:TG} {tc:TT} {te:TE} (hN:X.N.Nodup) (hy:X.N[i]? = some y) (hl:X.env.scope.names.lookup y = some .local) (hc:X.calm = true) (S:CompSc X own fr sc) (hi:PI X tg iter wi)
  (hg:∀ C s H ex,PG (cxComp X own fr sc C s H ex) tg g) (hif:∀ C s H ex,PIf (cxComp X own fr sc C s H ex) ifs tc) (he:∀ C s H ex,PE (cxComp X own fr sc C s H ex) elt te)
  (hsw:swapsWith (.ListComp elt [⟨tg,iter,ifs,0⟩] sc pos) (some (.Name y py)) spos.line X.env = pure true:=by rfl)
  (hs:∀ x,foldedSetIterable iter X.env x = pure x:=by intro _; rfl):PS X (.Assign [.Name y py] (.ListComp elt [⟨tg,iter,ifs,0⟩] sc pos) spos) (tAsg (tComp wi own fr g tc te) (gName i)):=by
 intro pins s σ H D I h
 rw [exec_Assign_Name_used _ _ _ _ hsw]
 refine wpAny_bind (wpAny_standAt ?_)
 show wpAny _ _ (evalThenUse (.ListComp elt [⟨tg,iter,ifs,0⟩] sc pos) X.env _ >>= _) _ _ s
 refine wpAny_bind ?_
 unfold evalThenUse
 refine wpAny_bind ?_
 refine wpAny_comprehension_free rfl hs (closure_of fun y hy e=>I.ok.has y.1 (S.free y hy e)) S.kind S.loc (thn (hi pins s σ H _ I h) fun v s1 h1=>thn h1 fun itv s2 h2=>?_)
 obtain ⟨it,fp,tn,J,H2,e,I2,T,st2,f2,W,⟨m0,w0⟩,turn⟩:=h2
 subst e
 refine comp_block (Q:=fun v H1=>D.nx (σ.set i (some v)) H1) hc S I2 T st2 f2 (fun C ex=>hg C s2 H2 ex) (fun C ex=>hif C s2 H2 ex) (fun C ex=>he C s2 H2 ex) W m0 w0 turn ?_
 intro D' C H' s' I' q ⟨m,hm⟩ fC
 obtain ⟨f0,f1,f2,f3,f4,f5⟩:=fC
 show wpAny (model X.prog X.w) X.A (assign (.Name y py) X.env (.ref D')) (fun _ s''=>∃ m,s''.heap.Ns C m /\ ∀ h',Heap.SameBut C s''.heap h' -> _) X.xe s'
 refine wpAny_assign_Name (store_ok2 I' hN hy (.inl hl) (v:=.ref D') rfl (fun s'' I'' hsb=>?_) (.inr hl))
 obtain ⟨a,hsb,ha⟩:=hsb
 have hCa:C ≠ a:=by
  rcases ha with z | z
  ·rw [z]; exact f1
  ·exact fun e=>f4 y a z e.symm
 obtain ⟨m',hm'⟩:∃ m',s''.heap.Ns C m':=⟨m,hm.sameBut hsb hCa⟩
 refine ⟨m',hm',fun h' sb=>wpAny_pure (wpAny_pure ⟨_,H',?_,q⟩)⟩
 exact I''.turned (t':=s''.toks) (fun b o hb e=>(sb.2 b hb).trans e) f0 f1 f3 f4 f5
end L2
namespace L2
open PySem PySem.Spec PyProof.Rows
inductive Kd where | l | t
noncomputable def ItAt (k:Kd) (h:Heap) (it a:Addr) (i:Nat):Prop:=match k with | .l=>h.IsListIter it a i | .t=>h.IsTupleIter it a i
noncomputable def SqAt (k:Kd) (h:Heap) (a:Addr) (xs:Array Value):Prop:=match k with | .l=>h.IsList a xs | .t=>h.IsTuple a xs
noncomputable def itObj (k:Kd) (a:Addr):Obj:=match k with | .l=>{ cls:=.type "list_iterator",data:=.fields #[.ref a,.int 0 0] } | .t=>{ cls:=.type "tuple_iterator",data:=.fields #[.ref a,.int 0 0] }
theorem ItAt.at {k:Kd} {h h':Heap} {it a:Addr} {i:Nat} (x:ItAt k h it a i) (f:∀ o,h.get? it = some o -> h'.get? it = some o):ItAt k h' it a i:=by
 cases k with
 | l=>exact Heap.IsListIter.at x f
 | t=>exact Heap.IsTupleIter.at x f
theorem SqAt.at {k:Kd} {h h':Heap} {a:Addr} {xs:Array Value} (x:SqAt k h a xs) (f:∀ o,h.get? a = some o -> h'.get? a = some o):SqAt k h' a xs:=by
 cases k with
 | l=>exact Heap.IsList.at x f
 | t=>obtain ⟨o,e,r⟩:=x; exact ⟨o,f o e,r⟩
theorem ItAt.obj {k:Kd} {h:Heap} {it a:Addr} {i:Nat} (x:ItAt k h it a i):∃ o,h.get? it = some o /\ ∀ v,o.data ≠ .cell v:=by
 cases k with
 | l=>obtain ⟨o,e,c,d⟩:=x; exact ⟨o,e,fun v z=>by rw [d] at z; cases z⟩
 | t=>obtain ⟨o,e,c,d⟩:=x; exact ⟨o,e,fun v z=>by rw [d] at z; cases z⟩
theorem ItAt.new (k:Kd) {h:Heap} {it a:Addr} (e:h.get? it = some (itObj k a)):ItAt k h it a 0:=by
 cases k with
 | l=>exact ⟨_,e,rfl,rfl⟩
 | t=>exact ⟨_,e,rfl,rfl⟩
section
variable {prog:Program} {w:World} {A:Around} {E:Value -> Shared -> Prop} {s:Shared}
theorem iter_at {k:Kd} {a:Addr} {xs:Array Value} {Q:Value -> Shared -> Prop} (hl:SqAt k s.heap a xs) (h:Q (.ref s.heap.objs.size) { s with heap:=s.heap.push (itObj k a) }):wpAny (model prog w) A (pyIter (.ref a)) Q E s:=by
 cases k with
 | l=>exact wpAny_pyIter_list hl h
 | t=>exact wpAny_pyIter_tuple hl h
theorem nextOf_tuple_item {it t:Addr} {i:Nat} {items} {x:Value} {Q:Value -> Shared -> Prop} (hit:s.heap.IsTupleIter it t i) (ht:s.heap.IsTuple t items) (hx:items[i]? = some x)
  (hQ:∀ h',h'.IsTupleIter it t (i + 1) -> Heap.SameBut it s.heap h' -> Q x { s with heap:=h' }):wpAny (model prog w) A (Builtin.SmallTypes.nextOf (.ref it)) Q E s:=by
 obtain ⟨o,ho,hc,hd⟩:=id hit
 obtain ⟨ol,hol,_,nl,hdl⟩:=ht
 unfold Builtin.SmallTypes.nextOf
 refine wpAny_bind (wpAny_callSpecial?_slot (name:=Str.ofString "__next__") hit.typeIs F.slot_tuple_iterator_next
   (wpAny_call_entry F.slot_tuple_iterator_next hit.typeIs F.entry_tuple_iterator_next ?_ (F.args_tuple_iterator_next_1 _)))
 show wpAny _ _ (field (.ref it) 0 >>= _) _ _ s
 refine wpAny_bind (wpAny_field ho hd (x:=.ref t) rfl ?_)
 show wpAny _ _ (if (Value.ref t == Value.none) = true then _ else _) _ _ s
 rw [if_neg (show ¬ ((Value.ref t == Value.none) = true) from Bool.false_ne_true)]
 show wpAny _ _ (field (.ref it) 1 >>= _) _ _ s
 refine wpAny_bind (wpAny_field ho hd (x:=.int i 0) rfl ?_)
 show wpAny _ _ (seqItems? (.ref t) >>= _) _ _ s
 refine wpAny_bind (wpAny_seqItems hol hdl ?_)
 simp only [Int.toNat_natCast,hx]
 refine wpAny_bind (wpAny_setField ho hd (by simp) (wpAny_pure ⟨x,rfl,wpAny_pure (hQ _ ?_ (Heap.SameBut.update ..))⟩))
 exact ⟨_,Heap.get?_update_self _ ho (Obj.isFreed_of_fields (Obj.data_mapFields hd _)),(Obj.cls_mapFields ..).trans hc,by
   rw [Obj.data_mapFields hd]; simp [rawInt]⟩
theorem nextOf_tuple_end {it l:Addr} {i:Nat} {items} {Q:Value -> Shared -> Prop} (hh:A.handled = none)
  (hit:s.heap.IsTupleIter it l i) (hl:s.heap.IsTuple l items) (hx:items[i]? = none)
  (hE:∀ h' e,Heap.ExtBut it s.heap h' -> (∃ o,h'.get? e = some o /\ o.cls = .type "StopIteration") -> E (.ref e) { s with heap:=h' }) :
  wpAny (model prog w) A (Builtin.SmallTypes.nextOf (.ref it)) Q E s:=by
 obtain ⟨o,ho,hc,hd⟩:=id hit
 obtain ⟨ol,hol,_,nl,hdl⟩:=hl
 unfold Builtin.SmallTypes.nextOf
 refine wpAny_bind (wpAny_callSpecial?_slot (name:=Str.ofString "__next__") hit.typeIs F.slot_tuple_iterator_next
   (wpAny_call_entry F.slot_tuple_iterator_next hit.typeIs F.entry_tuple_iterator_next ?_ (F.args_tuple_iterator_next_1 _)))
 show wpAny _ _ (field (.ref it) 0 >>= _) _ _ s
 refine wpAny_bind (wpAny_field ho hd (x:=.ref l) rfl ?_)
 show wpAny _ _ (if (Value.ref l == Value.none) = true then _ else _) _ _ s
 rw [if_neg (show ¬ ((Value.ref l == Value.none) = true) from Bool.false_ne_true)]
 show wpAny _ _ (field (.ref it) 1 >>= _) _ _ s
 refine wpAny_bind (wpAny_field ho hd (x:=.int i 0) rfl ?_)
 show wpAny _ _ (seqItems? (.ref l) >>= _) _ _ s
 refine wpAny_bind (wpAny_seqItems hol hdl ?_)
 simp only [Int.toNat_natCast,hx]
 refine wpAny_bind (wpAny_rule (wpAny_bind (wpAny_setField ho hd (by simp) ?_)))
 show wpAny _ _ (newExc (.type "StopIteration") [] >>= _) _ _ _
 refine wpAny_bind ?_
 simp only [newExc,newTuple]
 refine wpAny_bind (wpAny_newObj_type ?_ (by size_fits))
 refine wpAny_bind (m:=firstArgMember _ _) (wpAny_of_eq (a:=Value.none) (by first | rfl | (simp only [firstArgMember]; rfl)) ?_)
 refine wpAny_newObj_type ?_ (by size_fits)
 simp only [raiseNew]
 refine wpAny_bind (wpAny_handled ?_)
 first | rw [show A.in1.handled = none from hh] | rw [hh]
 refine wpAny_bind (wpAny_pure (wpAny_throw ?_))
 exact hE _ _ (((Heap.SameBut.update ..).extBut.push _).push _) ⟨_,Heap.get?_push_size _ rfl,rfl⟩
theorem nextOf_item {k:Kd} {it a:Addr} {i:Nat} {xs:Array Value} {x:Value} {Q:Value -> Shared -> Prop} (hit:ItAt k s.heap it a i) (hl:SqAt k s.heap a xs) (hx:xs[i]? = some x)
  (hQ:∀ h',ItAt k h' it a (i + 1) -> Heap.SameBut it s.heap h' -> Q x { s with heap:=h' }):wpAny (model prog w) A (Builtin.SmallTypes.nextOf (.ref it)) Q E s:=by
 cases k with
 | l=>exact wpAny_nextOf_list_item hit hl hx hQ
 | t=>exact nextOf_tuple_item hit hl hx hQ
theorem nextOf_end {k:Kd} {it a:Addr} {i:Nat} {xs:Array Value} {Q:Value -> Shared -> Prop} (hh:A.handled = none) (hit:ItAt k s.heap it a i) (hl:SqAt k s.heap a xs) (hx:xs[i]? = none)
  (hE:∀ h' e,Heap.ExtBut it s.heap h' -> (∃ o,h'.get? e = some o /\ o.cls = .type "StopIteration") -> E (.ref e) { s with heap:=h' }):wpAny (model prog w) A (Builtin.SmallTypes.nextOf (.ref it)) Q E s:=by
 cases k with
 | l=>exact wpAny_nextOf_list_end hh hit hl hx hE
 | t=>exact nextOf_tuple_end hh hit hl hx hE
end
noncomputable abbrev IsTup2 (h:Heap) (T:Addr) (a1 a2:Value):Prop:=h.get? T = some { cls:=.type "tuple",data:=.seq #[a1,a2] }
structure ZAp2 (z TI TO i1 i2 l1 l2:Addr):Prop where
 TIz:TI ≠ z
 TOz:TO ≠ z
 i1z:i1 ≠ z
 i2z:i2 ≠ z
 TOTI:TO ≠ TI
 i1TI:i1 ≠ TI
 i2TI:i2 ≠ TI
 i1TO:i1 ≠ TO
 i2TO:i2 ≠ TO
 i2i1:i2 ≠ i1
 l1z:l1 ≠ z
 l1TO:l1 ≠ TO
 l1i1:l1 ≠ i1
 l1i2:l1 ≠ i2
 l2z:l2 ≠ z
 l2TO:l2 ≠ TO
 l2i1:l2 ≠ i1
 l2i2:l2 ≠ i2
theorem zap2 (n l1 l2:Nat) (h1:l1 < n) (h2:l2 < n):ZAp2 (n + 4) (n + 2) (n + 3) n (n + 1) l1 l2:=by constructor <;> (show ¬ (@Eq Nat _ _)) <;> omega
section
variable {prog:Program} {w:World} {A:Around} {E:Value -> Shared -> Prop} {s:Shared}
theorem upSeq2 {T:Addr} {a1 a2 x:Value} {k:Nat} {Q:Unit -> Shared -> Prop} (hT:IsTup2 s.heap T a1 a2)
  (h:∀ h',h'.get? T = some { cls:=.type "tuple",data:=.seq ((#[a1,a2]:Array Value).setIfInBounds k x) } -> Heap.SameBut T s.heap h' -> Q () { s with heap:=h' }) :
  wpAny (model prog w) A (updateSeq T (·.setIfInBounds k x)) Q E s:=by
 refine wpAny_updateSeq hT rfl (h _ ?_ (Heap.SameBut.update ..))
 rw [Heap.get?_update_self _ hT rfl]
 simp [Obj.mapSeq]
theorem zipn_item2 {z TI TO i1 i2 l1 l2:Addr} {k:Nat} {k1:Kd} {k2:Kd} {xs1 xs2:Array Value} {a1 a2:Value} {x1 x2:Value} {Q:Value -> Shared -> Prop} (D:ZAp2 z TI TO i1 i2 l1 l2)
  (hz:IsZip s.heap z TI TO .none) (hTI:IsTup2 s.heap TI (.ref i1) (.ref i2)) (hTO:IsTup2 s.heap TO a1 a2)
  (h1:ItAt k1 s.heap i1 l1 k) (h2:ItAt k2 s.heap i2 l2 k) (hl1:SqAt k1 s.heap l1 xs1) (hl2:SqAt k2 s.heap l2 xs2) (hx1:xs1[k]? = some x1) (hx2:xs2[k]? = some x2)
  (hQ:∀ h',IsZip h' z TI TO (rawInt s.heap.objs.size) -> IsTup2 h' TO x1 x2 -> ItAt k1 h' i1 l1 (k + 1) -> ItAt k2 h' i2 l2 (k + 1) -> IsTup2 h' s.heap.objs.size x1 x2 -> h'.objs.size = s.heap.objs.size + 1 ->
    (∀ c o,c ≠ z -> c ≠ TO -> c ≠ i1 -> c ≠ i2 -> s.heap.get? c = some o -> h'.get? c = some o) -> Q (.ref s.heap.objs.size) { s with heap:=h' }) :
  wpAny (model prog w) A (Builtin.«zip.__next__» ⟨[.ref z],[]⟩) (fun fin s'=>∃ v,fin = .done (.ret v) /\ Q v s') E s:=by
 show wpAny _ _ (field (.ref z) 2 >>= _) _ _ _
 refine wpAny_bind (wpAny_field hz rfl (x:=.bool false) rfl ?_)
 show wpAny _ _ (field (.ref z) 3 >>= _) _ _ _
 refine wpAny_bind (wpAny_field hz rfl (x:=.ref TI) rfl ?_)
 refine wpAny_bind (wpAny_seqItems hTI rfl ?_)
 show wpAny _ _ (Builtin.SmallTypes.ownedTupleIsFree (.ref z) >>= _) _ _ _
 refine wpAny_bind ?_
 unfold Builtin.SmallTypes.ownedTupleIsFree
 refine wpAny_bind (wpAny_field hz rfl (x:=.none) rfl (wpAny_pure ?_))
 simp only [if_true]
 refine wpAny_bind (wpAny_rule ?_)
 refine wpAny_bind (wpAny_field hz rfl (x:=.ref TO) rfl ?_)
 refine wpAny_bind (wpAny_setField_rec hz (by simp) fun h₁ hz₁ hs₁=>?_)
 replace hz₁:IsZip h₁ z TI TO .ellipsis:=hz₁
 refine wpAny_bind ?_
 simp only [List.zipIdx_cons,List.zipIdx_nil,List.forIn_cons,List.forIn_nil]
 have up₁:∀ c o,c ≠ z -> s.heap.get? c = some o -> h₁.get? c = some o:=fun c o c1 e=>hs₁.extBut _ _ c1 e
 refine wpAny_bind (wpAny_bind (wpAny_onRaise ?_))
 show wpAny _ _ (Builtin.SmallTypes.nextOf (.ref i1) >>= _) _ _ _
 refine wpAny_bind (nextOf_item (h1.at fun o e=>hs₁.extBut _ o D.i1z e) (hl1.at fun o e=>hs₁.extBut _ o D.l1z e) hx1 fun ha1 hi1 hsa1=>wpAny_pure ?_)
 have hTOa1:IsTup2 ha1 TO a1 a2:=hsa1.extBut _ _ D.i1TO.symm (hs₁.extBut _ _ D.TOz hTO)
 refine wpAny_bind (wpAny_seqItems hTOa1 rfl ?_)
 refine wpAny_bind (upSeq2 hTOa1 fun hb1 hTOb1 hsb1=>?_)
 replace hTOb1:IsTup2 hb1 TO x1 a2:=hTOb1
 refine wpAny_bind (wpAny_letGo (wpAny_pure ?_))
 refine wpAny_bind (wpAny_bind (wpAny_onRaise ?_))
 show wpAny _ _ (Builtin.SmallTypes.nextOf (.ref i2) >>= _) _ _ _
 refine wpAny_bind (nextOf_item (((h2.at fun o e=>hs₁.extBut _ o D.i2z e).at fun o e=>hsa1.extBut _ o D.i2i1 e).at fun o e=>hsb1.extBut _ o D.i2TO e) (((hl2.at fun o e=>hs₁.extBut _ o D.l2z e).at fun o e=>hsa1.extBut _ o D.l2i1 e).at fun o e=>hsb1.extBut _ o D.l2TO e) hx2 fun ha2 hi2 hsa2=>wpAny_pure ?_)
 have hTOa2:IsTup2 ha2 TO x1 a2:=hsa2.extBut _ _ D.i2TO.symm hTOb1
 refine wpAny_bind (wpAny_seqItems hTOa2 rfl ?_)
 refine wpAny_bind (upSeq2 hTOa2 fun hb2 hTOb2 hsb2=>?_)
 replace hTOb2:IsTup2 hb2 TO x1 x2:=hTOb2
 refine wpAny_bind (wpAny_letGo (wpAny_pure (wpAny_pure ?_)))
 refine wpAny_bind (wpAny_seqItems hTOb2 rfl ?_)
 refine wpAny_bind (wpAny_newTuple ?_)
 have hsz:hb2.objs.size = s.heap.objs.size:=by rw [hsb2.1,hsa2.1,hsb1.1,hsa1.1,hs₁.1]
 have hzG:IsZip hb2 z TI TO .ellipsis:=(hsb2.extBut _ _ D.TOz.symm (hsa2.extBut _ _ D.i2z.symm (hsb1.extBut _ _ D.TOz.symm (hsa1.extBut _ _ D.i1z.symm hz₁))))
 have hkG:∀ c o,c ≠ z -> c ≠ TO -> c ≠ i1 -> c ≠ i2 -> s.heap.get? c = some o -> hb2.get? c = some o:=fun c o c1 c2 d1 d2 e=>(hsb2.extBut _ _ c2 (hsa2.extBut _ _ d2 (hsb1.extBut _ _ c2 (hsa1.extBut _ _ d1 (hs₁.extBut _ _ c1 e)))))
 have hiG1:ItAt k1 hb2 i1 l1 (k + 1):=(((hi1.at fun o e=>hsb1.extBut _ o D.i1TO e).at fun o e=>hsa2.extBut _ o D.i2i1.symm e).at fun o e=>hsb2.extBut _ o D.i1TO e)
 have hiG2:ItAt k2 hb2 i2 l2 (k + 1):=(hi2.at fun o e=>hsb2.extBut _ o D.i2TO e)
 have hzlt:z < hb2.objs.size:=Heap.lt_size hzG
 show wpAny _ _ (Builtin.SmallTypes.ownedTupleHandOut (.ref z) (.ref hb2.objs.size) >>= _) _ _ _
 refine wpAny_bind ?_
 unfold Builtin.SmallTypes.ownedTupleHandOut
 have hz₆:IsZip (hb2.push { cls:=.type "tuple",data:=.seq #[x1,x2] }) z TI TO .ellipsis:=Heap.get?_push_of_some _ hzG
 refine wpAny_bind (wpAny_setField_rec hz₆ (by simp) fun h₇ hz₇ hs₇=>?_)
 replace hz₇:IsZip h₇ z TI TO (rawInt hb2.objs.size):=hz₇
 refine wpAny_setField_rec hz₇ (by simp) fun h₈ hz₈ hs₈=>?_
 replace hz₈:IsZip h₈ z TI TO (rawInt hb2.objs.size):=hz₈
 have up:∀ c o,c ≠ z -> hb2.get? c = some o -> h₈.get? c = some o:=fun c o c1 e=>hs₈.extBut _ _ c1 (hs₇.extBut _ _ c1 (Heap.get?_push_of_some _ e))
 have hT₈:IsTup2 h₈ hb2.objs.size x1 x2:=hs₈.extBut _ _ (Nat.ne_of_gt hzlt) (hs₇.extBut _ _ (Nat.ne_of_gt hzlt) (Heap.get?_push_size _ rfl))
 have hz8:h₈.objs.size = hb2.objs.size + 1:=by rw [hs₈.1,hs₇.1,Heap.size_push]
 rw [hsz] at hz₈ hT₈ hz8
 refine wpAny_pure ⟨_,rfl,?_⟩
 show Q (.ref hb2.objs.size) _
 rw [hsz]
 exact hQ h₈ hz₈ (up _ _ D.TOz hTOb2) (hiG1.at fun o e=>up _ o D.i1z e) (hiG2.at fun o e=>up _ o D.i2z e) hT₈ hz8 fun c o c1 c2 d1 d2 e=>up c o c1 (hkG c o c1 c2 d1 d2 e)
theorem zipn_end2 {z TI TO i1 i2 l1 l2:Addr} {k:Nat} {k1:Kd} {k2:Kd} {xs1 xs2:Array Value} {a1 a2:Value} {Q:Fin -> Shared -> Prop} (hh:A.handled = none) (D:ZAp2 z TI TO i1 i2 l1 l2)
  (hz:IsZip s.heap z TI TO .none) (hTI:IsTup2 s.heap TI (.ref i1) (.ref i2)) (hTO:IsTup2 s.heap TO a1 a2)
  (h1:ItAt k1 s.heap i1 l1 k) (h2:ItAt k2 s.heap i2 l2 k) (hl1:SqAt k1 s.heap l1 xs1) (hl2:SqAt k2 s.heap l2 xs2) (hend:xs1[k]? = none \/ xs2[k]? = none)
  (hE:∀ h' e,(∀ c o,c ≠ z -> c ≠ TO -> c ≠ i1 -> c ≠ i2 -> s.heap.get? c = some o -> h'.get? c = some o) -> (∃ o,h'.get? e = some o /\ o.cls = .type "StopIteration") -> E (.ref e) { s with heap:=h' }) :
  wpAny (model prog w) A (Builtin.«zip.__next__» ⟨[.ref z],[]⟩) Q E s:=by
 show wpAny _ _ (field (.ref z) 2 >>= _) _ _ _
 refine wpAny_bind (wpAny_field hz rfl (x:=.bool false) rfl ?_)
 show wpAny _ _ (field (.ref z) 3 >>= _) _ _ _
 refine wpAny_bind (wpAny_field hz rfl (x:=.ref TI) rfl ?_)
 refine wpAny_bind (wpAny_seqItems hTI rfl ?_)
 show wpAny _ _ (Builtin.SmallTypes.ownedTupleIsFree (.ref z) >>= _) _ _ _
 refine wpAny_bind ?_
 unfold Builtin.SmallTypes.ownedTupleIsFree
 refine wpAny_bind (wpAny_field hz rfl (x:=.none) rfl (wpAny_pure ?_))
 simp only [if_true]
 refine wpAny_bind (wpAny_rule ?_)
 refine wpAny_bind (wpAny_field hz rfl (x:=.ref TO) rfl ?_)
 refine wpAny_bind (wpAny_setField_rec hz (by simp) fun h₁ hz₁ hs₁=>?_)
 replace hz₁:IsZip h₁ z TI TO .ellipsis:=hz₁
 refine wpAny_bind ?_
 simp only [List.zipIdx_cons,List.zipIdx_nil,List.forIn_cons,List.forIn_nil]
 refine wpAny_bind (wpAny_bind (wpAny_onRaise ?_))
 show wpAny _ _ (Builtin.SmallTypes.nextOf (.ref i1) >>= _) _ _ _
 cases hx1:xs1[k]? with
 | none =>
  refine wpAny_bind (nextOf_end hh (h1.at fun o e=>hs₁.extBut _ o D.i1z e) (hl1.at fun o e=>hs₁.extBut _ o D.l1z e) hx1 fun hq e hsq he=>?_)
  obtain ⟨oe,hoe,hce⟩:=he
  have hzq:IsZip hq z TI TO .ellipsis:=hsq _ _ D.i1z.symm hz₁
  have hez:e ≠ z:=fun x=>by subst x; rw [hzq] at hoe; cases hoe; simp at hce
  refine wpAny_setField_rec hzq (by simp) fun h₉ _ hs₉=>hE h₉ e (fun c o c1 c2 d1 d2 x=>hs₉.extBut _ _ c1 (hsq _ _ d1 (hs₁.extBut _ _ c1 x))) ⟨oe,hs₉.extBut _ _ hez hoe,hce⟩
 | some x1 =>
  refine wpAny_bind (nextOf_item (h1.at fun o e=>hs₁.extBut _ o D.i1z e) (hl1.at fun o e=>hs₁.extBut _ o D.l1z e) hx1 fun ha1 hi1 hsa1=>wpAny_pure ?_)
  have hTOa1:IsTup2 ha1 TO a1 a2:=hsa1.extBut _ _ D.i1TO.symm (hs₁.extBut _ _ D.TOz hTO)
  refine wpAny_bind (wpAny_seqItems hTOa1 rfl ?_)
  refine wpAny_bind (upSeq2 hTOa1 fun hb1 hTOb1 hsb1=>?_)
  replace hTOb1:IsTup2 hb1 TO x1 a2:=hTOb1
  refine wpAny_bind (wpAny_letGo (wpAny_pure ?_))
  refine wpAny_bind (wpAny_bind (wpAny_onRaise ?_))
  show wpAny _ _ (Builtin.SmallTypes.nextOf (.ref i2) >>= _) _ _ _
  have hx2:xs2[k]? = none:=by
   rcases hend with h | h
   ·rw [hx1] at h; cases h
   ·exact h
  refine wpAny_bind (nextOf_end hh (((h2.at fun o e=>hs₁.extBut _ o D.i2z e).at fun o e=>hsa1.extBut _ o D.i2i1 e).at fun o e=>hsb1.extBut _ o D.i2TO e) (((hl2.at fun o e=>hs₁.extBut _ o D.l2z e).at fun o e=>hsa1.extBut _ o D.l2i1 e).at fun o e=>hsb1.extBut _ o D.l2TO e) hx2 fun hq e hsq he=>?_)
  obtain ⟨oe,hoe,hce⟩:=he
  have hzq:IsZip hq z TI TO .ellipsis:=hsq _ _ D.i2z.symm (hsb1.extBut _ _ D.TOz.symm (hsa1.extBut _ _ D.i1z.symm hz₁))
  have hez:e ≠ z:=fun x=>by subst x; rw [hzq] at hoe; cases hoe; simp at hce
  refine wpAny_setField_rec hzq (by simp) fun h₉ _ hs₉=>hE h₉ e (fun c o c1 c2 d1 d2 x=>hs₉.extBut _ _ c1 (hsq _ _ d2 (hsb1.extBut _ _ c2 (hsa1.extBut _ _ d1 (hs₁.extBut _ _ c1 x))))) ⟨oe,hs₉.extBut _ _ hez hoe,hce⟩
theorem next_zip_item2 {z TI TO i1 i2 l1 l2:Addr} {k:Nat} {k1:Kd} {k2:Kd} {xs1 xs2:Array Value} {a1 a2:Value} {x1 x2:Value} {Q:Option Value -> Shared -> Prop} (D:ZAp2 z TI TO i1 i2 l1 l2)
  (hz:IsZip s.heap z TI TO .none) (hTI:IsTup2 s.heap TI (.ref i1) (.ref i2)) (hTO:IsTup2 s.heap TO a1 a2)
  (h1:ItAt k1 s.heap i1 l1 k) (h2:ItAt k2 s.heap i2 l2 k) (hl1:SqAt k1 s.heap l1 xs1) (hl2:SqAt k2 s.heap l2 xs2) (hx1:xs1[k]? = some x1) (hx2:xs2[k]? = some x2)
  (hQ:∀ h',IsZip h' z TI TO (rawInt s.heap.objs.size) -> IsTup2 h' TO x1 x2 -> ItAt k1 h' i1 l1 (k + 1) -> ItAt k2 h' i2 l2 (k + 1) -> IsTup2 h' s.heap.objs.size x1 x2 -> h'.objs.size = s.heap.objs.size + 1 ->
    (∀ c o,c ≠ z -> c ≠ TO -> c ≠ i1 -> c ≠ i2 -> s.heap.get? c = some o -> h'.get? c = some o) -> Q (some (.ref s.heap.objs.size)) { s with heap:=h' }) :
  wpAny (model prog w) A (pyNext (.ref z)) Q E s:=by
 have hT:s.TypeIs (.ref z) "zip":=⟨_,hz,rfl⟩
 unfold pyNext
 exact wpAny_bind (wpAny_attempt (wpAny_callSpecial?_slot (name:=Str.ofString "__next__") hT F.slot_zip_next
   (wpAny_call_entry F.slot_zip_next hT F.entry_zip_next
     (zipn_item2 D hz hTI hTO h1 h2 hl1 hl2 hx1 hx2 fun h' a1 a2 b1 b2 a5 a6 a7=>wpAny_pure (hQ h' a1 a2 b1 b2 a5 a6 a7)) (F.args_zip_next_1 _))))
theorem next_zip_end2 {z TI TO i1 i2 l1 l2:Addr} {k:Nat} {k1:Kd} {k2:Kd} {xs1 xs2:Array Value} {a1 a2:Value} {Q:Option Value -> Shared -> Prop} (hh:A.handled = none) (D:ZAp2 z TI TO i1 i2 l1 l2)
  (hz:IsZip s.heap z TI TO .none) (hTI:IsTup2 s.heap TI (.ref i1) (.ref i2)) (hTO:IsTup2 s.heap TO a1 a2)
  (h1:ItAt k1 s.heap i1 l1 k) (h2:ItAt k2 s.heap i2 l2 k) (hl1:SqAt k1 s.heap l1 xs1) (hl2:SqAt k2 s.heap l2 xs2) (hend:xs1[k]? = none \/ xs2[k]? = none)
  (hQ:∀ h',(∀ c o,c ≠ z -> c ≠ TO -> c ≠ i1 -> c ≠ i2 -> s.heap.get? c = some o -> h'.get? c = some o) -> Q none { s with heap:=h' }):wpAny (model prog w) A (pyNext (.ref z)) Q E s:=by
 have hT:s.TypeIs (.ref z) "zip":=⟨_,hz,rfl⟩
 unfold pyNext
 refine wpAny_bind (wpAny_attempt (wpAny_callSpecial?_slot (name:=Str.ofString "__next__") hT F.slot_zip_next
   (wpAny_call_entry F.slot_zip_next hT F.entry_zip_next (zipn_end2 hh D hz hTI hTO h1 h2 hl1 hl2 hend fun h' e hk he=>?_) (F.args_zip_next_1 _))))
 obtain ⟨o,ho,hc⟩:=he
 refine wpAny_bind (wpAny_isInstance (T:="StopIteration") (b:=true) ⟨o,ho,hc⟩ isSubtype_stop ?_)
 exact wpAny_pure (hQ _ hk)
end
noncomputable abbrev zh2I (h:Heap) (k1:Kd) (k2:Kd) (l1 l2:Addr):Heap:=((h.push (itObj k1 l1)).push (itObj k2 l2))
noncomputable abbrev zh2T (h:Heap) (k1:Kd) (k2:Kd) (l1 l2:Addr):Heap:=(zh2I h k1 k2 l1 l2).push { cls:=.type "tuple",data:=.seq #[.ref h.objs.size,.ref (h.push (itObj k1 l1)).objs.size] }
noncomputable abbrev zh2O (h:Heap) (k1:Kd) (k2:Kd) (l1 l2:Addr):Heap:=(zh2T h k1 k2 l1 l2).push { cls:=.type "tuple",data:=.seq #[.none,.none] }
noncomputable abbrev zh2Z (h:Heap) (k1:Kd) (k2:Kd) (l1 l2:Addr):Heap:=(zh2O h k1 k2 l1 l2).push { cls:=.type "zip",data:=.fields #[.none,.bool false,.bool false,.ref (zh2I h k1 k2 l1 l2).objs.size,.ref (zh2T h k1 k2 l1 l2).objs.size] }
theorem zip_new2 (k1:Kd) (k2:Kd) (l1 l2:Addr) (xs1 xs2:Array Value) :
  Meets (Builtin.«zip.__new__» ⟨[.type "zip",.ref l1,.ref l2],[]⟩) (fun _ R s=>SqAt k1 s.heap l1 xs1 /\ SqAt k2 s.heap l2 xs2 /\
    R (.ok (.ret (.ref (zh2O s.heap k1 k2 l1 l2).objs.size))) { s with heap:=zh2Z s.heap k1 k2 l1 l2 }) :=
 .of_wp fun prog w A R s h=>by
  obtain ⟨hp,g,d,tk,os⟩:=s; obtain ⟨hl1,hl2,h⟩:=h
  have hsub:=sub_zip
  have hL1:SqAt k1 (Shared.heap ⟨hp,g,d,tk,os⟩) l1 xs1:=hl1
  have hL2:SqAt k2 (Shared.heap ⟨(hp.push (itObj k1 l1)),g,d,tk,os⟩) l2 xs2:=(SqAt.at hl2 fun o e=>Heap.get?_push_of_some _ e)
  wp_walk using iter_at hL1,iter_at hL2
  exact ⟨_,rfl,h⟩
structure ZAp3 (z TI TO i1 i2 i3 l1 l2 l3:Addr):Prop where
 TIz:TI ≠ z
 TOz:TO ≠ z
 i1z:i1 ≠ z
 i2z:i2 ≠ z
 i3z:i3 ≠ z
 TOTI:TO ≠ TI
 i1TI:i1 ≠ TI
 i2TI:i2 ≠ TI
 i3TI:i3 ≠ TI
 i1TO:i1 ≠ TO
 i2TO:i2 ≠ TO
 i3TO:i3 ≠ TO
 i2i1:i2 ≠ i1
 i3i1:i3 ≠ i1
 i3i2:i3 ≠ i2
 l1z:l1 ≠ z
 l1TO:l1 ≠ TO
 l1i1:l1 ≠ i1
 l1i2:l1 ≠ i2
 l1i3:l1 ≠ i3
 l2z:l2 ≠ z
 l2TO:l2 ≠ TO
 l2i1:l2 ≠ i1
 l2i2:l2 ≠ i2
 l2i3:l2 ≠ i3
 l3z:l3 ≠ z
 l3TO:l3 ≠ TO
 l3i1:l3 ≠ i1
 l3i2:l3 ≠ i2
 l3i3:l3 ≠ i3
section
variable {prog:Program} {w:World} {A:Around} {E:Value -> Shared -> Prop} {s:Shared}
end
end L2
namespace L2
open PySem PySem.Spec PyProof.Rows
inductive Ki where | non | bl | int | str | lst | tup | dct
 deriving DecidableEq
noncomputable def Ki.nm:Ki -> String
 | .non=>"NoneType" | .bl=>"bool" | .int=>"int" | .str=>"str" | .lst=>"list" | .tup=>"tuple" | .dct=>"dict"
noncomputable def KiOf (K:PySem.W.Frag) (H:Hp):V -> Ki -> Prop
 | .non,k=>k = .non
 | .bl _,k=>k = .bl
 | .int _,k=>k = .int
 | .str _,k=>k = .str
 | .ref a,k=>(k = .lst /\ ∃ xs,SqL K H a xs) \/ (k = .tup /\ ∃ xs,SqT K H a xs) \/ (k = .dct /\ ((∃ kvs,H a = some (.dK kvs)) \/ ∃ kvs,H a = some (.dT kvs)))
 | _,_=>False
noncomputable def Ki.sub:Ki -> Ki -> Bool
 | .bl,.int=>true
 | a,b=>decide (a = b)
theorem KiOf.typeIs {X:Cx} {pins:List (Addr × Obj)} {σ:St} {H:Hp} {s:Shared} {x:V} {u:Value} {k:Ki} (I:Inv X pins σ H s) (h:KiOf X.K H x k) (r:RelV x u):s.TypeIs u k.nm:=by
 cases x with
 | non=>cases h; cases r; rfl
 | bl b=>cases h; cases r; rfl
 | int i=>cases h; obtain ⟨t,rfl⟩:=r; rfl
 | str i=>cases h; obtain ⟨t,rfl⟩:=r; rfl
 | ref a =>
  cases r
  rcases h with ⟨rfl,xs,hq⟩ | ⟨rfl,xs,hq⟩ | ⟨rfl,⟨kvs,hq⟩ | ⟨kvs,hq⟩⟩
  ·obtain ⟨its,_,⟨o,n,e,c,_⟩,_⟩:=I.list hq
   exact ⟨o,e,c⟩
  ·obtain ⟨its,_,⟨o,e,c,_⟩,_⟩:=I.tuple hq
   exact ⟨o,e,c⟩
  ·obtain ⟨_,_,_,_,o,es,ep,e,c,_⟩:=I.hok a _ hq
   exact ⟨o,e,c.1⟩
  ·obtain ⟨_,_,_,_,o,es,ep,e,c,_⟩:=I.hok a _ hq
   exact ⟨o,e,c.1⟩
 | byt _=>cases h
 | flt _=>cases h
 | ty _=>cases h
theorem ki_meta (T:Ki):typeOf (.type T.nm) = pure (.type "type"):=by
 cases T
 ·exact F.isi_meta_NoneType
 ·exact F.isi_meta_bool
 ·exact F.isi_meta_int
 ·exact F.isi_meta_str
 ·exact F.isi_meta_list
 ·exact F.isi_meta_tuple
 ·exact F.isi_meta_dict
theorem ki_sub (k T:Ki):isSubtype (.type k.nm) (.type T.nm) = pure (k.sub T):=by
 cases k <;> cases T <;> (show isSubtype (.type _) (.type _) = pure _; rw [isSubtype_type]; kernel_rfl)
theorem ki_ne (k T:Ki) (h:k.sub T = false):(Value.type k.nm == Value.type T.nm) = false:=by
 cases k <;> cases T <;> first | (exfalso; revert h; decide) | decide +kernel
noncomputable def rIsi (K:PySem.W.Frag):List V -> Hp -> VK -> Prop:=fun xs H Q=>∃ (x:V) (k:Ki) (T:Ki),xs = [x,.ty T.nm] /\ KiOf K H x k /\ Q (.bl (k.sub T)) H
theorem call_isi {X:Cx}:CallR X (.builtin "isinstance") (rIsi X.K):=by
 intro pins s σ H xs us Q I r h
 obtain ⟨x,k,T,rfl,hk,q⟩:=h
 obtain ⟨u,w',rfl,ru,rw'⟩:=vals2 r
 obtain rfl:w' = .type T.nm:=rw'
 have ht:=hk.typeIs I ru
 cases hs:k.sub T with
 | true =>
  rw [hs] at q
  exact call_isinstance (isinstance_true (Tx:=k.nm) (ki_meta T) (by rw [ki_sub,hs])) ⟨ht,.bl true,H,I,rfl,q⟩
 | false =>
  rw [hs] at q
  have hsub:isSubtype (.type k.nm) (.type T.nm) = pure false:=by rw [ki_sub,hs]
  have hne:=ki_ne k T hs
  have fin:EP X pins σ Q (.bool false) { s with toks:=s.toks + 1 }:=⟨.bl false,H,I.tok _,rfl,q⟩
  cases x with
  | non=>cases hk; cases ru; exact call_isinstance (isinstance_false_none hne (ki_meta T) hsub) fin
  | bl b=>cases hk; cases ru; exact call_isinstance (isinstance_false_bool hne (ki_meta T) hsub) fin
  | int i=>cases hk; obtain ⟨t,rfl⟩:=ru; exact call_isinstance (isinstance_false_int hne (ki_meta T) hsub) fin
  | str i=>cases hk; obtain ⟨t,rfl⟩:=ru; exact call_isinstance (isinstance_false_str hne (ki_meta T) hsub) fin
  | ref a =>
   cases ru
   rcases hk with ⟨rfl,_⟩ | ⟨rfl,_⟩ | ⟨rfl,_⟩
   ·exact call_isinstance (isinstance_false_list hne (ki_meta T) hsub) ⟨ht,fin⟩
   ·exact call_isinstance (isinstance_false_tuple hne (ki_meta T) hsub) ⟨ht,fin⟩
   ·exact call_isinstance (isinstance_false_dict hne (ki_meta T) hsub) ⟨ht,fin⟩
  | byt _=>cases hk
  | flt _=>cases hk
  | ty _=>cases hk
noncomputable def rAll (K:PySem.W.Frag):List V -> Hp -> VK -> Prop:=fun xs H Q=>∃ (a:Addr) (bs:List Bool),xs = [.ref a] /\ SqL K H a (bs.map V.bl) /\ Q (.bl (bs.all id)) H
theorem vals_boolAt {bs:List Bool} {us:List Value} (r:Vals (bs.map V.bl) us) (i:Nat) (v:Value) (h:us[i]? = some v):∃ b,bs[i]? = some b /\ v = .bool b:=by
 cases e:bs[i]? with
 | none =>
  have h1:(bs.map V.bl)[i]? = none:=by rw [List.getElem?_map,e]; rfl
  rw [r.none_of h1] at h
  cases h
 | some b =>
  obtain ⟨u,hu,ru⟩:=r.get (i:=i) (x:=.bl b) (by rw [List.getElem?_map,e]; rfl)
  rw [hu] at h
  cases h
  exact ⟨b,rfl,ru⟩
theorem all_range_bs (bs:List Bool):((List.range bs.length).all fun i=>(bs[i]?).getD true) = bs.all id:=by
 rw [Bool.eq_iff_iff,List.all_eq_true,List.all_eq_true]
 constructor
 ·intro h b hb
  obtain ⟨i,hi,e⟩:=List.mem_iff_getElem.mp hb
  have:=h i (List.mem_range.mpr hi)
  rw [List.getElem?_eq_getElem hi,Option.getD_some,e] at this
  exact this
 ·intro h i hi
  have hi:=List.mem_range.mp hi
  rw [List.getElem?_eq_getElem hi,Option.getD_some]
  exact h _ (List.getElem_mem hi)
theorem call_all {X:Cx} (hc:X.calm = true):CallR X (.builtin "all") (rAll X.K):=by
 intro pins s σ H xs us Q I r h
 obtain ⟨a,bs,rfl,hq,q⟩:=h
 obtain ⟨u,rfl,ru⟩:=vals1 r
 cases ru
 obtain ⟨its,rv,p,hz⟩:=I.list hq
 have hl:=p.isList
 have hlt:a < s.heap.objs.size:=by obtain ⟨_,e,_⟩:=hl; exact Heap.lt_size e
 refine call_all_walk (wpAny_pyIter_list hl ?_)
 refine ⟨s.heap.objs.size,[s.heap.objs.size,a],[s.heap.objs.size],its.toArray.size,_,_,fun i=>(bs[i]?).getD true,rfl,Walks.list (A:=X.A.in1) (I.ok.hd hc) _ a (Nat.ne_of_lt hlt) its.toArray,
   ⟨⟨_,Heap.get?_push_size _ rfl,rfl,rfl⟩,hl.push _⟩,fun i v s' Q' E' hP hQ=>?_,fun h' tk hk=>?_⟩
 ·obtain ⟨b,e,rfl⟩:=vals_boolAt rv i v (by simpa using hP)
  simp only [e,Option.getD_some] at hQ
  exact wpAny_truthy_bool hQ
 ·have e:((List.range its.toArray.size).all fun i=>(bs[i]?).getD true) = bs.all id:=by
   have hl2:=rv.length
   rw [List.length_map] at hl2
   rw [List.size_toArray,<- hl2]; exact all_range_bs bs
  rw [e]
  refine ⟨.bl (bs.all id),H,I.kept (h':=h') (t':=tk) fun b o eo=>hk b o (fun hm=>?_) (Heap.get?_push_of_some _ eo),rfl,q⟩
  rw [List.mem_singleton.mp hm] at eo
  exact Nat.lt_irrefl _ (Heap.lt_size eo)
noncomputable def Sq (k:Kd) (K:PySem.W.Frag) (H:Hp) (a:Addr) (xs:List V):Prop:=match k with | .l=>SqL K H a xs | .t=>SqT K H a xs
theorem Inv.sq {X:Cx} {pins:List (Addr × Obj)} {σ:St} {H:Hp} {s:Shared} {k:Kd} {a:Addr} {xs:List V} (I:Inv X pins σ H s) (h:Sq k X.K H a xs):∃ its:List Value,Vals xs its /\ SqAt k s.heap a its.toArray /\ xs.length <= sizeLine:=by
 cases k with
 | l=>obtain ⟨its,r,p,z⟩:=I.list h; exact ⟨its,r,p.isList,z⟩
 | t=>obtain ⟨its,r,p,z⟩:=I.tuple h; exact ⟨its,r,p,z⟩
theorem Inv.sq_inj {X:Cx} {pins:List (Addr × Obj)} {σ:St} {H:Hp} {s:Shared} {k:Kd} {a:Addr} {xs ys:List V} (I:Inv X pins σ H s) (h:Sq k X.K H a xs) (h':Sq k X.K H a ys):xs = ys:=by
 cases k with
 | l=>exact I.list_inj h h'
 | t=>exact I.tuple_inj h h'
noncomputable def Itz2 (K:PySem.W.Frag) (k1:Kd) (k2:Kd) (l1 l2:Addr):It :=
 ⟨fun i H=>∃ ys1 x1 ys2 x2,Sq k1 K H l1 ys1 /\ Sq k2 K H l2 ys2 /\ ys1[i]? = some x1 /\ ys2[i]? = some x2,
  fun i H x H'=>∃ T x1 x2,H T = none /\ x = .ref T /\ H' = upd H T (.tup [x1,x2]) /\ (∀ ys,Sq k1 K H l1 ys -> ys[i]? = some x1) /\ (∀ ys,Sq k2 K H l2 ys -> ys[i]? = some x2),
  fun i H=>∃ ys1 ys2,Sq k1 K H l1 ys1 /\ Sq k2 K H l2 ys2 /\ (ys1.length <= i \/ ys2.length <= i)⟩
theorem turn_zip2 {P:Program} {w:World} {K:PySem.W.Frag} {es:List Expr} {kk:Nat} {pos:Pos} (k1:Kd) (k2:Kd) (z TI TO i1 i2 l1 l2:Addr) (D:ZAp2 z TI TO i1 i2 l1 l2):Turn P w K (.Tuple es kk pos) (Itz2 K k1 k2 l1 l2) [z,TI,TO,i1,i2] z
  (fun i h=>IsZip h z TI TO .none /\ IsTup2 h TI (.ref i1) (.ref i2) /\ (∃ a1 a2,IsTup2 h TO a1 a2) /\ ItAt k1 h i1 l1 i /\ ItAt k2 h i2 l2 i) where
 mem:=by simp
 obj:=fun i h st b hb=>by
  obtain ⟨hz,hTI,⟨a1,a2,hTO⟩,t1,t2⟩:=st
  have hb:b = z \/ b = TI \/ b = TO \/ b = i1 \/ b = i2:=by simpa using hb
  rcases hb with rfl | rfl | rfl | rfl | rfl
  ·exact ⟨_,hz,fun v e=>by cases e⟩
  ·exact ⟨_,hTI,fun v e=>by cases e⟩
  ·exact ⟨_,hTO,fun v e=>by cases e⟩
  ·exact t1.obj
  ·exact t2.obj
 keep:=fun i h h' st k=>by
  obtain ⟨hz,hTI,⟨a1,a2,hTO⟩,t1,t2⟩:=st
  exact ⟨k _ (by simp) _ hz,k _ (by simp) _ hTI,⟨a1,a2,k _ (by simp) _ hTO⟩,t1.at fun o e=>k _ (by simp) _ e,t2.at fun o e=>k _ (by simp) _ e⟩
 item:=by
  intro X hP hw hK hc i pins s σ H E I hf st hg
  subst hP hw hK
  obtain ⟨hz,hTI,⟨a1,a2,hTO⟩,t1,t2⟩:=st
  obtain ⟨ys1,x1,ys2,x2,q1,q2,e1,e2⟩:=hg
  obtain ⟨its1,rv1,p1,z1⟩:=I.sq q1
  obtain ⟨u1,hu1,ru1⟩:=rv1.get e1
  obtain ⟨its2,rv2,p2,z2⟩:=I.sq q2
  obtain ⟨u2,hu2,ru2⟩:=rv2.get e2
  refine next_zip_item2 D hz hTI hTO t1 t2 p1 p2 (show its1.toArray[i]? = some u1 by simpa using hu1) (show its2.toArray[i]? = some u2 by simpa using hu2) fun h' b1 b2 c1 c2 b5 b6 b7=>?_
  have hTn:s.heap.objs.size ≠ z:=Nat.ne_of_gt (Heap.lt_size hz)
  refine ⟨_,rfl,wpAny_letOwnedTupleGo_zip (s:={ s with heap:=h' }) b1 fun h2 hz2 hs2=>?_⟩
  have kp:∀ b o,b ∉ [z,TI,TO,i1,i2] -> s.heap.get? b = some o -> h2.get? b = some o:=fun b o hb e=>by
   have hb:b ≠ z /\ b ≠ TI /\ b ≠ TO /\ b ≠ i1 /\ b ≠ i2:=by simpa using hb
   obtain ⟨g1,g2,g3,f1,f2⟩:=hb
   exact hs2.extBut _ _ g1 (b7 b o g1 g3 f1 f2 e)
  have hTI2:IsTup2 h2 TI (.ref i1) (.ref i2):=hs2.extBut _ _ D.TIz (b7 TI _ D.TIz (Ne.symm D.TOTI) (Ne.symm D.i1TI) (Ne.symm D.i2TI) hTI)
  have hT2:IsTup2 h2 s.heap.objs.size u1 u2:=hs2.extBut _ _ hTn b5
  have hfr:H s.heap.objs.size = none:=I.hok.fresh (Nat.le_refl _)
  have I2:Inv X pins σ (upd H s.heap.objs.size (.tup [x1,x2])) { s with heap:=h2 }:=by
   have nfp:∀ b u,H b = some u -> b ∉ [z,TI,TO,i1,i2]:=fun b u e hb=>by have:=(hf b hb).1; rw [e] at this; cases this
   refine I.step (g':=s.gens) (d':=s.drawn) (ch:=[z,TI,TO,i1,i2]) (fun b hb=>?_) (fun b o _ _ hc' e _=>kp b o hc' e) (fun b o _ _ hc' e _=>⟨o.slots,kp b o hc' e⟩) (fun b o _ e n=>?_)
    (fun b o hc' e=>⟨o,kp b o hc' e⟩) (fun b xs e=>?_) (fun b o xs e=>?_) (fun b ps e=>⟨#[],?_⟩) (fun m hm=>?_) (fun b o e=>?_) I.bare
   ·obtain ⟨f0,f1,f2,f3,f4,f5⟩:=hf b hb
    exact ⟨f3,f1,f4,f5⟩
   ·rw [upd_ne (Nat.ne_of_lt (Heap.lt_size e))]; exact n
   ·rw [upd_ne (ne_of_none e hfr)]; exact e
   ·rw [upd_ne (ne_of_none e hfr)]; exact e
   ·rw [upd_ne (ne_of_none e hfr),e]; simp
   ·obtain ⟨o,es',ep,ho,r⟩:=hm
    exact ⟨o,es',ep,kp _ o (fun hb=>(hf _ hb).2.1 rfl) ho,r⟩
   ·by_cases hb:b = s.heap.objs.size
    ·subst hb
     rw [upd_same] at e
     cases e
     exact ⟨by show 2 <= sizeLine; decide,[u1,u2],.cons ru1 (.cons ru2 .nil),_,hT2,rfl,_,rfl,rfl⟩
    ·rw [upd_ne hb] at e
     refine (I.hok b o e).stay (fun c v hc' q=>kp c v ?_ q) (fun c q=>by rw [upd_ne (ne_of_none q hfr)]; exact q) fun c xs q=>by rw [upd_ne (ne_of_none q hfr)]; exact q
     rcases hc' with rfl | hc'
     ·exact nfp _ _ e
     ·exact nfp _ _ hc'
  refine ⟨.ref s.heap.objs.size,_,I2,rfl,⟨_,x1,x2,hfr,rfl,rfl,(fun ys hy=>by rw [I.sq_inj hy q1]; exact e1),(fun ys hy=>by rw [I.sq_inj hy q2]; exact e2)⟩,⟨hz2,hTI2,⟨u1,u2,hs2.extBut _ _ D.TOz b2⟩,c1.at fun o e=>hs2.extBut _ _ D.i1z e,c2.at fun o e=>hs2.extBut _ _ D.i2z e⟩,fun b hb=>?_⟩
  rw [upd_ne ?_]
  ·exact (hf b hb).1
  ·intro e
   subst e
   have hb:s.heap.objs.size = z \/ s.heap.objs.size = TI \/ s.heap.objs.size = TO \/ s.heap.objs.size = i1 \/ s.heap.objs.size = i2:=by simpa using hb
   rcases hb with e | e | e | e | e
   ·exact hTn e
   ·exact Nat.ne_of_gt (Heap.lt_size hTI) e
   ·exact Nat.ne_of_gt (Heap.lt_size hTO) e
   ·obtain ⟨o,eo,_⟩:=t1.obj
    exact Nat.ne_of_gt (Heap.lt_size eo) e
   ·obtain ⟨o,eo,_⟩:=t2.obj
    exact Nat.ne_of_gt (Heap.lt_size eo) e
 done:=by
  intro X hP hw hK hc i pins s σ H E I hf st hg
  subst hP hw hK
  obtain ⟨hz,hTI,⟨a1,a2,hTO⟩,t1,t2⟩:=st
  obtain ⟨ys1,ys2,q1,q2,hend⟩:=hg
  obtain ⟨its1,rv1,p1,z1⟩:=I.sq q1
  have len1:=rv1.length
  obtain ⟨its2,rv2,p2,z2⟩:=I.sq q2
  have len2:=rv2.length
  refine next_zip_end2 (I.ok.hd hc) D hz hTI hTO t1 t2 p1 p2 ?_ fun h' kp=>⟨rfl,?_⟩
  ·rcases hend with h | h
   ·exact .inl (by simp; omega)
   ·exact .inr (by simp; omega)
  ·have nfp:∀ b u,H b = some u -> b ∉ [z,TI,TO,i1,i2]:=fun b u e hb=>by have:=(hf b hb).1; rw [e] at this; cases this
   have kp':∀ b o,b ∉ [z,TI,TO,i1,i2] -> s.heap.get? b = some o -> h'.get? b = some o:=fun b o hb e=>by
    have hb:b ≠ z /\ b ≠ TI /\ b ≠ TO /\ b ≠ i1 /\ b ≠ i2:=by simpa using hb
    obtain ⟨g1,g2,g3,f1,f2⟩:=hb
    exact kp b o g1 g3 f1 f2 e
   refine I.step (g':=s.gens) (d':=s.drawn) (ch:=[z,TI,TO,i1,i2]) (fun b hb=>?_) (fun b o _ _ hc' e _=>kp' b o hc' e) (fun b o _ _ hc' e _=>⟨o.slots,kp' b o hc' e⟩) (fun b o _ e n=>n)
    (fun b o hc' e=>⟨o,kp' b o hc' e⟩) (fun b xs e=>e) (fun b o xs e=>e) (fun b ps e=>⟨#[],by rw [e]; simp⟩) (fun m hm=>?_) (fun b o e=>?_) I.bare
   ·obtain ⟨f0,f1,f2,f3,f4,f5⟩:=hf b hb
    exact ⟨f3,f1,f4,f5⟩
   ·obtain ⟨o,es',ep,ho,r⟩:=hm
    exact ⟨o,es',ep,kp' _ o (fun hb=>(hf _ hb).2.1 rfl) ho,r⟩
   ·refine (I.hok b o e).stay (fun c v hc' q=>kp' c v ?_ q) (fun _ q=>q) fun _ _ q=>q
    rcases hc' with rfl | hc'
    ·exact nfp _ _ e
    ·exact nfp _ _ hc'
 self:=fun _ _ _ _ _ st h=>wpAny_pyIter_zip st.1 h
end L2
namespace L2
open PySem PySem.Spec PyProof.Rows
noncomputable def iZip2 (K:PySem.W.Frag) (ta:TA):TI:=fun σ H R=>ta σ H fun vs H1=>∃ (k1:Kd) (l1:Addr) (ys1:List V) (k2:Kd) (l2:Addr) (ys2:List V),vs = [.ref l1,.ref l2] /\ Sq k1 K H1 l1 ys1 /\ Sq k2 K H1 l2 ys2 /\ R (Itz2 K k1 k2 l1 l2) H1
theorem pi_zip2 {X:Cx} {es:List Expr} {kk:Nat} {tpos:Pos} {a b:Expr} {ta:TA} {p pos:Pos} (hg:Gl X "zip") (hm:X.mg "zip" = none) (ha:PA X [a,b] ta) (hs:starEach [a,b] X.env = (false,eval a X.env) :: starEach [b] X.env:=by rfl) (hpl:(backTo pos (starEach [b] X.env)).any (·.1) = false:=by rfl) :
  PI X (.Tuple es kk tpos) (.Call (.Name "zip" p) [a,b] [] pos) (iZip2 X.K ta):=by
 intro pins s σ H R I h
 refine Call_ (ld_blt I hg hm boot_zip (PyProof.Rows.callWith_type1 (thn (ha pos pins s σ H _ I h) fun us s1 ⟨vs,H1,I1,r1,q1⟩=>?_) hs hpl))
 obtain ⟨k1,l1,ys1,k2,l2,ys2,e,q1,q2,q⟩:=q1
 subst e
 obtain rfl:us = [.ref l1,.ref l2]:=by
  cases r1 with | cons r rr=>cases r; cases rr with | cons r rr=>cases r; cases rr; rfl
 obtain ⟨its1,rv1,p1,z1⟩:=I1.sq q1
 obtain ⟨its2,rv2,p2,z2⟩:=I1.sq q2
 have lt:∀ {k:Kd} {l:Addr} {xs:Array Value},SqAt k s1.heap l xs -> l < s1.heap.objs.size:=fun {k l xs} p=>by
  cases k with
  | l=>obtain ⟨o,e,_⟩:=p; exact Heap.lt_size e
  | t=>obtain ⟨o,e,_⟩:=p; exact Heap.lt_size e
 refine callType_new F.called_zip (by decide) (F.typeCall_zip_2 _ _) (F.newCall_zip_2 _ _) (fun obj=>F.args_object_init_3 obj _ _) F.entry_zip_new (zip_new2 k1 k2 l1 l2 its1.toArray its2.toArray) ⟨p1,p2,?_⟩
 have zI:(zh2I s1.heap k1 k2 l1 l2).objs.size = s1.heap.objs.size + 2:=by simp [Heap.size_push]
 have zT:(zh2T s1.heap k1 k2 l1 l2).objs.size = s1.heap.objs.size + 3:=by simp [Heap.size_push]
 have zO:(zh2O s1.heap k1 k2 l1 l2).objs.size = s1.heap.objs.size + 4:=by simp [Heap.size_push]
 have gZ:(zh2Z s1.heap k1 k2 l1 l2).get? (zh2O s1.heap k1 k2 l1 l2).objs.size = some _:=Heap.get?_push_size _ rfl
 have gO:(zh2Z s1.heap k1 k2 l1 l2).get? (zh2T s1.heap k1 k2 l1 l2).objs.size = some _:=Heap.get?_push_of_some _ (Heap.get?_push_size _ rfl)
 have gT:(zh2Z s1.heap k1 k2 l1 l2).get? (zh2I s1.heap k1 k2 l1 l2).objs.size = some _:=Heap.get?_push_of_some _ (Heap.get?_push_of_some _ (Heap.get?_push_size _ rfl))
 have g1:(zh2Z s1.heap k1 k2 l1 l2).get? s1.heap.objs.size = some (itObj k1 l1):=Heap.get?_push_of_some _ (Heap.get?_push_of_some _ (Heap.get?_push_of_some _ (Heap.get?_push_of_some _ (Heap.get?_push_size _ (by cases k1 <;> rfl)))))
 have g2:(zh2Z s1.heap k1 k2 l1 l2).get? (s1.heap.push (itObj k1 l1)).objs.size = some (itObj k2 l2):=Heap.get?_push_of_some _ (Heap.get?_push_of_some _ (Heap.get?_push_of_some _ (Heap.get?_push_size _ (by cases k2 <;> rfl))))
 have zz2:(s1.heap.push (itObj k1 l1)).objs.size = s1.heap.objs.size + 1:=by simp [Heap.size_push]
 rw [zO,zT,zI] at gZ
 rw [zI,zz2] at gT
 rw [zT] at gO
 rw [zz2] at g2
 show _ /\ _
 rw [zO]
 have kp:∀ b o,s1.heap.get? b = some o -> (zh2Z s1.heap k1 k2 l1 l2).get? b = some o:=fun b o e=>Heap.get?_push_of_some _ (Heap.get?_push_of_some _ (Heap.get?_push_of_some _ (Heap.get?_push_of_some _ (Heap.get?_push_of_some _ (e)))))
 refine ⟨⟨_,gZ,rfl⟩,wpAny_pyIter_zip (s:={ s1 with heap:=zh2Z s1.heap k1 k2 l1 l2 }) gZ ?_⟩
 refine ⟨_,[s1.heap.objs.size + 4,s1.heap.objs.size + 2,s1.heap.objs.size + 3,s1.heap.objs.size,s1.heap.objs.size + 1],_,_,H1,rfl,I1.kept (t':=s1.toks) kp,turn_zip2 k1 k2 _ _ _ _ _ l1 l2 (zap2 _ l1 l2 (lt p1) (lt p2)),⟨gZ,gT,⟨_,_,gO⟩,ItAt.new k1 g1,ItAt.new k2 g2⟩,fun b hb=>?_,q⟩
 have hb:s1.heap.objs.size <= b:=by
  have hb:b = s1.heap.objs.size + 4 \/ b = s1.heap.objs.size + 2 \/ b = s1.heap.objs.size + 3 \/ b = s1.heap.objs.size \/ b = s1.heap.objs.size + 1:=by simpa using hb
  rcases hb with rfl | rfl | rfl | rfl | rfl
  all_goals first | exact Nat.le_add_right _ _ | exact Nat.le_refl _
 exact I1.fpOk hb (I1.hok.fresh hb)
mutual
inductive Is (K:PySem.W.Frag) (H:Hp):V -> PyData -> Prop
 | non:Is K H .non .none
 | bl (b):Is K H (.bl b) (.bool b)
 | int (i):Is K H (.int i) (.int i)
 | str (x):Is K H (.str x) (.str x)
 | lst {a xs ds}:SqL K H a xs -> IsAll K H xs ds -> Is K H (.ref a) (.list ds)
 | tup {a xs ds}:SqT K H a xs -> IsAll K H xs ds -> Is K H (.ref a) (.tuple ds)
inductive IsAll (K:PySem.W.Frag) (H:Hp):List V -> List PyData -> Prop
 | nil:IsAll K H [] []
 | cons {x xs d ds}:Is K H x d -> IsAll K H xs ds -> IsAll K H (x :: xs) (d :: ds)
end
section
variable {X:Cx} {pins:List (Addr × Obj)} {σ:St} {H:Hp} {s:Shared}
mutual
theorem Is.reads (I:Inv X pins σ H s):∀ {x:V} {d:PyData} {u:Value},Is X.K H x d -> RelV x u -> ∃ as,Reads s.heap u d as
 | _,_,_,.non,r=>by cases r; exact ⟨_,.none⟩
 | _,_,_,.bl b,r=>by cases r; exact ⟨_,.bool b⟩
 | _,_,_,.int i,r=>by obtain ⟨t,rfl⟩:=r; exact ⟨_,.int i t⟩
 | _,_,_,.str x,r=>by obtain ⟨t,rfl⟩:=r; exact ⟨_,.str x t⟩
 | _,_,_,.lst hq ha,r=>by
  cases r
  obtain ⟨its,rv,⟨o,n,e,c,d,q⟩,z⟩:=I.list hq
  obtain ⟨as,hr⟩:=IsAll.reads I ha rv
  exact ⟨_,.list e c q (by simpa using hr)⟩
 | _,_,_,.tup hq ha,r=>by
  cases r
  obtain ⟨its,rv,⟨o,e,c,n,q⟩,z⟩:=I.tuple hq
  obtain ⟨as,hr⟩:=IsAll.reads I ha rv
  exact ⟨_,.tuple e c q (by simpa using hr)⟩
theorem IsAll.reads (I:Inv X pins σ H s):∀ {xs:List V} {ds:List PyData} {us:List Value},IsAll X.K H xs ds -> Vals xs us -> ∃ as,ReadsAll s.heap us ds as
 | _,_,_,.nil,.nil=>⟨_,.nil⟩
 | _,_,_,.cons h t,.cons r rr=>by
  obtain ⟨as,a⟩:=Is.reads I h r
  obtain ⟨bs,b⟩:=IsAll.reads I t rr
  exact ⟨_,.cons a b⟩
end
end
open PySem.SeqAt in
noncomputable def rEqD (K:PySem.W.Frag) (neg:Bool):R2:=fun x y H Q=>∃ d e:PyData,Is K H x d /\ Is K H y e /\ shaped d = true /\ shaped e = true /\ noMix d e = true /\ Q (.bl (if neg then !same d e else same d e)) H
theorem op_eqD {X:Cx} (hu:X.A.units + 64 < cLine):OpR X (compareOp .Eq) (rEqD X.K false):=by
 intro pins s σ H x y v u Q I r1 r2 h
 obtain ⟨d,e,i1,i2,s1,s2,nm,q⟩:=h
 obtain ⟨as,a⟩:=i1.reads I r1
 obtain ⟨bs,b⟩:=i2.reads I r2
 exact eq_dataH_same a b s1 s2 hu nm ⟨.bl _,H,I,rfl,q⟩
theorem op_neD {X:Cx} (hu:X.A.units + 64 < cLine):OpR X (compareOp .NotEq) (rEqD X.K true):=by
 intro pins s σ H x y v u Q I r1 r2 h
 obtain ⟨d,e,i1,i2,s1,s2,nm,q⟩:=h
 obtain ⟨as,a⟩:=i1.reads I r1
 obtain ⟨bs,b⟩:=i2.reads I r2
 exact ne_dataH_same a b s1 s2 hu nm ⟨.bl _,H,I,rfl,q⟩
end L2
namespace L2
open PySem PySem.Spec PyProof.Rows
structure Cal (P:Program) (w:World) (K:PySem.W.Frag) (mg:Str -> Option Value) (base:Heap) (k:Nat) (x:Str) (ps:List Str) (sp:Sp):Prop where
 ex:∃ (f:Addr) (fd:FuncData),FnOk P w K mg base CX0 k f fd ps sp /\ mg x = some (.ref f) /\ PySem.W.keepIn K (.ref f) = true /\ Binds K fd ps []
theorem pe_fn {X:Cx} {k:Nat} {x:Str} {ps:List Str} {sp:Sp} {p pos:Pos} {e:Expr} {es:List Expr} {t:TA} (C:Cal X.prog X.w X.K X.mg X.base k x ps sp) (hr:Room k X.A) (ha:PA X (e :: es) t) (hg:Gl X x:=by rfl)
  (hdb:(x == ("__debug__":Str)) = false:=by decide) (he:starEach (e :: es) X.env = (false,eval e X.env) :: starEach es X.env:=by rfl) (hpl:(backTo pos (starEach es X.env)).any (·.1) = false:=by rfl) :
  PE X (.Call (.Name x p) (e :: es) [] pos) (tCall sp [] E0 t):=by
 obtain ⟨f,fd,F,hm,hk,hb⟩:=C.ex
 exact pe_call F hr hg hm hk hb .nil pass0 ha hdb he hpl
noncomputable def compOk (ds:Scope) (N:List Str) (fr:List Nat) (sc:Scope):Bool :=
 decide (sc.kind = .function) && (sc.names.all fun y=>!decide (y.2 = .cell) || decide (sc.names.lookup y.1 = some .cell)) && (sc.names.all fun y=>!decide (y.2 = .local) || decide (sc.names.lookup y.1 = some .local)) &&
 (sc.names.all fun y=>!decide (y.2 = .free) || (decide (ds.names.lookup y.1 = some .cell) || decide (ds.names.lookup y.1 = some .free))) &&
 (fr.all fun i=>match N[i]? with | some x=>decide (sc.names.lookup x = some .free) | none=>false)
theorem compSc_of {X:Cx} {own:List Str} {fr:List Nat} {sc:Scope} (h:compOk X.env.scope X.N fr sc = true):CompSc X own fr sc:=by
 unfold compOk at h
 simp only [Bool.and_eq_true,decide_eq_true_eq,List.all_eq_true,Bool.or_eq_true,Bool.not_eq_true',decide_eq_false_iff_not] at h
 obtain ⟨⟨⟨⟨h1,h2⟩,h3⟩,h4⟩,h5⟩:=h
 refine ⟨h1,fun y hy e=>?_,fun y hy e=>?_,fun y hy e=>?_,fun i hi=>?_⟩
 ·rcases h2 y hy with z | z
  ·exact absurd e z
  ·exact z
 ·rcases h3 y hy with z | z
  ·exact absurd e z
  ·exact z
 ·rcases h4 y hy with z | z
  ·exact absurd e z
  ·exact z
 ·have:=h5 i hi
  cases q:X.N[i]? with
  | none=>rw [q] at this; cases this
  | some x=>rw [q] at this; exact ⟨x,rfl,of_decide_eq_true this⟩
noncomputable def CompW (J:It) (own:List Str) (fr:List Nat) (g:TG) (tc:TT) (te:TE) (σ:St) (H:Hp) (Q:VK):Prop :=
 ∃ W:Nat -> Nat -> List V -> St -> Hp -> Prop,(∃ m,W 0 m [] (st0 own σ fr) H) /\ ∀ i m ys τ H,W i m ys τ H ->
   (J.stop i H /\ ∀ D,H D = none -> Q (.ref D) (upd H D (.lst ys))) \/
   (J.go i H /\ ys.length < sizeLine /\ ∃ N:List V -> St -> Hp -> Prop,(∀ ys' τ' H',N ys' τ' H' -> ∃ m',m' < m /\ W (i + 1) m' ys' τ' H') /\ ∀ x H',J.yld i H x H' -> g x τ H' fun τ2 H2 =>
     tc τ2 H2 fun b H3=>if b = true then te τ2 H3 fun y H4=>N (ys ++ [y]) τ2 H4 else N ys τ2 H3)
noncomputable def tCompW (wi:TI) (own:List Str) (fr:List Nat) (g:TG) (tc:TT) (te:TE):TE:=fun σ H Q=>wi σ H fun J H1=>CompW J own fr g tc te σ H1 Q
theorem pe_compW {X:Cx} {tg iter elt:Expr} {ifs:List Expr} {sc:Scope} {pos:Pos} {own:List Str} {fr:List Nat} {wi:TI} {g:TG} {tc:TT} {te:TE} (hc:X.calm = true) (S:CompSc X own fr sc) (hi:PI X tg iter wi)
  (hg:∀ C s H ex,PG (cxComp X own fr sc C s H ex) tg g) (hif:∀ C s H ex,PIf (cxComp X own fr sc C s H ex) ifs tc) (he:∀ C s H ex,PE (cxComp X own fr sc C s H ex) elt te)
  (hs:∀ x,foldedSetIterable iter X.env x = pure x:=by intro _; rfl):PE X (.ListComp elt [⟨tg,iter,ifs,0⟩] sc pos) (tCompW wi own fr g tc te):=pe_comp hc S hi hg hif he hs
theorem ps_setCompW {X:Cx} {tg iter elt:Expr} {ifs:List Expr} {sc:Scope} {pos spos py:Pos} {i:Nat} {y:Str} {own:List Str} {fr:List Nat} {wi:TI} {g:TG} {tc:TT} {te:TE} (hN:X.N.Nodup) (hy:X.N[i]? = some y) (hl:X.env.scope.names.lookup y = some .local) (hc:X.calm = true) (S:CompSc X own fr sc) (hi:PI X tg iter wi)
  (hg:∀ C s H ex,PG (cxComp X own fr sc C s H ex) tg g) (hif:∀ C s H ex,PIf (cxComp X own fr sc C s H ex) ifs tc) (he:∀ C s H ex,PE (cxComp X own fr sc C s H ex) elt te)
  (hsw:swapsWith (.ListComp elt [⟨tg,iter,ifs,0⟩] sc pos) (some (.Name y py)) spos.line X.env = pure true:=by rfl)
  (hs:∀ x,foldedSetIterable iter X.env x = pure x:=by intro _; rfl):PS X (.Assign [.Name y py] (.ListComp elt [⟨tg,iter,ifs,0⟩] sc pos) spos) (tAsg (tCompW wi own fr g tc te) (gName i)):=ps_setComp hN hy hl hc S hi hg hif he hsw hs
section
variable {X:Cx} {K:PySem.W.Frag}
theorem ix_listK (h:X.K = K):IxR X (rIxL K):=by subst h; exact ix_list
theorem ix_tupK (h:X.K = K):IxR X (rIxT K):=by subst h; exact ix_tup
noncomputable def rLen (K:PySem.W.Frag):List V -> Hp -> VK -> Prop:=fun xs H Q=>∃ (p:Addr) (ys:List V),xs = [.ref p] /\ (SqL K H p ys \/ SqT K H p ys) /\ Q (.int ys.length) H
theorem call_lenK (h:X.K = K):CallR X (.builtin "len") (rLen K):=by subst h; exact call_len_seq
noncomputable def rListOf (K:PySem.W.Frag):List V -> Hp -> VK -> Prop:=fun xs H Q=>∃ (p:Addr) (ys:List V),xs = [.ref p] /\ (SqL K H p ys \/ SqT K H p ys) /\ ∀ l,H l = none -> Q (.ref l) (upd H l (.lst ys))
theorem call_listK (h:X.K = K):CallR X (.type "list") (rListOf K):=by subst h; exact call_list_of
noncomputable def rTupleOf (K:PySem.W.Frag):List V -> Hp -> VK -> Prop:=fun xs H Q=>∃ (p:Addr) (ys:List V),xs = [.ref p] /\ ((SqL K H p ys /\ ∀ l,H l = none -> Q (.ref l) (upd H l (.tup ys))) \/ (SqT K H p ys /\ Q (.ref p) H))
theorem call_tupleK (h:X.K = K):CallR X (.type "tuple") (rTupleOf K):=by subst h; exact call_tuple_of
theorem call_allK (h:X.K = K) (hc:X.calm = true):CallR X (.builtin "all") (rAll K):=by subst h; exact call_all hc
theorem op_eqDK (h:X.K = K) (hu:X.A.units + 64 < cLine):OpR X (compareOp .Eq) (rEqD K false):=by subst h; exact op_eqD hu
theorem op_neDK (h:X.K = K) (hu:X.A.units + 64 < cLine):OpR X (compareOp .NotEq) (rEqD K true):=by subst h; exact op_neD hu
theorem pi_zip2K {es:List Expr} {kk:Nat} {tpos:Pos} {a b:Expr} {ta:TA} {p pos:Pos} (h:X.K = K) (hg:Gl X "zip") (hm:X.mg "zip" = none) (ha:PA X [a,b] ta) (hs:starEach [a,b] X.env = (false,eval a X.env) :: starEach [b] X.env:=by rfl) (hpl:(backTo pos (starEach [b] X.env)).any (·.1) = false:=by rfl) :
  PI X (.Tuple es kk tpos) (.Call (.Name "zip" p) [a,b] [] pos) (iZip2 K ta):=by subst h; exact pi_zip2 hg hm ha hs hpl
theorem pg_tupK {es:List Expr} {k:Nat} {t:TGs} {n:Nat} {pos:Pos} (h:X.K = K) (hc:X.calm = true) (hh:PGs X es t) (hn:(assignEach es X.env).length = n:=by rfl) (hst:(assignEach es X.env).findIdx? (·.1) = none:=by rfl):PG X (.Tuple es k pos) (gTup K n t):=by subst h; exact pg_tup hc hh hn hst
end
end L2
namespace L2
open PySem PySem.Spec PyProof.Rows
theorem cat_tup0 {prog:Program} {w:World} {A:Around} {E:Value -> Shared -> Prop} {s:Shared} {t b:Addr} {ws:List Value} {Q:Value -> Shared -> Prop} (ht:IsTup s.heap t ([]:List Value).toArray) (hb:IsTup s.heap b ws.toArray) (h:Q (.ref b) s):wpAny (model prog w) A (binaryOp .Add (.ref t) (.ref b)) Q E s:=by
 obtain ⟨⟨cls,dd,data,sl⟩,ho,hc,n,hd⟩:=id ht
 obtain ⟨⟨cls2,dd2,data2,sl2⟩,ho2,hc2,n2,hd2⟩:=id hb
 simp only at hc hd hc2 hd2
 subst hc hd hc2 hd2
 exact concat_meets ⟨_,ho,rfl⟩ ⟨_,ho2,rfl⟩ noFill_tuple_add seq_tuple_add PySem.F.slot_tuple_add PySem.F.entry_tuple_add (PySem.F.args_tuple_add_2 _ _) (tuple_addW0 t b _ ws.toArray n n2 dd dd2 sl sl2 rfl) ⟨ho,ho2,h⟩
end L2
namespace L2
open PySem PySem.Spec
noncomputable abbrev opqO (a:Addr):HO:=.ext fun h=>∃ o es ep,h.get? a = some o /\ o.ExactDict /\ o.data = .dict es ep
noncomputable def hL (k:List Int):Int:=reduceHash (Builtin.Tuple.tupleHashOf (k.map hashInt))
noncomputable def hB (k:List Int × List Int):Int:=reduceHash (Builtin.Tuple.tupleHashOf [hL k.1,hL k.2])
noncomputable abbrev extD {κ:Type} (hs:κ -> Int) (a:Addr) (ep:Nat) (xs:List (κ × Addr × V)):HO:=.ext fun h=>(∃ vs:List (κ × Addr × Value),Paired (fun x v=>x.1 = v.1 /\ x.2.1 = v.2.1 /\ RelV x.2.2 v.2.2) xs vs /\
  ∃ o es,h.get? a = some o /\ o.ExactDict /\ o.data = .dict es ep /\ es.toList = vs.map fun x=>⟨hs x.1,.ref x.2.1,x.2.2⟩) /\ (xs.map (·.1)).Nodup /\ xs.length <= sizeLine /\ (a == sysModules) = false
noncomputable abbrev excO (a C:Addr):HO:=.ext fun h=>∃ o vs,h.get? a = some o /\ o.cls = .ref C /\ o.data = .fields vs
end L2
namespace L3
open PySem PySem.Spec L2
noncomputable abbrev D:=PyData
noncomputable abbrev Fg:=PySem.W.Frag
noncomputable def Sub (F H:Hp):Prop:=∀ a o,F a = some o -> H a = some o
theorem Sub.refl (H:Hp):Sub H H:=fun _ _ h=>h
theorem Sub.trans {A B C:Hp} (h:Sub A B) (k:Sub B C):Sub A C:=fun a o e=>k a o (h a o e)
theorem Sub.new {F:Hp} {a:Addr} {o:HO} (h:F a = none):Sub F (upd F a o):=fun b u e=>by rw [upd_ne (ne_of_none e h)]; exact e
theorem Sub.rd {F H:Hp} {a:Addr} {u:HO} (s:Sub F H):Rd F a u -> Rd H a u
 | .inl h=>.inl (s _ _ h)
 | .inr ⟨o,h⟩=>.inr ⟨o,s _ _ h⟩
theorem Sub.sql {K:Fg} {F H:Hp} {a:Addr} {xs:List V} (s:Sub F H):SqL K F a xs -> SqL K H a xs
 | .inl h=>.inl (s.rd h)
 | .inr h=>.inr h
noncomputable def keyD:Key -> D
 | .inl i=>.int i
 | .inr x=>.str x
noncomputable abbrev scrD (ns:List Int):D:=.dict [(.none,.list (ns.map PyData.int))]
noncomputable abbrev excD (C:Addr):D:=.dict [(.bool true,.int (C:Nat))]
noncomputable abbrev opqD:D:=.dict [(.bool false,.none)]
noncomputable abbrev pdD (ps:List (List Int × D)):D:=.dict [(.bool false,.list (ps.map fun p=>.tuple [.tuple (p.1.map PyData.int),p.2]))]
noncomputable abbrev bdD (ps:List ((List Int × List Int) × D)):D:=.dict [(.bool false,.tuple (ps.map fun p=>.tuple [.tuple [.tuple (p.1.1.map PyData.int),.tuple (p.1.2.map PyData.int)],p.2]))]
mutual
inductive Da (K:Fg) (F:Hp):V -> D -> Prop
 | non:Da K F .non .none
 | bl (b):Da K F (.bl b) (.bool b)
 | int (i):Da K F (.int i) (.int i)
 | str (x):Da K F (.str x) (.str x)
 | lst {a xs ds}:F a = some (.lst xs) -> DaAll K F xs ds -> Da K F (.ref a) (.list ds)
 | tup {a xs ds}:F a = some (.tup xs) -> DaAll K F xs ds -> Da K F (.ref a) (.tuple ds)
 | dk {a kvs es}:Rd F a (.dK kvs) -> DaKV K F kvs es -> Da K F (.ref a) (.dict es)
 | dt {a kvs es}:Rd F a (.dT kvs) -> DaKT K F kvs es -> Da K F (.ref a) (.dict es)
 | scr {a ns}:SqL K F a (ns.map V.int) -> Da K F (.ref a) (scrD ns)
 | exc {a C}:F a = some (excO a C) -> Da K F (.ref a) (excD C)
 | opq {a}:F a = some (opqO a) -> Da K F (.ref a) opqD
 | pd {a a' ep xs ps}:F a = some (extD hL a' ep xs) -> DaPd K F xs ps -> Da K F (.ref a) (pdD ps)
 | bd {a ep xs ps}:F a = some (extD hB a ep xs) -> DaBd K F xs ps -> Da K F (.ref a) (bdD ps)
inductive DaAll (K:Fg) (F:Hp):List V -> List D -> Prop
 | nil:DaAll K F [] []
 | cons {x xs d ds}:Da K F x d -> DaAll K F xs ds -> DaAll K F (x :: xs) (d :: ds)
inductive DaKV (K:Fg) (F:Hp):List (Key × V) -> List (D × D) -> Prop
 | nil:DaKV K F [] []
 | cons {k v d kvs es}:Da K F v d -> DaKV K F kvs es -> DaKV K F ((k,v) :: kvs) ((keyD k,d) :: es)
inductive DaKT (K:Fg) (F:Hp):List (List Key × V) -> List (D × D) -> Prop
 | nil:DaKT K F [] []
 | cons {ks v d kvs es}:Da K F v d -> DaKT K F kvs es -> DaKT K F ((ks,v) :: kvs) ((.tuple (ks.map keyD),d) :: es)
inductive DaPd (K:Fg) (F:Hp):List (List Int × Addr × V) -> List (List Int × D) -> Prop
 | nil:DaPd K F [] []
 | cons {k b v d xs ps}:F b = some (.tup (k.map V.int)) -> Da K F v d -> DaPd K F xs ps -> DaPd K F ((k,b,v) :: xs) ((k,d) :: ps)
inductive DaBd (K:Fg) (F:Hp):List ((List Int × List Int) × Addr × V) -> List ((List Int × List Int) × D) -> Prop
 | nil:DaBd K F [] []
 | cons {k b c e v d xs ps}:F b = some (.tup [.ref c,.ref e]) -> F c = some (.tup (k.1.map V.int)) -> F e = some (.tup (k.2.map V.int)) -> Da K F v d -> DaBd K F xs ps -> DaBd K F ((k,b,v) :: xs) ((k,d) :: ps)
end
section
variable {K:Fg} {F F':Hp}
mutual
theorem Da.mono (s:Sub F F'):∀ {v:V} {d:D},Da K F v d -> Da K F' v d
 | _,_,.non=>.non
 | _,_,.bl b=>.bl b
 | _,_,.int i=>.int i
 | _,_,.str x=>.str x
 | _,_,.lst h t=>.lst (s _ _ h) (DaAll.mono s t)
 | _,_,.tup h t=>.tup (s _ _ h) (DaAll.mono s t)
 | _,_,.dk h t=>.dk (s.rd h) (DaKV.mono s t)
 | _,_,.dt h t=>.dt (s.rd h) (DaKT.mono s t)
 | _,_,.scr h=>.scr (s.sql h)
 | _,_,.exc h=>.exc (s _ _ h)
 | _,_,.opq h=>.opq (s _ _ h)
 | _,_,.pd h t=>.pd (s _ _ h) (DaPd.mono s t)
 | _,_,.bd h t=>.bd (s _ _ h) (DaBd.mono s t)
theorem DaAll.mono (s:Sub F F'):∀ {xs:List V} {ds:List D},DaAll K F xs ds -> DaAll K F' xs ds
 | _,_,.nil=>.nil
 | _,_,.cons h t=>.cons (Da.mono s h) (DaAll.mono s t)
theorem DaKV.mono (s:Sub F F'):∀ {xs:List (Key × V)} {ds:List (D × D)},DaKV K F xs ds -> DaKV K F' xs ds
 | _,_,.nil=>.nil
 | _,_,.cons h t=>.cons (Da.mono s h) (DaKV.mono s t)
theorem DaKT.mono (s:Sub F F'):∀ {xs:List (List Key × V)} {ds:List (D × D)},DaKT K F xs ds -> DaKT K F' xs ds
 | _,_,.nil=>.nil
 | _,_,.cons h t=>.cons (Da.mono s h) (DaKT.mono s t)
theorem DaPd.mono (s:Sub F F'):∀ {xs:List (List Int × Addr × V)} {ps:List (List Int × D)},DaPd K F xs ps -> DaPd K F' xs ps
 | _,_,.nil=>.nil
 | _,_,.cons h v t=>.cons (s _ _ h) (Da.mono s v) (DaPd.mono s t)
theorem DaBd.mono (s:Sub F F'):∀ {xs:List ((List Int × List Int) × Addr × V)} {ps:List ((List Int × List Int) × D)},DaBd K F xs ps -> DaBd K F' xs ps
 | _,_,.nil=>.nil
 | _,_,.cons h h1 h2 v t=>.cons (s _ _ h) (s _ _ h1) (s _ _ h2) (Da.mono s v) (DaBd.mono s t)
end
theorem DaAll.length:∀ {xs:List V} {ds:List D},DaAll K F xs ds -> xs.length = ds.length
 | _,_,.nil=>rfl
 | _,_,.cons _ t=>by simp [DaAll.length t]
theorem DaAll.get:∀ {xs:List V} {ds:List D} {i:Nat} {d:D},DaAll K F xs ds -> ds[i]? = some d -> ∃ v,xs[i]? = some v /\ Da K F v d
 | _,_,_,_,.nil,e=>by simp at e
 | _,_,0,_,.cons h _,e=>by simp at e; subst e; exact ⟨_,rfl,h⟩
 | _,_,i + 1,_,.cons _ t,e=>by
  obtain ⟨v,a,b⟩:=DaAll.get (i:=i) t (by simpa using e)
  exact ⟨v,by simpa using a,b⟩
theorem DaAll.append:∀ {xs ys:List V} {ds es:List D},DaAll K F xs ds -> DaAll K F ys es -> DaAll K F (xs ++ ys) (ds ++ es)
 | _,_,_,_,.nil,s=>s
 | _,_,_,_,.cons h t,s=>.cons h (DaAll.append t s)
theorem DaAll.set {v:V} {d:D} (h:Da K F v d):∀ {xs:List V} {ds:List D} (i:Nat),DaAll K F xs ds -> DaAll K F (xs.set i v) (ds.set i d)
 | _,_,_,.nil=>.nil
 | _,_,0,.cons _ t=>.cons h t
 | _,_,i + 1,.cons q t=>.cons q (DaAll.set h i t)
theorem DaAll.take:∀ {xs:List V} {ds:List D} (n:Nat),DaAll K F xs ds -> DaAll K F (xs.take n) (ds.take n)
 | _,_,0,_=>.nil
 | _,_,_ + 1,.nil=>.nil
 | _,_,n + 1,.cons h t=>.cons h (DaAll.take n t)
theorem DaAll.drop:∀ {xs:List V} {ds:List D} (n:Nat),DaAll K F xs ds -> DaAll K F (xs.drop n) (ds.drop n)
 | _,_,0,r=>r
 | _,_,_ + 1,.nil=>.nil
 | _,_,n + 1,.cons _ t=>DaAll.drop n t
theorem DaAll.dropLast:∀ {xs:List V} {ds:List D},DaAll K F xs ds -> DaAll K F xs.dropLast ds.dropLast
 | _,_,.nil=>.nil
 | _,_,.cons _ .nil=>.nil
 | _,_,.cons h (.cons h' t)=>.cons h (DaAll.dropLast (.cons h' t))
theorem DaAll.rep {xs:List V} {ds:List D} (h:DaAll K F xs ds):∀ k:Nat,DaAll K F (List.replicate k xs).flatten (List.replicate k ds).flatten
 | 0=>.nil
 | k + 1=>by rw [List.replicate_succ,List.replicate_succ,List.flatten_cons,List.flatten_cons]; exact h.append (DaAll.rep h k)
theorem DaAll.ints:∀ ns:List Int,DaAll K F (ns.map V.int) (ns.map PyData.int)
 | []=>.nil
 | n :: ns=>.cons (.int n) (DaAll.ints ns)
end
inductive Sl where
 | fz (d:D) | ow (d:D) | io (d:D)
noncomputable def Sl.d:Sl -> D
 | .fz d=>d
 | .ow d=>d
 | .io d=>d
noncomputable def isOw:Sl -> Bool
 | .fz _=>false
 | .ow _=>true
 | .io _=>true
noncomputable abbrev Ev:=List (Option Sl)
noncomputable def Own1 (K:Fg) (F:Hp):HO -> D -> Prop
 | .lst xs,.list ds=>DaAll K F xs ds
 | .dK kvs,.dict es=>DaKV K F kvs es
 | .dT kvs,.dict es=>DaKT K F kvs es
 | .ext φ,.dict [(.bool false,.list L)]=>∃ (a':Addr) (ep:Nat) (xs:List (List Int × Addr × V)) (ps:List (List Int × D)),HO.ext φ = extD hL a' ep xs /\ L = ps.map (fun p=>.tuple [.tuple (p.1.map PyData.int),p.2]) /\ DaPd K F xs ps
 | _,_=>False
section
variable {K:Fg} {F F':Hp} {o:HO} {d:D} {a:Addr}
theorem Own1.ext {φ:Heap -> Prop} (h:Own1 K F (.ext φ) d):∃ (a':Addr) (ep:Nat) (xs:List (List Int × Addr × V)) (ps:List (List Int × D)),HO.ext φ = extD hL a' ep xs /\ d = pdD ps /\ DaPd K F xs ps:=by
 unfold Own1 at h
 split at h
 ·rename_i z; cases z
 ·rename_i z; cases z
 ·rename_i z; cases z
 ·rename_i z
  obtain ⟨a',ep,xs,ps,e,rfl,t⟩:=h
  exact ⟨a',ep,xs,ps,z.trans e,rfl,t⟩
 ·exact h.elim
theorem Own1.mono (s:Sub F F') (h:Own1 K F o d):Own1 K F' o d:=by
 cases o with
 | ext φ =>
  obtain ⟨a',ep,xs,ps,e,rfl,t⟩:=h.ext
  exact ⟨a',ep,xs,ps,e,rfl,t.mono s⟩
 | _=>cases d <;> first | exact DaAll.mono s h | exact DaKV.mono s h | exact DaKT.mono s h | exact h.elim
theorem Own1.da (h:Own1 K F o d) (e:F a = some o):Da K F (.ref a) d:=by
 cases o with
 | ext φ =>
  obtain ⟨a',ep,xs,ps,z,rfl,t⟩:=h.ext
  rw [z] at e
  exact .pd e t
 | _=>cases d <;> first | exact .lst e h | exact .dk (.inl e) h | exact .dt (.inl e) h | exact h.elim
end
structure Gh where
 H0:Hp
 F0:Hp
 io:Nat -> Option Addr
structure Rel (K:Fg) (G:Gh) (F:Hp) (σ:St) (H:Hp) (ρ:Ev):Prop where
 len:σ.length = ρ.length
 sub:Sub F H
 sub0:Sub G.F0 F
 fn:∀ a o,F a = some o -> G.F0 a = some o \/ G.H0 a = none
 keep:∀ a o,G.H0 a = some o -> (∀ i,G.io i ≠ some a) -> H a = some o
 fz:∀ (i:Nat) (d:D),ρ[i]? = some (some (Sl.fz d)) -> ∃ v,σ[i]? = some (some v) /\ Da K F v d
 ow:∀ (i:Nat) (s:Sl),ρ[i]? = some (some s) -> isOw s = true -> ∃ a o,σ[i]? = some (some (V.ref a)) /\ F a = none /\ H a = some o /\ Own1 K F o s.d
 new:∀ (i:Nat) (d:D) (a:Addr),ρ[i]? = some (some (Sl.ow d)) -> σ[i]? = some (some (V.ref a)) -> G.H0 a = none
 io:∀ (i:Nat) (a:Addr),G.io i = some a -> ∃ d,ρ[i]? = some (some (Sl.io d)) /\ σ[i]? = some (some (V.ref a))
 ioi:∀ (i:Nat) (d:D),ρ[i]? = some (some (Sl.io d)) -> ∃ a,G.io i = some a
 ap:∀ (i j:Nat) (s t:Sl) (a:Addr),ρ[i]? = some (some s) -> isOw s = true -> ρ[j]? = some (some t) -> isOw t = true -> σ[i]? = some (some (V.ref a)) -> σ[j]? = some (some (V.ref a)) -> i = j
noncomputable def Res (K:Fg) (G:Gh) (F H:Hp) (σ:St) (ρ:Ev) (v:V):Sl -> Prop
 | .fz d=>Da K F v d
 | .ow d=>∃ a o,v = .ref a /\ F a = none /\ H a = some o /\ Own1 K F o d /\ G.H0 a = none /\ ∀ (i:Nat) (s:Sl),ρ[i]? = some (some s) -> isOw s = true -> σ[i]? ≠ some (some (V.ref a))
 | .io _=>False
section
variable {K:Fg} {G:Gh} {F F' H:Hp} {σ:St} {ρ:Ev} {a:Addr} {o:HO} {d:D} {v:V} {s:Sl}
theorem Rel.bound (R:Rel K G F σ H ρ) {i:Nat} (h:ρ[i]? = some (some s)):∃ v,σ[i]? = some (some v):=by
 cases s with
 | fz d=>obtain ⟨v,e,_⟩:=R.fz i d h; exact ⟨v,e⟩
 | ow d=>obtain ⟨a,o,e,_⟩:=R.ow i _ h rfl; exact ⟨_,e⟩
 | io d=>obtain ⟨a,o,e,_⟩:=R.ow i _ h rfl; exact ⟨_,e⟩
theorem Rel.h0 (R:Rel K G F σ H ρ) (h:H a = none):G.H0 a = none:=by
 cases e:G.H0 a with
 | none=>rfl
 | some o =>
  by_cases q:∃ i,G.io i = some a
  ·obtain ⟨i,q⟩:=q
   obtain ⟨d,h1,h2⟩:=R.io i a q
   obtain ⟨a',o',h3,_,h4,_⟩:=R.ow i _ h1 rfl
   rw [h2] at h3
   cases h3
   rw [h] at h4; cases h4
  ·have:=R.keep a o e fun i z=>q ⟨i,z⟩
   rw [h] at this; cases this
theorem Rel.f0 (R:Rel K G F σ H ρ) (h:H a = none):F a = none:=by
 cases e:F a with
 | none=>rfl
 | some o=>rw [R.sub a o e] at h; cases h
theorem Rel.laid (R:Rel K G F σ H ρ) (h:H a = none):Rel K G F σ (upd H a o) ρ where
 len:=R.len
 sub:=fun b u e=>by rw [upd_ne (ne_of_none (R.sub b u e) h)]; exact R.sub b u e
 sub0:=R.sub0
 fn:=R.fn
 keep:=fun b u e n=>by rw [upd_ne (ne_of_none (R.keep b u e n) h)]; exact R.keep b u e n
 fz:=R.fz
 ow:=fun i s e w=>by
  obtain ⟨a',o',h1,h2,h3,h4⟩:=R.ow i s e w
  exact ⟨a',o',h1,h2,by rw [upd_ne (ne_of_none h3 h)]; exact h3,h4⟩
 new:=R.new
 io:=R.io
 ioi:=R.ioi
 ap:=R.ap
theorem Rel.grow (R:Rel K G F σ H ρ) (h0:G.H0 a = none) (h:H a = some o) (hn:∀ (i:Nat) (s:Sl),ρ[i]? = some (some s) -> isOw s = true -> σ[i]? ≠ some (some (V.ref a))):Sub F (upd F a o) /\ Rel K G (upd F a o) σ H ρ:=by
 have sb:Sub F (upd F a o):=fun b u e=>by
  by_cases z:b = a
  ·subst z; rw [upd_same,<- h]; exact R.sub _ _ e
  ·rw [upd_ne z]; exact e
 refine ⟨sb,R.len,fun b u e=>?_,R.sub0.trans sb,fun b u e=>?_,R.keep,fun i d e=>?_,fun i s e w=>?_,R.new,R.io,R.ioi,R.ap⟩
 ·by_cases z:b = a
  ·subst z; rw [upd_same] at e; rw [h]; exact e
  ·rw [upd_ne z] at e; exact R.sub _ _ e
 ·by_cases z:b = a
  ·subst z; exact .inr h0
  ·rw [upd_ne z] at e; exact R.fn _ _ e
 ·obtain ⟨v,h1,h2⟩:=R.fz i d e
  exact ⟨v,h1,h2.mono sb⟩
 ·obtain ⟨a',o',h1,h2,h3,h4⟩:=R.ow i s e w
  have z:a' ≠ a:=fun z=>hn i s e w (by rw [h1,z])
  exact ⟨a',o',h1,by rw [upd_ne z]; exact h2,h3,h4.mono sb⟩
theorem Res.frz (R:Rel K G F σ H ρ) (r:Res K G F H σ ρ v s):∃ F',Sub F F' /\ Rel K G F' σ H ρ /\ Da K F' v s.d:=by
 cases s with
 | fz d=>exact ⟨F,Sub.refl _,R,r⟩
 | ow d =>
  obtain ⟨a,o,rfl,h1,h2,h3,h4,h5⟩:=r
  obtain ⟨sb,R'⟩:=R.grow h4 h2 h5
  exact ⟨_,sb,R',(h3.mono sb).da upd_same⟩
 | io d=>exact r.elim
theorem Rel.newOw (R:Rel K G F σ H ρ) (h:H a = none) (w:Own1 K F o d):Rel K G F σ (upd H a o) ρ /\ Res K G F (upd H a o) σ ρ (.ref a) (.ow d):=by
 refine ⟨R.laid h,a,o,rfl,R.f0 h,upd_same,w,R.h0 h,fun i s e w z=>?_⟩
 obtain ⟨a',o',h1,h2,h3,h4⟩:=R.ow i s e w
 rw [z] at h1
 cases h1
 rw [h] at h3; cases h3
theorem Rel.newTup (R:Rel K G F σ H ρ) {xs:List V} {ds:List D} (h:H a = none) (w:DaAll K F xs ds) :
  Sub F (upd F a (.tup xs)) /\ Rel K G (upd F a (.tup xs)) σ (upd H a (.tup xs)) ρ /\ Da K (upd F a (.tup xs)) (.ref a) (.tuple ds):=by
 have R1:Rel K G F σ (upd H a (.tup xs)) ρ:=R.laid h
 obtain ⟨sb,R2⟩:=R1.grow (a:=a) (o:=.tup xs) (R.h0 h) upd_same fun i s e w z=>by
  obtain ⟨a',o',h1,h2,h3,h4⟩:=R.ow i s e w
  rw [z] at h1
  cases h1
  rw [h] at h3; cases h3
 exact ⟨sb,R2,.tup upd_same (w.mono sb)⟩
noncomputable def Sl.put:Sl -> D -> Sl
 | .fz _,d=>.fz d
 | .ow _,d=>.ow d
 | .io _,d=>.io d
theorem get_set {α:Type} {l:List α} {i j:Nat} {x y:α} (h:(l.set i x)[j]? = some y):(j = i /\ y = x) \/ (j ≠ i /\ l[j]? = some y):=by
 by_cases z:i = j
 ·subst z
  rw [List.getElem?_set] at h
  simp at h
  exact .inl ⟨rfl,h.2.symm⟩
 ·rw [List.getElem?_set_ne z] at h
  exact .inr ⟨fun q=>z q.symm,h⟩
theorem set_get {α:Type} {l:List α} {i:Nat} {x:α} (h:i < l.length):(l.set i x)[i]? = some x:=by simp [h]
theorem lt_of_get {α:Type} {l:List α} {i:Nat} {x:α} (h:l[i]? = some x):i < l.length:=(List.getElem?_eq_some_iff.mp h).1
theorem Rel.change (R:Rel K G F σ H ρ) {i:Nat} {o':HO} {d':D} (h:ρ[i]? = some (some s)) (w:isOw s = true) (ha:σ[i]? = some (some (V.ref a))) (q:Own1 K F o' d') :
  Rel K G F σ (upd H a o') (ρ.set i (some (s.put d'))):=by
 obtain ⟨a0,o0,h1,h2,h3,h4⟩:=R.ow i s h w
 rw [ha] at h1; cases h1
 have sw:isOw (s.put d') = true:=by cases s <;> first | rfl | cases w
 have hl:=lt_of_get h
 refine ⟨by rw [List.length_set]; exact R.len,fun b u e=>?_,R.sub0,R.fn,fun b u e n=>?_,fun j d e=>?_,fun j t e wt=>?_,fun j d b e eb=>?_,fun j b e=>?_,fun j d e=>?_,fun j k t u b e1 w1 e2 w2 e3 e4=>?_⟩
 ·have z:b ≠ a:=fun z=>by subst z; rw [h2] at e; cases e
  rw [upd_ne z]; exact R.sub _ _ e
 ·by_cases z:b = a
  ·subst z
   cases s with
   | fz d=>cases w
   | ow d=>rw [R.new i d b h ha] at e; cases e
   | io d =>
    obtain ⟨a',e'⟩:=R.ioi i d h
    obtain ⟨d',_,e2⟩:=R.io i a' e'
    rw [ha] at e2; cases e2
    exact absurd e' (n i)
  ·rw [upd_ne z]; exact R.keep _ _ e n
 ·rcases get_set e with ⟨rfl,z⟩ | ⟨n,z⟩
  ·cases s <;> simp [Sl.put,isOw] at z w
  ·exact R.fz j d z
 ·rcases get_set e with ⟨rfl,z⟩ | ⟨n,z⟩
  ·cases z
   exact ⟨a,o',ha,h2,upd_same,by cases s <;> first | exact q | cases w⟩
  ·obtain ⟨b,u,g1,g2,g3,g4⟩:=R.ow j t z wt
   have nb:b ≠ a:=fun x=>n (R.ap j i t s a z wt h w (by rw [g1,x]) ha)
   exact ⟨b,u,g1,g2,by rw [upd_ne nb]; exact g3,g4⟩
 ·rcases get_set e with ⟨rfl,z⟩ | ⟨n,z⟩
  ·cases s with
   | fz d=>cases w
   | ow d0=>exact R.new j d0 b h eb
   | io d=>cases z
  ·exact R.new j d b z eb
 ·obtain ⟨d,e1,e2⟩:=R.io j b e
  by_cases z:j = i
  ·subst z
   rw [h] at e1
   cases e1
   exact ⟨d',by rw [set_get hl]; rfl,e2⟩
  ·exact ⟨d,by rw [List.getElem?_set_ne (Ne.symm z)]; exact e1,e2⟩
 ·rcases get_set e with ⟨rfl,z⟩ | ⟨n,z⟩
  ·cases s with
   | fz d=>cases w
   | ow d0=>cases z
   | io d0=>exact R.ioi j d0 h
  ·exact R.ioi j d z
 ·have f:∀ (j:Nat) (t:Sl),(ρ.set i (some (s.put d')))[j]? = some (some t) -> isOw t = true -> ∃ t',ρ[j]? = some (some t') /\ isOw t' = true:=fun j t e wt=>by
   rcases get_set e with ⟨rfl,z⟩ | ⟨n,z⟩
   ·exact ⟨s,h,w⟩
   ·exact ⟨t,z,wt⟩
  obtain ⟨t',e1',w1'⟩:=f j t e1 w1
  obtain ⟨u',e2',w2'⟩:=f k u e2 w2
  exact R.ap j k t' u' b e1' w1' e2' w2' e3 e4
theorem Rel.forget (R:Rel K G F σ H ρ) {i:Nat} (h:ρ[i]? = some (some (Sl.ow d))):Rel K G F σ H (ρ.set i none):=by
 refine ⟨by rw [List.length_set]; exact R.len,R.sub,R.sub0,R.fn,R.keep,fun j d e=>?_,fun j t e wt=>?_,fun j d b e eb=>?_,fun j b e=>?_,fun j d e=>?_,fun j k t u b e1 w1 e2 w2 e3 e4=>?_⟩
 ·rcases get_set e with ⟨rfl,z⟩ | ⟨n,z⟩
  ·cases z
  ·exact R.fz j d z
 ·rcases get_set e with ⟨rfl,z⟩ | ⟨n,z⟩
  ·cases z
  ·exact R.ow j t z wt
 ·rcases get_set e with ⟨rfl,z⟩ | ⟨n,z⟩
  ·cases z
  ·exact R.new j d b z eb
 ·obtain ⟨d',e1,e2⟩:=R.io j b e
  have n:i ≠ j:=fun z=>by subst z; rw [h] at e1; cases e1
  exact ⟨d',by rw [List.getElem?_set_ne n]; exact e1,e2⟩
 ·rcases get_set e with ⟨rfl,z⟩ | ⟨n,z⟩
  ·cases z
  ·exact R.ioi j d z
 ·rcases get_set e1 with ⟨rfl,z⟩ | ⟨n,z⟩
  ·cases z
  ·rcases get_set e2 with ⟨rfl,z'⟩ | ⟨n',z'⟩
   ·cases z'
   ·exact R.ap j k t u b z w1 z' w2 e3 e4
theorem Rel.freeze (R:Rel K G F σ H ρ) {i:Nat} (h:ρ[i]? = some (some (Sl.ow d))):∃ F' v,Sub F F' /\ Rel K G F' σ H (ρ.set i (some (Sl.fz d))) /\ σ[i]? = some (some v) /\ Da K F' v d:=by
 obtain ⟨a,o,h1,h2,h3,h4⟩:=R.ow i _ h rfl
 have hl:=lt_of_get h
 have R1:=R.forget h
 have hn:∀ (j:Nat) (s:Sl),(ρ.set i none)[j]? = some (some s) -> isOw s = true -> σ[j]? ≠ some (some (V.ref a)):=fun j s e w z=>by
  rcases get_set e with ⟨rfl,q⟩ | ⟨n,q⟩
  ·cases q
  ·exact n (R.ap j i s _ a q w h rfl z h1)
 obtain ⟨sb,R2⟩:=R1.grow (R.new i d a h h1) h3 hn
 have dd:Da K (upd F a o) (.ref a) d:=(h4.mono sb).da upd_same
 refine ⟨_,_,sb,?_,h1,dd⟩
 refine ⟨by rw [List.length_set]; exact R.len,R2.sub,R2.sub0,R2.fn,R2.keep,fun j d' e=>?_,fun j t e wt=>?_,fun j d b e eb=>?_,fun j b e=>?_,fun j d e=>?_,fun j k t u b e1 w1 e2 w2 e3 e4=>?_⟩
 ·rcases get_set e with ⟨rfl,z⟩ | ⟨n,z⟩
  ·cases z; exact ⟨_,h1,dd⟩
  ·exact R2.fz j d' (by rw [List.getElem?_set_ne (Ne.symm n)]; exact z)
 ·rcases get_set e with ⟨rfl,z⟩ | ⟨n,z⟩
  ·cases z; cases wt
  ·exact R2.ow j t (by rw [List.getElem?_set_ne (Ne.symm n)]; exact z) wt
 ·rcases get_set e with ⟨rfl,z⟩ | ⟨n,z⟩
  ·cases z
  ·exact R.new j d b z eb
 ·obtain ⟨d',e1,e2⟩:=R.io j b e
  have n:i ≠ j:=fun z=>by subst z; rw [h] at e1; cases e1
  exact ⟨d',by rw [List.getElem?_set_ne n]; exact e1,e2⟩
 ·rcases get_set e with ⟨rfl,z⟩ | ⟨n,z⟩
  ·cases z
  ·exact R.ioi j d z
 ·rcases get_set e1 with ⟨rfl,z⟩ | ⟨n,z⟩
  ·cases z; cases w1
  ·rcases get_set e2 with ⟨rfl,z'⟩ | ⟨n',z'⟩
   ·cases z'; cases w2
   ·exact R.ap j k t u b z w1 z' w2 e3 e4
theorem Rel.forgetRes (R:Rel K G F σ H ρ) {i:Nat} (h:ρ[i]? = some (some (Sl.ow d))):∃ v,σ[i]? = some (some v) /\ Res K G F H σ (ρ.set i none) v (.ow d):=by
 obtain ⟨a,o,h1,h2,h3,h4⟩:=R.ow i _ h rfl
 refine ⟨_,h1,a,o,rfl,h2,h3,h4,R.new i d a h h1,fun j s e w z=>?_⟩
 rcases get_set e with ⟨rfl,q⟩ | ⟨n,q⟩
 ·cases q
 ·exact n (R.ap j i s _ a q w h rfl z h1)
noncomputable def noIo (ρ:Ev) (i:Nat):Prop:=match ρ[i]? with
 | some (some (Sl.io _))=>False
 | some _=>True
 | none=>False
theorem Rel.asg (R:Rel K G F σ H ρ) {i:Nat} (hi:noIo ρ i) (r:Res K G F H σ ρ v s):Rel K G F (σ.set i (some v)) H (ρ.set i (some s)):=by
 have hl:i < ρ.length:=by
  cases e:ρ[i]? with
  | none=>unfold noIo at hi; rw [e] at hi; exact hi.elim
  | some x=>exact lt_of_get e
 have hl':i < σ.length:=by rw [R.len]; exact hl
 have ni:∀ d,ρ[i]? ≠ some (some (Sl.io d)):=fun d e=>by unfold noIo at hi; rw [e] at hi; exact hi
 refine ⟨by rw [List.length_set,List.length_set]; exact R.len,R.sub,R.sub0,R.fn,R.keep,fun j d e=>?_,fun j t e wt=>?_,fun j d b e eb=>?_,fun j b e=>?_,fun j d e=>?_,fun j k t u b e1 w1 e2 w2 e3 e4=>?_⟩
 ·rcases get_set e with ⟨rfl,z⟩ | ⟨n,z⟩
  ·cases z; exact ⟨v,set_get hl',r⟩
  ·rw [List.getElem?_set_ne (Ne.symm n)]; exact R.fz j d z
 ·rcases get_set e with ⟨rfl,z⟩ | ⟨n,z⟩
  ·cases z
   cases s with
   | fz d=>cases wt
   | ow d =>
    obtain ⟨a,o,rfl,h1,h2,h3,_⟩:=r
    exact ⟨a,o,set_get hl',h1,h2,h3⟩
   | io d=>exact r.elim
  ·rw [List.getElem?_set_ne (Ne.symm n)]; exact R.ow j t z wt
 ·rcases get_set e with ⟨rfl,z⟩ | ⟨n,z⟩
  ·cases z
   obtain ⟨a,o,rfl,h1,h2,h3,h4,_⟩:=r
   rw [set_get hl'] at eb; cases eb
   exact h4
  ·rw [List.getElem?_set_ne (Ne.symm n)] at eb; exact R.new j d b z eb
 ·obtain ⟨d,e1,e2⟩:=R.io j b e
  have n:i ≠ j:=fun z=>by subst z; exact ni d e1
  exact ⟨d,by rw [List.getElem?_set_ne n]; exact e1,by rw [List.getElem?_set_ne n]; exact e2⟩
 ·rcases get_set e with ⟨rfl,z⟩ | ⟨n,z⟩
  ·cases z; exact r.elim
  ·exact R.ioi j d z
 ·have own:∀ (j:Nat) (t:Sl),j ≠ i -> ρ[j]? = some (some t) -> isOw t = true -> (σ.set i (some v))[j]? = some (some (V.ref b)) -> s.d = s.d -> isOw s = true -> v = .ref b -> False:=fun j t n e w eb _ ws ev=>by
   subst ev
   cases s with
   | fz d=>cases ws
   | io d=>exact r
   | ow d =>
    obtain ⟨a,o,z,h1,h2,h3,h4,h5⟩:=r
    cases z
    rw [List.getElem?_set_ne (Ne.symm n)] at eb
    exact h5 j t e w eb
  rcases get_set e1 with ⟨rfl,z⟩ | ⟨n,z⟩
  ·rcases get_set e2 with ⟨rfl,z'⟩ | ⟨n',z'⟩
   ·rfl
   ·rw [set_get hl'] at e3; cases e3
    cases z
    exact (own k u n' z' w2 e4 rfl w1 rfl).elim
  ·rcases get_set e2 with ⟨rfl,z'⟩ | ⟨n',z'⟩
   ·rw [set_get hl'] at e4; cases e4
    cases z'
    exact (own j t n z w1 e3 rfl w2 rfl).elim
   ·rw [List.getElem?_set_ne (Ne.symm n)] at e3
    rw [List.getElem?_set_ne (Ne.symm n')] at e4
    exact R.ap j k t u b z w1 z' w2 e3 e4
end
end L3
namespace L3
open PySem PySem.Spec L2
noncomputable abbrev TD:=Ev -> (Sl -> Ev -> Prop) -> Prop
noncomputable abbrev TTD:=Ev -> (Bool -> Ev -> Prop) -> Prop
noncomputable abbrev Opd:=Sum Nat D
noncomputable abbrev AD:=Sum Nat TD
noncomputable def lift (K:Fg) (td:TD):TE:=fun σ H Q=>∃ (G:Gh) (F:Hp) (ρ:Ev) (Qd:Sl -> Ev -> Prop),Rel K G F σ H ρ /\ td ρ Qd /\
 ∀ v H' F' r ρ',Sub F F' -> Rel K G F' σ H' ρ' -> Res K G F' H' σ ρ' v r -> Qd r ρ' -> Q v H'
noncomputable def liftT (K:Fg) (tc:TTD):TT:=fun σ H Q=>∃ (G:Gh) (F:Hp) (ρ:Ev) (Qd:Bool -> Ev -> Prop),Rel K G F σ H ρ /\ tc ρ Qd /\
 ∀ b H' F' ρ',Sub F F' -> Rel K G F' σ H' ρ' -> Qd b ρ' -> Q b H'
noncomputable def argT (K:Fg):AD -> TE
 | .inl i=>tVar i
 | .inr td=>lift K td
noncomputable def tArgs:List TE -> TA
 | []=>tNil
 | t :: ts=>tCons t (tArgs ts)
theorem argT_mono {K:Fg} {a:AD} {σ:St} {H:Hp} {Q Q':VK} (m:∀ v H,Q v H -> Q' v H) (h:argT K a σ H Q):argT K a σ H Q':=by
 cases a with
 | inl i=>obtain ⟨v,e,q⟩:=h; exact ⟨v,e,m _ _ q⟩
 | inr td =>
  obtain ⟨G,F,ρ,Qd,R,w,k⟩:=h
  exact ⟨G,F,ρ,Qd,R,w,fun v H' F' r ρ' s R' r' q=>m _ _ (k v H' F' r ρ' s R' r' q)⟩
theorem arg1 {K:Fg} {a:AD} {σ:St} {H:Hp} {P:VK} (h:tArgs ([a].map (argT K)) σ H fun vs H2=>∃ x,vs = [x] /\ P x H2):argT K a σ H P :=
 argT_mono (fun v H q=>by obtain ⟨x,e,q⟩:=q; cases e; exact q) h
theorem arg2 {K:Fg} {a b:AD} {σ:St} {H:Hp} {P:V -> V -> Hp -> Prop} (h:tArgs ([a,b].map (argT K)) σ H fun vs H2=>∃ x y,vs = [x,y] /\ P x y H2):argT K a σ H fun x H1=>argT K b σ H1 fun y H2=>P x y H2 :=
 argT_mono (fun v H q=>argT_mono (fun u H q=>by obtain ⟨x,y,e,q⟩:=q; cases e; exact q) q) h
noncomputable def dVar (i:Nat):TD:=fun ρ Q=>match ρ[i]? with
 | some (some (.fz d))=>Q (.fz d) ρ
 | some (some (.ow d))=>Q (.fz d) (ρ.set i (some (.fz d)))
 | _=>False
noncomputable def dC (d:D):TD:=fun ρ Q=>Q (.fz d) ρ
section
variable {K:Fg} {σ:St} {H:Hp} {Q:VK}
theorem l_var {i:Nat} (h:lift K (dVar i) σ H Q):tVar i σ H Q:=by
 obtain ⟨G,F,ρ,Qd,R,w,k⟩:=h
 unfold dVar at w
 split at w
 ·rename_i d e
  obtain ⟨v,e1,h1⟩:=R.fz i d e
  exact ⟨v,e1,k v H F (.fz d) ρ (Sub.refl _) R h1 w⟩
 ·rename_i d e
  obtain ⟨F',v,sb,R',e1,h1⟩:=R.freeze e
  exact ⟨v,e1,k v H F' (.fz d) _ sb R' h1 w⟩
 ·exact w.elim
theorem l_c {v:V} {d:D} (hv:∀ F,Da K F v d) (h:lift K (dC d) σ H Q):tC v σ H Q:=by
 obtain ⟨G,F,ρ,Qd,R,w,k⟩:=h
 exact k v H F (.fz d) ρ (Sub.refl _) R (hv F) w
end
noncomputable def OpdAt (K:Fg) (F:Hp) (σ:St) (v:V):Opd -> Prop
 | .inl i=>σ[i]? = some (some v)
 | .inr d=>Da K F v d
inductive OpdsAt (K:Fg) (F:Hp) (σ:St):List V -> List Opd -> Prop
 | nil:OpdsAt K F σ [] []
 | cons {v x vs xs}:OpdAt K F σ v x -> OpdsAt K F σ vs xs -> OpdsAt K F σ (v :: vs) (x :: xs)
noncomputable def dArgs:List AD -> Ev -> (List Opd -> Ev -> Prop) -> Prop
 | [],ρ,Q=>Q [] ρ
 | .inl i :: as,ρ,Q=>match ρ[i]? with
  | some (some _)=>dArgs as ρ fun xs ρ'=>Q (.inl i :: xs) ρ'
  | _=>False
 | .inr td :: as,ρ,Q=>td ρ fun r ρ1=>dArgs as ρ1 fun xs ρ2=>Q (.inr r.d :: xs) ρ2
theorem args_okL {K:Fg} {G:Gh} {σ:St}:∀ {as:List AD} {F H:Hp} {ρ:Ev} {Qd:List Opd -> Ev -> Prop} {Qv:List V -> Hp -> Prop},Rel K G F σ H ρ -> dArgs as ρ Qd ->
  (∀ vs H' F' xs ρ',Sub F F' -> Rel K G F' σ H' ρ' -> OpdsAt K F' σ vs xs -> vs.length = as.length -> Qd xs ρ' -> Qv vs H') -> tArgs (as.map (argT K)) σ H Qv
 | [],F,H,ρ,Qd,Qv,R,w,k=>k [] H F [] ρ (Sub.refl _) R .nil rfl w
 | .inl i :: as,F,H,ρ,Qd,Qv,R,w,k=>by
  unfold dArgs at w
  split at w
  ·rename_i s e
   obtain ⟨v,ev⟩:=R.bound e
   refine ⟨v,ev,args_okL (as:=as) R w fun vs H' F' xs ρ' sb R' o hl q=>?_⟩
   exact k (v :: vs) H' F' (.inl i :: xs) ρ' sb R' (.cons ev o) (by simp [hl]) q
  ·exact w.elim
 | .inr td :: as,F,H,ρ,Qd,Qv,R,w,k=>by
  refine ⟨G,F,ρ,_,R,w,fun v H1 F1 r ρ1 s1 R1 r1 w1=>?_⟩
  obtain ⟨F2,s2,R2,d2⟩:=r1.frz R1
  refine args_okL (as:=as) R2 w1 fun vs H' F' xs ρ' sb R' o hl q=>?_
  exact k (v :: vs) H' F' (.inr r.d :: xs) ρ' (s1.trans (s2.trans sb)) R' (.cons (d2.mono sb) o) (by simp [hl]) q
theorem args_ok {K:Fg} {G:Gh} {σ:St} {as:List AD} {F H:Hp} {ρ:Ev} {Qd:List Opd -> Ev -> Prop} {Qv:List V -> Hp -> Prop} (R:Rel K G F σ H ρ) (w:dArgs as ρ Qd)
  (k:∀ vs H' F' xs ρ',Sub F F' -> Rel K G F' σ H' ρ' -> OpdsAt K F' σ vs xs -> Qd xs ρ' -> Qv vs H'):tArgs (as.map (argT K)) σ H Qv:=args_okL R w fun vs H' F' xs ρ' s R' o _ q=>k vs H' F' xs ρ' s R' o q
noncomputable def At (K:Fg) (F H:Hp) (v:V) (d:D):Prop:=Da K F v d \/ ∃ a o,v = .ref a /\ F a = none /\ H a = some o /\ Own1 K F o d
inductive AtAll (K:Fg) (F H:Hp):List V -> List D -> Prop
 | nil:AtAll K F H [] []
 | cons {v d vs ds}:At K F H v d -> AtAll K F H vs ds -> AtAll K F H (v :: vs) (d :: ds)
noncomputable def looksQ (ρ:Ev):List Opd -> (List D -> Prop) -> Prop
 | [],k=>k []
 | .inr d :: xs,k=>looksQ ρ xs fun ds=>k (d :: ds)
 | .inl i :: xs,k=>match ρ[i]? with
  | some (some s)=>looksQ ρ xs fun ds=>k (s.d :: ds)
  | _=>False
section
variable {K:Fg} {G:Gh} {F H:Hp} {σ:St} {ρ:Ev}
theorem Rel.at (R:Rel K G F σ H ρ) {i:Nat} {s:Sl} {v:V} (e:ρ[i]? = some (some s)) (ev:σ[i]? = some (some v)):At K F H v s.d:=by
 cases s with
 | fz d =>
  obtain ⟨v',e1,h1⟩:=R.fz i d e
  rw [ev] at e1; cases e1
  exact .inl h1
 | ow d =>
  obtain ⟨a,o,h1,h2,h3,h4⟩:=R.ow i _ e rfl
  rw [ev] at h1; cases h1
  exact .inr ⟨a,o,rfl,h2,h3,h4⟩
 | io d =>
  obtain ⟨a,o,h1,h2,h3,h4⟩:=R.ow i _ e rfl
  rw [ev] at h1; cases h1
  exact .inr ⟨a,o,rfl,h2,h3,h4⟩
theorem looks_ok (R:Rel K G F σ H ρ) {xs:List Opd} {vs:List V} {k:List D -> Prop} (o:OpdsAt K F σ vs xs) (h:looksQ ρ xs k):∃ ds,AtAll K F H vs ds /\ k ds:=by
 induction o generalizing k with
 | nil=>exact ⟨[],.nil,h⟩
 | @cons v x vs xs o t ih =>
  cases x with
  | inr d =>
   obtain ⟨ds,a,q⟩:=ih (k:=fun ds=>k (d :: ds)) h
   exact ⟨d :: ds,.cons (.inl o) a,q⟩
  | inl i =>
   unfold looksQ at h
   split at h
   ·rename_i s e
    obtain ⟨ds,a,q⟩:=ih (k:=fun ds=>k (s.d :: ds)) h
    exact ⟨s.d :: ds,.cons (R.at e o) a,q⟩
   ·exact h.elim
end
noncomputable def dOp (as:List AD) (f:List D -> (Sl -> Prop) -> Prop):TD:=fun ρ Q=>dArgs as ρ fun xs ρ1=>looksQ ρ1 xs fun ds=>f ds fun r=>Q r ρ1
noncomputable def OpOk (K:Fg) (r:List V -> Hp -> VK -> Prop) (f:List D -> (Sl -> Prop) -> Prop):Prop :=
 ∀ (G:Gh) (F:Hp) (σ:St) (H:Hp) (ρ:Ev) (vs:List V) (ds:List D) (Q:VK) (Qd:Sl -> Prop),Rel K G F σ H ρ -> AtAll K F H vs ds -> f ds Qd ->
  (∀ v H' F' s,Sub F F' -> Rel K G F' σ H' ρ -> Res K G F' H' σ ρ v s -> Qd s -> Q v H') -> r vs H Q
theorem l_op {K:Fg} {as:List AD} {r:List V -> Hp -> VK -> Prop} {f:List D -> (Sl -> Prop) -> Prop} (ok:OpOk K r f) {σ:St} {H:Hp} {Q:VK} (h:lift K (dOp as f) σ H Q):tArgs (as.map (argT K)) σ H fun vs H1=>r vs H1 Q:=by
 obtain ⟨G,F,ρ,Qd,R,w,k⟩:=h
 refine args_ok R w fun vs H' F' xs ρ' sb R' o q=>?_
 obtain ⟨ds,ha,q⟩:=looks_ok R' o q
 exact ok G F' σ H' ρ' vs ds Q _ R' ha q fun v H2 F2 s s2 R2 r2 q2=>k v H2 F2 s ρ' (sb.trans s2) R2 r2 q2
noncomputable def o1 (f:D -> (Sl -> Prop) -> Prop):List D -> (Sl -> Prop) -> Prop
 | [x],Q=>f x Q
 | _,_=>False
noncomputable def o2 (f:D -> D -> (Sl -> Prop) -> Prop):List D -> (Sl -> Prop) -> Prop
 | [x,y],Q=>f x y Q
 | _,_=>False
noncomputable def o3 (f:D -> D -> D -> (Sl -> Prop) -> Prop):List D -> (Sl -> Prop) -> Prop
 | [x,y,z],Q=>f x y z Q
 | _,_=>False
noncomputable def dTst (td:TD):TTD:=fun ρ Q=>td ρ fun r ρ'=>match r with
 | .fz (.bool b)=>Q b ρ'
 | _=>False
noncomputable def dNot (c:TTD):TTD:=fun ρ Q=>c ρ fun b ρ'=>Q (!b) ρ'
noncomputable def dAnd (c e:TTD):TTD:=fun ρ Q=>c ρ fun b ρ'=>if b = true then e ρ' Q else Q false ρ'
noncomputable def dOr (c e:TTD):TTD:=fun ρ Q=>c ρ fun b ρ'=>if b = true then Q true ρ' else e ρ' Q
noncomputable def dYes:TTD:=fun ρ Q=>Q true ρ
section
variable {K:Fg} {σ:St} {H:Hp}
theorem l_tst {td:TD} {t:TE} (ht:∀ {σ H Q},lift K td σ H Q -> t σ H Q) {Q:Bool -> Hp -> Prop} (h:liftT K (dTst td) σ H Q):tTest t σ H Q:=by
 obtain ⟨G,F,ρ,Qd,R,w,k⟩:=h
 refine ht ⟨G,F,ρ,_,R,w,fun v H' F' r ρ' sb R' r' q=>?_⟩
 split at q
 ·rename_i b
  cases r'
  exact ⟨b,rfl,k b H' F' ρ' sb R' q⟩
 ·exact q.elim
theorem l_not {c:TTD} {Q:Bool -> Hp -> Prop} (h:liftT K (dNot c) σ H Q):tNot (liftT K c) σ H Q:=by
 obtain ⟨G,F,ρ,Qd,R,w,k⟩:=h
 exact ⟨G,F,ρ,_,R,w,fun b H' F' ρ' sb R' q=>k (!b) H' F' ρ' sb R' q⟩
theorem l_and {c e:TTD} {Q:Bool -> Hp -> Prop} (h:liftT K (dAnd c e) σ H Q):tAnd (liftT K c) (liftT K e) σ H Q:=by
 obtain ⟨G,F,ρ,Qd,R,w,k⟩:=h
 refine ⟨G,F,ρ,_,R,w,fun b H' F' ρ' sb R' q=>?_⟩
 cases b with
 | true=>exact ⟨G,F',ρ',Qd,R',q,fun b H2 F2 ρ2 s2 R2 q2=>k b H2 F2 ρ2 (sb.trans s2) R2 q2⟩
 | false=>exact k false H' F' ρ' sb R' q
theorem l_or {c e:TTD} {Q:Bool -> Hp -> Prop} (h:liftT K (dOr c e) σ H Q):tOr (liftT K c) (liftT K e) σ H Q:=by
 obtain ⟨G,F,ρ,Qd,R,w,k⟩:=h
 refine ⟨G,F,ρ,_,R,w,fun b H' F' ρ' sb R' q=>?_⟩
 cases b with
 | true=>exact k true H' F' ρ' sb R' q
 | false=>exact ⟨G,F',ρ',Qd,R',q,fun b H2 F2 ρ2 s2 R2 q2=>k b H2 F2 ρ2 (sb.trans s2) R2 q2⟩
theorem l_yes {Q:Bool -> Hp -> Prop} (h:liftT K dYes σ H Q):tYes σ H Q:=by
 obtain ⟨G,F,ρ,Qd,R,w,k⟩:=h
 exact k true H F ρ (Sub.refl _) R w
end
noncomputable def dAndV (a b:TD):TD:=fun ρ Q=>a ρ fun r ρ'=>match r with
 | .fz (.bool c)=>if c = true then b ρ' Q else Q (.fz (.bool false)) ρ'
 | _=>False
noncomputable def dOrV (a b:TD):TD:=fun ρ Q=>a ρ fun r ρ'=>match r with
 | .fz (.bool c)=>if c = true then Q (.fz (.bool true)) ρ' else b ρ' Q
 | _=>False
noncomputable def dNotV (a:TD):TD:=fun ρ Q=>a ρ fun r ρ'=>match r with
 | .fz (.bool c)=>Q (.fz (.bool (!c))) ρ'
 | _=>False
section
variable {K:Fg} {σ:St} {H:Hp} {Q:VK} {a b:TD} {c:TTD}
theorem l_andV (h:lift K (dAndV a b) σ H Q):tAndV (lift K a) (lift K b) σ H Q:=by
 obtain ⟨G,F,ρ,Qd,R,w,k⟩:=h
 refine ⟨G,F,ρ,_,R,w,fun v H' F' r ρ' sb R' r' q=>?_⟩
 split at q
 ·rename_i c
  cases r'
  refine ⟨c,rfl,?_⟩
  cases c with
  | true=>exact ⟨G,F',ρ',Qd,R',q,fun v H2 F2 r ρ2 s2 R2 r2 q2=>k v H2 F2 r ρ2 (sb.trans s2) R2 r2 q2⟩
  | false=>exact k _ H' F' (.fz (.bool false)) ρ' sb R' (Da.bl false) q
 ·exact q.elim
theorem l_orV (h:lift K (dOrV a b) σ H Q):tOrV (lift K a) (lift K b) σ H Q:=by
 obtain ⟨G,F,ρ,Qd,R,w,k⟩:=h
 refine ⟨G,F,ρ,_,R,w,fun v H' F' r ρ' sb R' r' q=>?_⟩
 split at q
 ·rename_i c
  cases r'
  refine ⟨c,rfl,?_⟩
  cases c with
  | true=>exact k _ H' F' (.fz (.bool true)) ρ' sb R' (Da.bl true) q
  | false=>exact ⟨G,F',ρ',Qd,R',q,fun v H2 F2 r ρ2 s2 R2 r2 q2=>k v H2 F2 r ρ2 (sb.trans s2) R2 r2 q2⟩
 ·exact q.elim
theorem l_notV (h:lift K (dNotV a) σ H Q):tNotV (lift K a) σ H Q:=by
 obtain ⟨G,F,ρ,Qd,R,w,k⟩:=h
 refine ⟨G,F,ρ,_,R,w,fun v H' F' r ρ' sb R' r' q=>?_⟩
 split at q
 ·rename_i c
  cases r'
  exact ⟨c,rfl,k _ H' F' (.fz (.bool (!c))) ρ' sb R' (Da.bl (!c)) q⟩
 ·exact q.elim
end
theorem noIo_of {ρ:Ev} {i:Nat} {P:Prop} (h:match ρ[i]? with | some (some (.io _))=>False | some _=>P | none=>False):noIo ρ i /\ P:=by
 unfold noIo
 cases e:ρ[i]? with
 | none=>rw [e] at h; exact h.elim
 | some x =>
  rw [e] at h
  cases x with
  | none=>exact ⟨trivial,h⟩
  | some s=>cases s with
   | fz d=>exact ⟨trivial,h⟩
   | ow d=>exact ⟨trivial,h⟩
   | io d=>exact h.elim
structure DE where
 nx:Ev -> Prop
 rt:Sl -> Ev -> Prop
 bk:Ev -> Prop
 ct:Ev -> Prop
noncomputable abbrev TDS:=DE -> Ev -> Prop
noncomputable def liftS (K:Fg) (ts:TDS):TS:=fun D σ H=>∃ (G:Gh) (F:Hp) (ρ:Ev) (E:DE),Rel K G F σ H ρ /\ ts E ρ /\
 (∀ σ' H' F' ρ',Sub F F' -> Rel K G F' σ' H' ρ' -> E.nx ρ' -> D.nx σ' H') /\
 (∀ v σ' H' F' r ρ',Sub F F' -> Rel K G F' σ' H' ρ' -> Res K G F' H' σ' ρ' v r -> E.rt r ρ' -> D.rt v H') /\
 (∀ σ' H' F' ρ',Sub F F' -> Rel K G F' σ' H' ρ' -> E.bk ρ' -> D.bk σ' H') /\
 (∀ σ' H' F' ρ',Sub F F' -> Rel K G F' σ' H' ρ' -> E.ct ρ' -> D.ct σ' H')
noncomputable def dNext:TDS:=fun E ρ=>E.nx ρ
noncomputable def dSeq (t u:TDS):TDS:=fun E ρ=>t { nx:=fun ρ'=>u E ρ',rt:=E.rt,bk:=E.bk,ct:=E.ct } ρ
noncomputable def dRet (a:TD):TDS:=fun E ρ=>a ρ E.rt
noncomputable def dDrop (a:TD):TDS:=fun E ρ=>a ρ fun _ ρ'=>E.nx ρ'
noncomputable def dIfS (c:TTD) (t u:TDS):TDS:=fun E ρ=>c ρ fun b ρ'=>if b = true then t E ρ' else u E ρ'
noncomputable def dSet (i:Nat) (a:TD):TDS:=fun E ρ=>a ρ fun r ρ'=>match ρ'[i]? with
 | some (some (.io _))=>False
 | some _=>E.nx (ρ'.set i (some r))
 | none=>False
section
variable {K:Fg} {σ:St} {H:Hp} {E:Ends} {t u:TDS} {a:TD} {c:TTD}
theorem l_next (h:liftS K dNext E σ H):tNext E σ H:=by
 obtain ⟨G,F,ρ,D,R,w,n,r,b,c⟩:=h
 exact n σ H F ρ (Sub.refl _) R w
theorem later {G:Gh} {F F1 H1:Hp} {ρ1:Ev} {σ1:St} {D:DE} {ts:TDS} (s:Sub F F1) (R:Rel K G F1 σ1 H1 ρ1) (w:ts D ρ1)
  (n:∀ σ' H' F' ρ',Sub F F' -> Rel K G F' σ' H' ρ' -> D.nx ρ' -> E.nx σ' H')
  (r:∀ v σ' H' F' r ρ',Sub F F' -> Rel K G F' σ' H' ρ' -> Res K G F' H' σ' ρ' v r -> D.rt r ρ' -> E.rt v H')
  (b:∀ σ' H' F' ρ',Sub F F' -> Rel K G F' σ' H' ρ' -> D.bk ρ' -> E.bk σ' H')
  (c:∀ σ' H' F' ρ',Sub F F' -> Rel K G F' σ' H' ρ' -> D.ct ρ' -> E.ct σ' H'):liftS K ts E σ1 H1 :=
 ⟨G,F1,ρ1,D,R,w,fun _ _ _ _ s' R' q=>n _ _ _ _ (s.trans s') R' q,fun _ _ _ _ _ _ s' R' r' q=>r _ _ _ _ _ _ (s.trans s') R' r' q,
   fun _ _ _ _ s' R' q=>b _ _ _ _ (s.trans s') R' q,fun _ _ _ _ s' R' q=>c _ _ _ _ (s.trans s') R' q⟩
theorem l_seq (h:liftS K (dSeq t u) E σ H):tSeq (liftS K t) (liftS K u) E σ H:=by
 obtain ⟨G,F,ρ,D,R,w,n,r,b,c⟩:=h
 exact ⟨G,F,ρ,_,R,w,fun σ' H' F' ρ' s R' q=>later s R' q n r b c,r,b,c⟩
theorem l_ret (h:liftS K (dRet a) E σ H):tRet (lift K a) E σ H:=by
 obtain ⟨G,F,ρ,D,R,w,n,r,b,c⟩:=h
 exact ⟨G,F,ρ,_,R,w,fun v H' F' x ρ' s R' r' q=>r v σ H' F' x ρ' s R' r' q⟩
theorem l_drop (h:liftS K (dDrop a) E σ H):tDrop (lift K a) E σ H:=by
 obtain ⟨G,F,ρ,D,R,w,n,r,b,c⟩:=h
 exact ⟨G,F,ρ,_,R,w,fun v H' F' x ρ' s R' r' q=>n σ H' F' ρ' s R' q⟩
theorem l_ifS (h:liftS K (dIfS c t u) E σ H):tIfS (liftT K c) (liftS K t) (liftS K u) E σ H:=by
 obtain ⟨G,F,ρ,D,R,w,n,r,b,c⟩:=h
 refine ⟨G,F,ρ,_,R,w,fun x H' F' ρ' s R' q=>?_⟩
 cases x with
 | true=>exact later s R' q n r b c
 | false=>exact later s R' q n r b c
theorem l_set {i:Nat} (h:liftS K (dSet i a) E σ H):tAsg (lift K a) (gName i) E σ H:=by
 obtain ⟨G,F,ρ,D,R,w,n,r,b,c⟩:=h
 refine ⟨G,F,ρ,_,R,w,fun v H' F' x ρ' s R' r' q=>?_⟩
 have hn:=noIo_of q
 exact n _ H' F' _ s (R'.asg hn.1 r') hn.2
end
noncomputable def dRetV (i:Nat):TDS:=fun E ρ=>match ρ[i]? with
 | some (some (.fz d))=>E.rt (.fz d) ρ
 | some (some (.ow d))=>E.rt (.ow d) (ρ.set i none)
 | _=>False
noncomputable def dMove (i j:Nat):TDS:=fun E ρ=>match ρ[j]? with
 | some (some (.fz d))=>(match ρ[i]? with
   | some (some (.io _))=>False
   | some _=>E.nx (ρ.set i (some (.fz d)))
   | none=>False)
 | some (some (.ow d))=>(match (ρ.set j none)[i]? with
   | some (some (.io _))=>False
   | some _=>E.nx ((ρ.set j none).set i (some (.ow d)))
   | none=>False)
 | _=>False
section
variable {K:Fg} {σ:St} {H:Hp} {E:Ends}
theorem l_retV {i:Nat} (h:liftS K (dRetV i) E σ H):tRet (tVar i) E σ H:=by
 obtain ⟨G,F,ρ,D,R,w,n,r,b,c⟩:=h
 unfold dRetV at w
 split at w
 ·rename_i d e
  obtain ⟨v,e1,h1⟩:=R.fz i d e
  exact ⟨v,e1,r v σ H F (.fz d) ρ (Sub.refl _) R h1 w⟩
 ·rename_i d e
  obtain ⟨v,e1,h1⟩:=R.forgetRes e
  exact ⟨v,e1,r v σ H F (.ow d) _ (Sub.refl _) (R.forget e) h1 w⟩
 ·exact w.elim
theorem l_move {i j:Nat} (h:liftS K (dMove i j) E σ H):tAsg (tVar j) (gName i) E σ H:=by
 obtain ⟨G,F,ρ,D,R,w,n,r,b,c⟩:=h
 unfold dMove at w
 split at w
 ·rename_i d e
  obtain ⟨v,e1,h1⟩:=R.fz j d e
  obtain ⟨hn,w⟩:=noIo_of w
  exact ⟨v,e1,n _ H F _ (Sub.refl _) (R.asg (s:=.fz d) hn h1) w⟩
 ·rename_i d e
  obtain ⟨v,e1,h1⟩:=R.forgetRes e
  obtain ⟨hn,w⟩:=noIo_of w
  exact ⟨v,e1,n _ H F _ (Sub.refl _) ((R.forget e).asg (s:=.ow d) hn h1) w⟩
 ·exact w.elim
end
noncomputable abbrev TDG:=D -> Ev -> (Ev -> Prop) -> Prop
noncomputable def liftG (K:Fg) (g:TDG):TG:=fun v σ H Q=>∃ (G:Gh) (F:Hp) (ρ:Ev) (d:D) (Qd:Ev -> Prop),Rel K G F σ H ρ /\ Da K F v d /\ g d ρ Qd /\ ∀ σ' ρ',Rel K G F σ' H ρ' -> Qd ρ' -> Q σ' H
noncomputable def dGN (i:Nat):TDG:=fun d ρ Q=>match ρ[i]? with
 | some (some (.io _))=>False
 | some _=>Q (ρ.set i (some (.fz d)))
 | none=>False
noncomputable def dGs:List TDG -> List D -> Ev -> (Ev -> Prop) -> Prop
 | [],[],ρ,Q=>Q ρ
 | g :: gs,d :: ds,ρ,Q=>g d ρ fun ρ'=>dGs gs ds ρ' Q
 | _,_,_,_=>False
noncomputable def dGT (gs:List TDG):TDG:=fun d ρ Q=>match d with
 | .tuple ds=>ds.length = gs.length /\ dGs gs ds ρ Q
 | _=>False
noncomputable def gAll:List TG -> TGs
 | []=>gNil
 | g :: gs=>gCons g (gAll gs)
section
variable {K:Fg} {σ:St} {H:Hp} {v:V} {Q:St -> Hp -> Prop}
theorem l_gn {i:Nat} (h:liftG K (dGN i) v σ H Q):gName i v σ H Q:=by
 obtain ⟨G,F,ρ,d,Qd,R,hd,w,k⟩:=h
 obtain ⟨hn,w⟩:=noIo_of w
 exact k _ _ (R.asg (s:=.fz d) hn hd) w
theorem l_gs {G:Gh} {F:Hp}:∀ {gs:List TDG} {ds:List D} {vs:List V} {σ:St} {ρ:Ev} {Qd:Ev -> Prop},Rel K G F σ H ρ -> DaAll K F vs ds -> dGs gs ds ρ Qd -> (∀ σ' ρ',Rel K G F σ' H ρ' -> Qd ρ' -> Q σ' H) -> gAll (gs.map (liftG K)) vs σ H Q
 | [],[],_,σ,ρ,Qd,R,.nil,w,k=>⟨rfl,k σ ρ R w⟩
 | g :: gs,d :: ds,_,σ,ρ,Qd,R,.cons h t,w,k=>⟨_,_,rfl,G,F,ρ,d,_,R,h,w,fun σ' ρ' R' w'=>l_gs (gs:=gs) R' t w' k⟩
 | [],_ :: _,_,σ,ρ,Qd,R,_,w,k=>by exact w.elim
 | _ :: _,[],_,σ,ρ,Qd,R,_,w,k=>by exact w.elim
theorem l_gt {gs:List TDG} {n:Nat} (hn:gs.length = n) (h:liftG K (dGT gs) v σ H Q):gTup K n (gAll (gs.map (liftG K))) v σ H Q:=by
 obtain ⟨G,F,ρ,d,Qd,R,hd,w,k⟩:=h
 unfold dGT at w
 split at w
 ·cases hd with
  | tup e t=>exact ⟨_,_,rfl,SqT.of (R.sub _ _ e),by rw [t.length,w.1,hn],l_gs R t w.2 k⟩
 ·exact w.elim
end
end L3
namespace L3
open PySem PySem.Spec L2
noncomputable def Walks (K:Fg) (J:It) (F:Hp) (ds:List D):Prop:=∀ (i:Nat) (H F1:Hp),Sub F F1 -> Sub F1 H ->
 (∀ d,ds[i]? = some d -> J.go i H /\ ∀ x H',J.yld i H x H' -> ∃ F2,Sub F1 F2 /\ (∀ b o,F2 b = some o -> F1 b = some o \/ H b = none) /\ Sub F2 H' /\ Sub H H' /\ Da K F2 x d) /\ (ds.length = i -> J.stop i H)
noncomputable abbrev TDI:=Ev -> (List D -> Ev -> Prop) -> Prop
noncomputable def liftI (K:Fg) (ti:TDI):TI:=fun σ H R=>∃ (G:Gh) (F:Hp) (ρ:Ev) (Qd:List D -> Ev -> Prop),Rel K G F σ H ρ /\ ti ρ Qd /\
 ∀ J H' F' ds ρ',Sub F F' -> Rel K G F' σ H' ρ' -> Walks K J F' ds -> Qd ds ρ' -> R J H'
theorem Rel.turn {K:Fg} {G:Gh} {F F2 H H':Hp} {σ:St} {ρ:Ev} (R:Rel K G F σ H ρ) (s:Sub F F2) (n:∀ b o,F2 b = some o -> F b = some o \/ H b = none) (s2:Sub F2 H') (s3:Sub H H'):Rel K G F2 σ H' ρ where
 len:=R.len
 sub:=s2
 sub0:=R.sub0.trans s
 fn:=fun b o e=>by
  rcases n b o e with q | q
  ·exact R.fn b o q
  ·exact .inr (R.h0 q)
 keep:=fun a o e m=>s3 _ _ (R.keep a o e m)
 fz:=fun i d e=>by
  obtain ⟨v,h1,h2⟩:=R.fz i d e
  exact ⟨v,h1,h2.mono s⟩
 ow:=fun i t e w=>by
  obtain ⟨a,o,h1,h2,h3,h4⟩:=R.ow i t e w
  refine ⟨a,o,h1,?_,s3 _ _ h3,h4.mono s⟩
  cases q:F2 a with
  | none=>rfl
  | some u =>
   rcases n a u q with z | z
   ·rw [h2] at z; cases z
   ·rw [h3] at z; cases z
 new:=R.new
 io:=R.io
 ioi:=R.ioi
 ap:=R.ap
theorem drop_get {α:Type} {l:List α} {i:Nat} {x:α} (h:l[i]? = some x):l.drop i = x :: l.drop (i + 1):=by
 obtain ⟨hl,rfl⟩:=List.getElem?_eq_some_iff.mp h
 exact List.drop_eq_getElem_cons hl
noncomputable def dWhile (c:TTD) (tb:TDS):TDS:=fun E ρ=>∃ W:Nat -> Ev -> Prop,(∃ m,W m ρ) /\ ∀ m ρ,W m ρ -> c ρ fun b ρ1=>if b = true then
 ∃ N:Ev -> Prop,(∀ ρ',N ρ' -> ∃ m',m' < m /\ W m' ρ') /\ tb { nx:=N,rt:=E.rt,bk:=E.nx,ct:=N } ρ1 else E.nx ρ1
theorem l_while {K:Fg} {c:TTD} {tb:TDS} {E:Ends} {σ:St} {H:Hp} (h:liftS K (dWhile c tb) E σ H):tWhile (liftT K c) (liftS K tb) E σ H:=by
 obtain ⟨G,F,ρ,D,R,⟨W,⟨m0,w0⟩,st⟩,n,r,b,c⟩:=h
 refine ⟨fun m σ H=>∃ F' ρ',Sub F F' /\ Rel K G F' σ H ρ' /\ W m ρ',⟨m0,F,ρ,Sub.refl _,R,w0⟩,?_⟩
 rintro m σ H ⟨F',ρ',s',R',w'⟩
 refine ⟨G,F',ρ',_,R',st m ρ' w',fun x H1 F1 ρ1 s1 R1 q=>?_⟩
 cases x with
 | false=>exact n σ H1 F1 ρ1 (s'.trans s1) R1 q
 | true =>
  obtain ⟨N,hN,q⟩:=q
  refine ⟨fun σ2 H2=>∃ F2 ρ2,Sub F F2 /\ Rel K G F2 σ2 H2 ρ2 /\ N ρ2,fun σ2 H2 ⟨F2,ρ2,z1,z2,z3⟩=>?_,?_⟩
  ·obtain ⟨m',hm,hw⟩:=hN ρ2 z3
   exact ⟨m',hm,F2,ρ2,z1,z2,hw⟩
  ·refine ⟨G,F1,ρ1,_,R1,q,fun σ4 H4 F4 ρ4 s4 R4 q=>?_,fun v σ4 H4 F4 x4 ρ4 s4 R4 r4 q=>?_,fun σ4 H4 F4 ρ4 s4 R4 q=>?_,fun σ4 H4 F4 ρ4 s4 R4 q=>?_⟩
   ·exact ⟨F4,ρ4,s'.trans (s1.trans s4),R4,q⟩
   ·exact r v σ4 H4 F4 x4 ρ4 (s'.trans (s1.trans s4)) R4 r4 q
   ·exact n σ4 H4 F4 ρ4 (s'.trans (s1.trans s4)) R4 q
   ·exact ⟨F4,ρ4,s'.trans (s1.trans s4),R4,q⟩
noncomputable def capt:Option Sl -> Option Sl
 | some (.ow d)=>some (.io d)
 | x=>x
noncomputable def innerE (own:List Str) (fr:List Nat) (ρ:Ev):Ev:=own.map (fun _=>none) ++ fr.map fun i=>capt ((ρ[i]?).getD none)
noncomputable def wb1:Option Sl -> Option (Option Sl) -> Option Sl
 | some (.ow d),some (some (.io d'))=>some (.ow d')
 | some (.io d),some (some (.io d'))=>some (.io d')
 | x,_=>x
noncomputable def wbGo (fr:List Nat) (τ:Ev):Nat -> Ev -> Ev
 | _,[]=>[]
 | j,x :: ρ=>wb1 x ((fr.zip τ).lookup j) :: wbGo fr τ (j + 1) ρ
theorem wbGo_get (fr:List Nat) (τ:Ev):∀ (ρ:Ev) (j i:Nat),(wbGo fr τ j ρ)[i]? = (ρ[i]?).map fun x=>wb1 x ((fr.zip τ).lookup (j + i))
 | [],j,i=>by simp [wbGo]
 | x :: ρ,j,0=>by simp [wbGo]
 | x :: ρ,j,i + 1=>by
  have:=wbGo_get fr τ ρ (j + 1) i
  simp only [wbGo,List.getElem?_cons_succ]
  rw [this,show j + 1 + i = j + (i + 1) by omega]
theorem wbGo_len (fr:List Nat) (τ:Ev):∀ (ρ:Ev) (j:Nat),(wbGo fr τ j ρ).length = ρ.length
 | [],_=>rfl
 | x :: ρ,j=>by simp [wbGo,wbGo_len fr τ ρ (j + 1)]
theorem zip_lookup:∀ {fr:List Nat} {τ:Ev} {k i:Nat} {x:Option Sl},fr.Nodup -> fr[k]? = some i -> τ[k]? = some x -> (fr.zip τ).lookup i = some x
 | [],_,_,_,_,_,e,_=>by simp at e
 | j :: fr,[],_,_,_,_,_,e=>by simp at e
 | j :: fr,y :: τ,0,i,x,_,e,e'=>by simp at e e'; subst e e'; simp [List.lookup]
 | j :: fr,y :: τ,k + 1,i,x,nd,e,e'=>by
  have nd':=List.nodup_cons.mp nd
  simp at e e'
  have hm:i ∈ fr:=List.mem_of_getElem? e
  have ne:(i == j) = false:=by simp; intro z; subst z; exact nd'.1 hm
  simp [List.lookup,ne]
  exact zip_lookup nd'.2 e e'
theorem zip_lookup_mem:∀ {fr:List Nat} {τ:Ev} {i:Nat} {x:Option Sl},(fr.zip τ).lookup i = some x -> ∃ k:Nat,fr[k]? = some i /\ τ[k]? = some x
 | [],_,_,_,e=>by simp at e
 | j :: fr,[],_,_,e=>by simp at e
 | j :: fr,y :: τ,i,x,e=>by
  by_cases z:i = j
  ·subst z; simp [List.lookup] at e; subst e; exact ⟨0,by simp,by simp⟩
  ·have ne:(i == j) = false:=by simp [z]
   simp [List.lookup,ne] at e
   obtain ⟨k,h1,h2⟩:=zip_lookup_mem e
   exact ⟨k + 1,by simpa using h1,by simpa using h2⟩
end L3
namespace L3
open PySem PySem.Spec L2
noncomputable def ioOf (σ:St) (ρ:Ev) (i:Nat):Option Addr:=match ρ[i]?,σ[i]? with
 | some (some s),some (some (.ref a))=>if isOw s = true then some a else none
 | _,_=>none
theorem ioOf_some {σ:St} {ρ:Ev} {i:Nat} {a:Addr} (h:ioOf σ ρ i = some a):∃ s,ρ[i]? = some (some s) /\ isOw s = true /\ σ[i]? = some (some (V.ref a)):=by
 unfold ioOf at h
 split at h
 ·rename_i s b e1 e2
  split at h
  ·rename_i w; cases h; exact ⟨s,e1,w,e2⟩
  ·cases h
 ·cases h
theorem ioOf_of {σ:St} {ρ:Ev} {i:Nat} {a:Addr} {s:Sl} (h1:ρ[i]? = some (some s)) (h2:isOw s = true) (h3:σ[i]? = some (some (V.ref a))):ioOf σ ρ i = some a:=by
 unfold ioOf; rw [h1,h3]; simp [h2]
noncomputable def ghC (own:List Str) (fr:List Nat) (F H:Hp) (σ:St) (ρ:Ev):Gh:=⟨H,F,fun j=>if own.length <= j then (match fr[j - own.length]? with | some i=>ioOf σ ρ i | none=>none) else none⟩
theorem ghC_io {own:List Str} {fr:List Nat} {F H:Hp} {σ:St} {ρ:Ev} {j:Nat} {a:Addr} (h:(ghC own fr F H σ ρ).io j = some a):∃ k i s,j = own.length + k /\ fr[k]? = some i /\ ρ[i]? = some (some s) /\ isOw s = true /\ σ[i]? = some (some (V.ref a)):=by
 unfold ghC at h
 simp only at h
 split at h
 ·rename_i hl
  split at h
  ·rename_i i e
   obtain ⟨s,h1,h2,h3⟩:=ioOf_some h
   exact ⟨j - own.length,i,s,by omega,e,h1,h2,h3⟩
  ·cases h
 ·cases h
theorem ghC_of {own:List Str} {fr:List Nat} {F H:Hp} {σ:St} {ρ:Ev} {k i:Nat} {a:Addr} {s:Sl} (h0:fr[k]? = some i) (h1:ρ[i]? = some (some s)) (h2:isOw s = true) (h3:σ[i]? = some (some (V.ref a))):(ghC own fr F H σ ρ).io (own.length + k) = some a:=by
 unfold ghC
 simp only
 rw [if_pos (Nat.le_add_right _ _),Nat.add_sub_cancel_left,h0]
 exact ioOf_of h1 h2 h3
theorem inner_get {α:Type} {own:List Str} {fr:List Nat} {f:Nat -> Option α} {j:Nat} {x:α} (h:(own.map (fun _=>(none:Option α)) ++ fr.map f)[j]? = some (some x)):∃ k i,j = own.length + k /\ fr[k]? = some i /\ f i = some x:=by
 by_cases hl:j < own.length
 ·rw [List.getElem?_append_left (by simpa using hl)] at h
  simp at h
 ·rw [List.getElem?_append_right (by simpa using Nat.le_of_not_lt hl)] at h
  simp at h
  obtain ⟨i,h1,h2⟩:=h
  exact ⟨j - own.length,i,by omega,h1,h2⟩
theorem inner_of {α:Type} {own:List Str} {fr:List Nat} {f:Nat -> Option α} {k i:Nat} (h:fr[k]? = some i):(own.map (fun _=>(none:Option α)) ++ fr.map f)[own.length + k]? = some (f i):=by
 rw [List.getElem?_append_right (by simp)]
 simp [h]
theorem capt_get {x:Option Sl} {s:Sl} (h:capt x = some s):∃ s0,x = some s0 /\ ((∃ d,s0 = .fz d /\ s = .fz d) \/ (isOw s0 = true /\ s = .io s0.d)):=by
 cases x with
 | none=>cases h
 | some s0 =>
  cases s0 with
  | fz d=>cases h; exact ⟨_,rfl,.inl ⟨d,rfl,rfl⟩⟩
  | ow d=>cases h; exact ⟨_,rfl,.inr ⟨rfl,rfl⟩⟩
  | io d=>cases h; exact ⟨_,rfl,.inr ⟨rfl,rfl⟩⟩
theorem getD_some {α:Type} {o:Option (Option α)} {x:α} (h:o.getD none = some x):o = some (some x):=by
 cases o with
 | none=>cases h
 | some y=>simp at h; rw [h]
section
variable {K:Fg} {G:Gh} {F F' H H':Hp} {σ τ:St} {ρ μ:Ev} {own:List Str} {fr:List Nat}
theorem innerE_get {j:Nat} {s:Sl} (h:(innerE own fr ρ)[j]? = some (some s)):∃ k i s0,j = own.length + k /\ fr[k]? = some i /\ ρ[i]? = some (some s0) /\ ((∃ d,s0 = .fz d /\ s = .fz d) \/ (isOw s0 = true /\ s = .io s0.d)):=by
 obtain ⟨k,i,h1,h2,h3⟩:=inner_get h
 obtain ⟨s0,h4,h5⟩:=capt_get h3
 exact ⟨k,i,s0,h1,h2,getD_some h4,h5⟩
theorem st0_of {k i:Nat} (h:fr[k]? = some i):(st0 own σ fr)[own.length + k]? = some ((σ[i]?).getD none):=inner_of (f:=fun i=>(σ[i]?).getD none) h
theorem innerE_of {k i:Nat} (h:fr[k]? = some i):(innerE own fr ρ)[own.length + k]? = some (capt ((ρ[i]?).getD none)):=inner_of (f:=fun i=>capt ((ρ[i]?).getD none)) h
theorem nodup_at {fr:List Nat} (nd:fr.Nodup) {k l i:Nat} (a:fr[k]? = some i) (b:fr[l]? = some i):k = l:=by
 obtain ⟨h1,e1⟩:=List.getElem?_eq_some_iff.mp a
 obtain ⟨h2,e2⟩:=List.getElem?_eq_some_iff.mp b
 exact (List.getElem_inj nd).mp (e1.trans e2.symm)
theorem Rel.inner (R:Rel K G F σ H ρ) (nd:fr.Nodup):Rel K (ghC own fr F H σ ρ) F (st0 own σ fr) H (innerE own fr ρ) where
 len:=by simp [st0,frS,innerE]
 sub:=R.sub
 sub0:=Sub.refl _
 fn:=fun _ _ e=>.inl e
 keep:=fun _ _ e _=>e
 fz:=fun j d e=>by
  obtain ⟨k,i,s0,rfl,h2,h3,h4⟩:=innerE_get e
  rcases h4 with ⟨d0,rfl,z⟩ | ⟨_,z⟩
  ·cases z
   obtain ⟨v,e1,e2⟩:=R.fz i d h3
   exact ⟨v,by rw [st0_of h2,e1]; rfl,e2⟩
  ·cases z
 ow:=fun j s e w=>by
  obtain ⟨k,i,s0,rfl,h2,h3,h4⟩:=innerE_get e
  rcases h4 with ⟨d0,rfl,z⟩ | ⟨w0,z⟩
  ·cases z; cases w
  ·cases z
   obtain ⟨a,o,e1,e2,e3,e4⟩:=R.ow i s0 h3 w0
   exact ⟨a,o,by rw [st0_of h2,e1]; rfl,e2,e3,e4⟩
 new:=fun j d a e _=>by
  obtain ⟨k,i,s0,rfl,h2,h3,h4⟩:=innerE_get e
  rcases h4 with ⟨d0,rfl,z⟩ | ⟨w0,z⟩ <;> cases z
 io:=fun j a e=>by
  obtain ⟨k,i,s,rfl,h1,h2,h3,h4⟩:=ghC_io e
  refine ⟨s.d,?_,by rw [st0_of h1,h4]; rfl⟩
  rw [innerE_of h1,h2]
  cases s <;> first | rfl | cases h3
 ioi:=fun j d e=>by
  obtain ⟨k,i,s0,rfl,h2,h3,h4⟩:=innerE_get e
  rcases h4 with ⟨d0,rfl,z⟩ | ⟨w0,z⟩
  ·cases z
  ·obtain ⟨a,o,e1,_⟩:=R.ow i s0 h3 w0
   exact ⟨a,ghC_of h2 h3 w0 e1⟩
 ap:=fun j l s t a e1 w1 e2 w2 e3 e4=>by
  obtain ⟨k,i,s0,rfl,h2,h3,h4⟩:=innerE_get e1
  obtain ⟨k',i',s0',rfl,h2',h3',h4'⟩:=innerE_get e2
  have p1:isOw s0 = true:=by
   rcases h4 with ⟨d0,rfl,z⟩ | ⟨w0,z⟩
   ·subst z; cases w1
   ·exact w0
  have p2:isOw s0' = true:=by
   rcases h4' with ⟨d0,rfl,z⟩ | ⟨w0,z⟩
   ·subst z; cases w2
   ·exact w0
  rw [st0_of h2] at e3
  rw [st0_of h2'] at e4
  have q:=R.ap i i' s0 s0' a h3 p1 h3' p2 (getD_some (Option.some.inj e3)) (getD_some (Option.some.inj e4))
  subst q
  rw [nodup_at nd h2 h2']
theorem wb_cases (R:Rel K G F σ H ρ) (R':Rel K (ghC own fr F H σ ρ) F' τ H' μ) (nd:fr.Nodup) {i:Nat} {s:Sl} (h:(wbGo fr (μ.drop own.length) 0 ρ)[i]? = some (some s)) :
  ∃ s0,ρ[i]? = some (some s0) /\ ((s = s0 /\ (isOw s0 = true -> i ∉ fr)) \/ (isOw s0 = true /\ ∃ k d',fr[k]? = some i /\ μ[own.length + k]? = some (some (Sl.io d')) /\ s = s0.put d')):=by
 rw [wbGo_get] at h
 cases e:ρ[i]? with
 | none=>rw [e] at h; cases h
 | some x =>
  rw [e] at h
  simp only [Option.map_some,Nat.zero_add] at h
  have h:=Option.some.inj h
  cases x with
  | none=>simp [wb1] at h
  | some s0 =>
   refine ⟨s0,rfl,?_⟩
   by_cases w0:isOw s0 = true
   ·by_cases hm:i ∈ fr
    ·obtain ⟨k,hk⟩:=List.mem_iff_getElem?.mp hm
     obtain ⟨a,o,e1,_⟩:=R.ow i s0 e w0
     obtain ⟨d',g1,g2⟩:=R'.io _ _ (ghC_of (own:=own) (F:=F) (H:=H) hk e w0 e1)
     have z:=zip_lookup (τ:=μ.drop own.length) nd hk (by rw [List.getElem?_drop]; exact g1)
     rw [z] at h
     refine .inr ⟨w0,k,d',hk,g1,?_⟩
     cases s0 with
     | fz d=>cases w0
     | ow d=>simp [wb1] at h; exact h.symm
     | io d=>simp [wb1] at h; exact h.symm
    ·refine .inl ⟨?_,fun _=>hm⟩
     have z:(fr.zip (μ.drop own.length)).lookup i = none:=by
      cases q:(fr.zip (μ.drop own.length)).lookup i with
      | none=>rfl
      | some y =>
       obtain ⟨k,h1,_⟩:=zip_lookup_mem q
       exact (hm (List.mem_of_getElem? h1)).elim
     rw [z] at h
     cases s0 with
     | fz d=>cases w0
     | ow d=>simp [wb1] at h; exact h.symm
     | io d=>simp [wb1] at h; exact h.symm
   ·refine .inl ⟨?_,fun z=>(w0 z).elim⟩
    cases s0 with
    | fz d=>simp [wb1] at h; exact h.symm
    | ow d=>exact (w0 rfl).elim
    | io d=>exact (w0 rfl).elim
theorem wb1_io {d:D} (x:Option (Option Sl)):∃ d',wb1 (some (.io d)) x = some (.io d'):=by
 rcases x with _ | _ | (d' | d' | d')
 ·exact ⟨d,rfl⟩
 ·exact ⟨d,rfl⟩
 ·exact ⟨d,rfl⟩
 ·exact ⟨d,rfl⟩
 ·exact ⟨d',rfl⟩
theorem Rel.outer (R:Rel K G F σ H ρ) (R':Rel K (ghC own fr F H σ ρ) F' τ H' μ) (nd:fr.Nodup):Rel K G F' σ H' (wbGo fr (μ.drop own.length) 0 ρ):=by
 have sb:Sub F F':=R'.sub0
 have owns:∀ {i:Nat} {s:Sl},(wbGo fr (μ.drop own.length) 0 ρ)[i]? = some (some s) -> isOw s = true -> ∃ s0,ρ[i]? = some (some s0) /\ isOw s0 = true:=fun {i s} e w=>by
  obtain ⟨s0,h1,h2⟩:=wb_cases R R' nd e
  rcases h2 with ⟨rfl,_⟩ | ⟨w0,_⟩
  ·exact ⟨s,h1,w⟩
  ·exact ⟨s0,h1,w0⟩
 refine ⟨by rw [wbGo_len]; exact R.len,R'.sub,R.sub0.trans sb,fun a o e=>?_,fun a o e n=>?_,fun i d e=>?_,fun i s e w=>?_,fun i d a e ea=>?_,fun i a e=>?_,fun i d e=>?_,fun i j s t a e1 w1 e2 w2 e3 e4=>?_⟩
 ·rcases R'.fn a o e with q | q
  ·exact R.fn a o q
  ·exact .inr (R.h0 q)
 ·refine R'.keep a o (R.keep a o e n) fun j z=>?_
  obtain ⟨k,i,s,rfl,h1,h2,h3,h4⟩:=ghC_io z
  cases s with
  | fz d=>cases h3
  | ow d=>rw [R.new i d a h2 h4] at e; cases e
  | io d =>
   obtain ⟨a',g⟩:=R.ioi i d h2
   obtain ⟨_,_,g2⟩:=R.io i a' g
   rw [h4] at g2; cases g2
   exact n i g
 ·obtain ⟨s0,h1,h2⟩:=wb_cases R R' nd e
  rcases h2 with ⟨rfl,_⟩ | ⟨w0,k,d',_,_,z⟩
  ·obtain ⟨v,g1,g2⟩:=R.fz i d h1
   exact ⟨v,g1,g2.mono sb⟩
  ·cases s0 <;> simp [Sl.put,isOw] at z w0
 ·obtain ⟨s0,h1,h2⟩:=wb_cases R R' nd e
  rcases h2 with ⟨rfl,hm⟩ | ⟨w0,k,d',hk,hd,rfl⟩
  ·obtain ⟨a,o,g1,g2,g3,g4⟩:=R.ow i s h1 w
   have nio:∀ j,(ghC own fr F H σ ρ).io j ≠ some a:=fun j z=>by
    obtain ⟨k,i',s',rfl,q1,q2,q3,q4⟩:=ghC_io z
    have:=R.ap i i' s s' a h1 w q2 q3 g1 q4
    subst this
    exact hm w (List.mem_of_getElem? q1)
   refine ⟨a,o,g1,?_,R'.keep a o g3 nio,g4.mono sb⟩
   cases q:F' a with
   | none=>rfl
   | some u =>
    rcases R'.fn a u q with z | z
    ·have z:F a = some u:=z
     rw [g2] at z; cases z
    ·have z:H a = none:=z
     rw [g3] at z; cases z
  ·obtain ⟨a,o,g1,g2,g3,g4⟩:=R.ow i s0 h1 w0
   obtain ⟨d2,q1,q2⟩:=R'.io _ _ (ghC_of (own:=own) (F:=F) (H:=H) hk h1 w0 g1)
   obtain ⟨a',o',p1,p2,p3,p4⟩:=R'.ow _ _ hd rfl
   rw [q2] at p1; cases p1
   exact ⟨a,o',g1,p2,p3,by cases s0 <;> first | exact p4 | cases w0⟩
 ·obtain ⟨s0,h1,h2⟩:=wb_cases R R' nd e
  rcases h2 with ⟨rfl,_⟩ | ⟨w0,k,d',_,_,z⟩
  ·exact R.new i d a h1 ea
  ·cases s0 with
   | fz d=>cases w0
   | ow d0=>exact R.new i d0 a h1 ea
   | io d0=>cases z
 ·obtain ⟨d,h1,h2⟩:=R.io i a e
  obtain ⟨d',hd⟩:=wb1_io (d:=d) ((fr.zip (μ.drop own.length)).lookup i)
  exact ⟨d',by rw [wbGo_get,h1]; simp only [Option.map_some,Nat.zero_add]; rw [hd],h2⟩
 ·obtain ⟨s0,h1,h2⟩:=wb_cases R R' nd e
  rcases h2 with ⟨rfl,_⟩ | ⟨w0,k,d',_,_,z⟩
  ·exact R.ioi i d h1
  ·cases s0 with
   | fz d=>cases w0
   | ow d0=>cases z
   | io d0=>exact R.ioi i d0 h1
 ·obtain ⟨s0,g1,g2⟩:=owns e1 w1
  obtain ⟨t0,g3,g4⟩:=owns e2 w2
  exact R.ap i j s0 t0 a g1 g2 g3 g4 e3 e4
end
end L3
namespace L3
open PySem PySem.Spec L2
noncomputable abbrev Con:=List Sl -> (Sl -> Ev -> Prop) -> Prop
noncomputable def conSp (K:Fg) (con:Con):Sp:=fun vs H Q _=>∃ (G:Gh) (F:Hp) (args:List Sl) (Qd:Sl -> Ev -> Prop),Rel K G F (vs.map some) H (args.map some) /\ con args Qd /\
 ∀ v H' F' r ρ',Sub F F' -> Rel K G F' (vs.map some) H' ρ' -> Res K G F' H' (vs.map some) ρ' v r -> Qd r ρ' -> Q v H'
mutual
noncomputable def noMut:D -> Bool
 | .none=>true
 | .bool _=>true
 | .int _=>true
 | .str _=>true
 | .tuple xs=>noMutAll xs
 | .list _=>false
 | .dict _=>false
noncomputable def noMutAll:List D -> Bool
 | []=>true
 | x :: xs=>noMut x && noMutAll xs
end
section
variable {K:Fg} {F F':Hp}
mutual
theorem Da.noMut (h:∀ b xs,F b = some (.tup xs) -> F' b = some (.tup xs)):∀ {v:V} {d:D},Da K F v d -> noMut d = true -> Da K F' v d
 | _,_,.non,_=>.non
 | _,_,.bl b,_=>.bl b
 | _,_,.int i,_=>.int i
 | _,_,.str x,_=>.str x
 | _,_,.lst _ _,z=>by simp [L3.noMut] at z
 | _,_,.tup e t,z=>.tup (h _ _ e) (DaAll.noMut h t (by simpa [L3.noMut] using z))
 | _,_,.dk _ _,z=>by simp [L3.noMut] at z
 | _,_,.dt _ _,z=>by simp [L3.noMut] at z
 | _,_,.scr _,z=>by simp [L3.noMut,scrD] at z
theorem DaAll.noMut (h:∀ b xs,F b = some (.tup xs) -> F' b = some (.tup xs)):∀ {xs:List V} {ds:List D},DaAll K F xs ds -> noMutAll ds = true -> DaAll K F' xs ds
 | _,_,.nil,_=>.nil
 | _,_,.cons a t,z=>by
  simp [noMutAll] at z
  exact .cons (Da.noMut h a z.1) (DaAll.noMut h t z.2)
end
end
noncomputable def lentAny (ρ:Ev):List Opd -> Bool
 | []=>false
 | .inr _ :: xs=>lentAny ρ xs
 | .inl i :: xs=>(match ρ[i]? with | some (some s)=>isOw s | _=>false) || lentAny ρ xs
noncomputable def dCall (con:Con) (as:List AD):TD:=fun ρ Q=>dArgs as ρ fun xs ρ1=>looksQ ρ1 xs fun ds=>con (ds.map Sl.fz) fun r _=>match lentAny ρ1 xs with
 | false=>Q r ρ1
 | true=>noMut r.d = true /\ Q r ρ1
noncomputable def callI (con:Con) (i:Nat) (xs:List Opd) (ρ1:Ev) (Q:Sl -> Ev -> Prop):Prop:=match ρ1[i]? with
 | some (some s)=>match isOw s,lentAny ρ1 xs with
  | true,false=>looksQ ρ1 xs fun ds=>con (.io s.d :: ds.map Sl.fz) fun r outs=>match outs with
   | some (.io d') :: _=>Q r (ρ1.set i (some (s.put d')))
   | _=>False
  | _,_=>False
 | _=>False
noncomputable def dCallI (con:Con) (i:Nat) (as:List AD):TD:=fun ρ Q=>dArgs (.inl i :: as) ρ fun xs ρ1=>callI con i xs.tail ρ1 Q
noncomputable def LentA (σ:St) (ρ:Ev) (xs:List Opd) (a:Addr):Prop:=∃ (i:Nat) (s:Sl),Sum.inl i ∈ xs /\ ρ[i]? = some (some s) /\ isOw s = true /\ σ[i]? = some (some (V.ref a))
theorem lentAny_of {σ:St} {ρ:Ev}:∀ {xs:List Opd} {a:Addr},LentA σ ρ xs a -> lentAny ρ xs = true
 | [],a,⟨i,s,h,_⟩=>by cases h
 | .inr d :: xs,a,⟨i,s,h,h1,h2,h3⟩=>by
  rcases List.mem_cons.mp h with h | h
  ·cases h
  ·exact lentAny_of (xs:=xs) ⟨i,s,h,h1,h2,h3⟩
 | .inl j :: xs,a,⟨i,s,h,h1,h2,h3⟩=>by
  unfold lentAny
  rcases List.mem_cons.mp h with h | h
  ·cases h; rw [h1]; simp [h2]
  ·rw [lentAny_of (xs:=xs) ⟨i,s,h,h1,h2,h3⟩]; simp
open Classical in
noncomputable def lend (σ:St) (ρ:Ev) (xs:List Opd) (F H:Hp):Hp:=fun b=>if LentA σ ρ xs b then H b else F b
open Classical in
noncomputable def unlend (σ:St) (ρ:Ev) (xs:List Opd) (F:Hp):Hp:=fun b=>if LentA σ ρ xs b then none else F b
section
variable {K:Fg} {G:Gh} {F F' H H':Hp} {σ:St} {ρ:Ev} {xs:List Opd}
theorem lend_not {b:Addr} (h:¬ LentA σ ρ xs b):lend σ ρ xs F H b = F b:=by unfold lend; rw [if_neg h]
theorem lend_is {b:Addr} (h:LentA σ ρ xs b):lend σ ρ xs F H b = H b:=by unfold lend; rw [if_pos h]
theorem unlend_not {b:Addr} (h:¬ LentA σ ρ xs b):unlend σ ρ xs F b = F b:=by unfold unlend; rw [if_neg h]
theorem unlend_is {b:Addr} (h:LentA σ ρ xs b):unlend σ ρ xs F b = none:=by unfold unlend; rw [if_pos h]
theorem LentA.own (R:Rel K G F σ H ρ) {b:Addr} (h:LentA σ ρ xs b):∃ (i:Nat) (s:Sl) (o:HO),ρ[i]? = some (some s) /\ isOw s = true /\ σ[i]? = some (some (V.ref b)) /\ F b = none /\ H b = some o /\ Own1 K F o s.d:=by
 obtain ⟨i,s,_,h1,h2,h3⟩:=h
 obtain ⟨a,o,g1,g2,g3,g4⟩:=R.ow i s h1 h2
 rw [h3] at g1; cases g1
 exact ⟨i,s,o,h1,h2,h3,g2,g3,g4⟩
theorem lend_sub (R:Rel K G F σ H ρ):Sub F (lend σ ρ xs F H):=fun b o e=>by
 have n:¬ LentA σ ρ xs b:=fun z=>by
  obtain ⟨_,_,_,_,_,_,h,_⟩:=z.own R
  rw [h] at e; cases e
 rw [lend_not n]; exact e
theorem lend_le (R:Rel K G F σ H ρ):Sub (lend σ ρ xs F H) H:=fun b o e=>by
 by_cases z:LentA σ ρ xs b
 ·rw [lend_is z] at e; exact e
 ·rw [lend_not z] at e; exact R.sub _ _ e
theorem lend_looks (R:Rel K G F σ H ρ) {ys:List Opd} {vs:List V} {k:List D -> Prop} (m:∀ y ∈ ys,y ∈ xs) (o:OpdsAt K F σ vs ys) (h:looksQ ρ ys k):∃ ds,DaAll K (lend σ ρ xs F H) vs ds /\ k ds:=by
 induction o generalizing k with
 | nil=>exact ⟨[],.nil,h⟩
 | @cons v x vs ys o t ih =>
  cases x with
  | inr d =>
   obtain ⟨ds,a,q⟩:=ih (k:=fun ds=>k (d :: ds)) (fun y hy=>m y (List.mem_cons_of_mem _ hy)) h
   exact ⟨d :: ds,.cons (Da.mono (lend_sub R) o) a,q⟩
  | inl i =>
   unfold looksQ at h
   split at h
   ·rename_i s e
    obtain ⟨ds,a,q⟩:=ih (k:=fun ds=>k (s.d :: ds)) (fun y hy=>m y (List.mem_cons_of_mem _ hy)) h
    refine ⟨s.d :: ds,.cons ?_ a,q⟩
    have o:σ[i]? = some (some v):=o
    have own:isOw s = true -> Da K (lend σ ρ xs F H) v s.d:=fun w=>by
     obtain ⟨b,u,h1,h2,h3,h4⟩:=R.ow i s e w
     rw [o] at h1; cases h1
     have l:LentA σ ρ xs b:=⟨i,s,m _ List.mem_cons_self,e,w,o⟩
     exact (h4.mono (lend_sub R)).da (by rw [lend_is l]; exact h3)
    cases s with
    | fz d =>
     obtain ⟨v,e1,e2⟩:=R.fz i d e
     rw [o] at e1; cases e1
     exact e2.mono (lend_sub R)
    | ow d=>exact own rfl
    | io d=>exact own rfl
   ·exact h.elim
theorem own_noMut {o:HO} {d:D} (h:Own1 K F o d):noMut d = false:=by
 cases o with
 | ext φ=>obtain ⟨a',ep,xs,ps,z,rfl,t⟩:=h.ext; rfl
 | _=>cases d <;> first | rfl | exact h.elim
theorem get_fz {ds:List D} {i:Nat} {s:Sl} (h:((ds.map Sl.fz).map some)[i]? = some (some s)):∃ d,ds[i]? = some d /\ s = .fz d:=by
 rw [List.map_map,List.getElem?_map] at h
 cases e:ds[i]? with
 | none=>rw [e] at h; cases h
 | some d=>rw [e] at h; cases h; exact ⟨d,rfl,rfl⟩
theorem get_vs {vs:List V} {i:Nat} {v:V} (h:vs[i]? = some v):(vs.map some)[i]? = some (some v):=by rw [List.getElem?_map,h]; rfl
theorem rel_call {vs:List V} {ds:List D} (s:Sub F H) (da:DaAll K F vs ds):Rel K ⟨H,F,fun _=>none⟩ F (vs.map some) H ((ds.map Sl.fz).map some) where
 len:=by simp [da.length]
 sub:=s
 sub0:=Sub.refl _
 fn:=fun _ _ e=>.inl e
 keep:=fun _ _ e _=>e
 fz:=fun i d e=>by
  obtain ⟨d',e1,e2⟩:=get_fz e
  cases e2
  obtain ⟨v,h1,h2⟩:=da.get e1
  exact ⟨v,get_vs h1,h2⟩
 ow:=fun i s e w=>by obtain ⟨d',e1,rfl⟩:=get_fz e; cases w
 new:=fun i d a e _=>by obtain ⟨d',e1,e2⟩:=get_fz e; cases e2
 io:=fun i a e=>by cases e
 ioi:=fun i d e=>by obtain ⟨d',e1,e2⟩:=get_fz e; cases e2
 ap:=fun i j s t a e w _ _ _ _=>by obtain ⟨d',e1,rfl⟩:=get_fz e; cases w
theorem Rel.called (R:Rel K G F σ H ρ) {σ1:St} {ρ1:Ev} (R':Rel K ⟨H,lend σ ρ xs F H,fun _=>none⟩ F' σ1 H' ρ1):Sub F (unlend σ ρ xs F') /\ Rel K G (unlend σ ρ xs F') σ H' ρ:=by
 have nl:∀ {b:Addr} {o:HO},F b = some o -> ¬ LentA σ ρ xs b:=fun {b o} e z=>by
  obtain ⟨_,_,_,_,_,_,h,_⟩:=z.own R
  rw [h] at e; cases e
 have sb:Sub F (unlend σ ρ xs F'):=fun b o e=>by
  rw [unlend_not (nl e)]
  exact R'.sub0 _ _ (lend_sub R _ _ e)
 have ul:∀ {b:Addr} {o:HO},unlend σ ρ xs F' b = some o -> ¬ LentA σ ρ xs b /\ F' b = some o:=fun {b o} e=>by
  by_cases z:LentA σ ρ xs b
  ·rw [unlend_is z] at e; cases e
  ·rw [unlend_not z] at e; exact ⟨z,e⟩
 have kp:∀ {b:Addr} {o:HO},H b = some o -> H' b = some o:=fun {b o} e=>R'.keep b o e fun i z=>by cases z
 refine ⟨sb,R.len,fun b o e=>R'.sub _ _ (ul e).2,R.sub0.trans sb,fun b o e=>?_,fun a o e n=>kp (R.keep a o e n),fun i d e=>?_,fun i s e w=>?_,R.new,R.io,R.ioi,R.ap⟩
 ·obtain ⟨n,e⟩:=ul e
  rcases R'.fn b o e with q | q
  ·have q:lend σ ρ xs F H b = some o:=q
   rw [lend_not n] at q
   exact R.fn b o q
  ·exact .inr (R.h0 q)
 ·obtain ⟨v,h1,h2⟩:=R.fz i d e
  exact ⟨v,h1,h2.mono sb⟩
 ·obtain ⟨a,o,h1,h2,h3,h4⟩:=R.ow i s e w
  refine ⟨a,o,h1,?_,kp h3,h4.mono sb⟩
  cases q:unlend σ ρ xs F' a with
  | none=>rfl
  | some u =>
   obtain ⟨n,q⟩:=ul q
   rcases R'.fn a u q with z | z
   ·have z:lend σ ρ xs F H a = some u:=z
    rw [lend_not n,h2] at z; cases z
   ·have z:H a = none:=z
    rw [h3] at z; cases z
theorem Res.called (R:Rel K G F σ H ρ) {σ1:St} {ρ1:Ev} {v:V} {r:Sl} (R':Rel K ⟨H,lend σ ρ xs F H,fun _=>none⟩ F' σ1 H' ρ1) (q:Res K ⟨H,lend σ ρ xs F H,fun _=>none⟩ F' H' σ1 ρ1 v r)
  (hl:lentAny ρ xs = true -> noMut r.d = true):Res K G (unlend σ ρ xs F') H' σ ρ v r:=by
 have tp:∀ b ys,F' b = some (.tup ys) -> unlend σ ρ xs F' b = some (.tup ys):=fun b ys e=>by
  have n:¬ LentA σ ρ xs b:=fun z=>by
   obtain ⟨_,_,o,_,_,_,_,h,w⟩:=z.own R
   have e2:=R'.sub0 b o (by show lend σ ρ xs F H b = some o; rw [lend_is z]; exact h)
   rw [e] at e2; cases e2
   exact w
  rw [unlend_not n]; exact e
 by_cases l:lentAny ρ xs = true
 ·cases r with
  | fz d=>exact Da.noMut tp q (hl l)
  | ow d =>
   obtain ⟨a,o,_,_,_,w,_⟩:=q
   have:=hl l
   rw [show (Sl.ow d).d = d from rfl,own_noMut w] at this; cases this
  | io d=>exact q.elim
 ·have e:unlend σ ρ xs F' = F':=funext fun b=>unlend_not fun z=>l (lentAny_of z)
  rw [e]
  cases r with
  | fz d=>exact q
  | io d=>exact q.elim
  | ow d =>
   obtain ⟨a,o,h1,h2,h3,h4,h5,_⟩:=q
   refine ⟨a,o,h1,h2,h3,h4,R.h0 h5,fun i s es w z=>?_⟩
   obtain ⟨a',o',g1,_,g3,_⟩:=R.ow i s es w
   rw [z] at g1; cases g1
   have h5:H a = none:=h5
   rw [h5] at g3; cases g3
theorem l_call {con:Con} {as:List AD} {E:XK} {Q:VK} (h:lift K (dCall con as) σ H Q):tCall (conSp K con) [] E (tArgs (as.map (argT K))) σ H Q:=by
 obtain ⟨G,F,ρ,Qd,R,w,k⟩:=h
 refine args_ok R w fun vs H1 F1 xs ρ1 s1 R1 o w1=>?_
 obtain ⟨ds,da,w1⟩:=lend_looks (xs:=xs) R1 (fun y hy=>hy) o w1
 rw [List.append_nil]
 refine ⟨_,_,ds.map Sl.fz,_,rel_call (lend_le R1) da,w1,fun v H' F' r ρ' s' R' r' q=>?_⟩
 obtain ⟨sb,R2⟩:=R1.called R'
 have hq:(lentAny ρ1 xs = true -> noMut r.d = true) /\ Qd r ρ1:=by
  split at q
  ·rename_i e; exact ⟨fun z=>(by rw [e] at z; cases z),q⟩
  ·exact ⟨fun _=>q.1,q.2⟩
 exact k v H' _ r ρ1 (s1.trans sb) R2 (Res.called R1 R' r' hq.1) hq.2
end
end L3
namespace L3
open PySem PySem.Spec L2
section
variable {K:Fg} {G:Gh} {F F' H H':Hp} {σ:St} {ρ:Ev} {xs:List Opd}
noncomputable def ioA (a:Addr):Nat -> Option Addr:=fun j=>if j = 0 then some a else none
theorem ioA_some {a b:Addr} {j:Nat} (h:ioA a j = some b):j = 0 /\ b = a:=by
 unfold ioA at h
 split at h
 ·rename_i z; cases h; exact ⟨z,rfl⟩
 ·cases h
theorem rel_callI {vs:List V} {ds:List D} {a:Addr} {o:HO} {d:D} (s:Sub F H) (h1:F a = none) (h2:H a = some o) (h3:Own1 K F o d) (da:DaAll K F vs ds) :
  Rel K ⟨H,F,ioA a⟩ F ((V.ref a :: vs).map some) H ((Sl.io d :: ds.map Sl.fz).map some) where
 len:=by simp [da.length]
 sub:=s
 sub0:=Sub.refl _
 fn:=fun _ _ e=>.inl e
 keep:=fun _ _ e _=>e
 fz:=fun i d' e=>by
  cases i with
  | zero=>simp at e
  | succ i =>
   have e:((ds.map Sl.fz).map some)[i]? = some (some (Sl.fz d')):=by simpa using e
   obtain ⟨d2,e1,e2⟩:=get_fz e
   cases e2
   obtain ⟨v,g1,g2⟩:=da.get e1
   exact ⟨v,by simpa using g1,g2⟩
 ow:=fun i s e w=>by
  cases i with
  | zero=>simp at e; subst e; exact ⟨a,o,by simp,h1,h2,h3⟩
  | succ i =>
   have e:((ds.map Sl.fz).map some)[i]? = some (some s):=by simpa using e
   obtain ⟨d2,e1,rfl⟩:=get_fz e
   cases w
 new:=fun i d' b e _=>by
  cases i with
  | zero=>simp at e
  | succ i =>
   have e:((ds.map Sl.fz).map some)[i]? = some (some (Sl.ow d')):=by simpa using e
   obtain ⟨d2,e1,e2⟩:=get_fz e
   cases e2
 io:=fun i b e=>by
  obtain ⟨rfl,rfl⟩:=ioA_some e
  exact ⟨d,by simp,by simp⟩
 ioi:=fun i d' e=>by
  cases i with
  | zero=>exact ⟨a,rfl⟩
  | succ i =>
   have e:((ds.map Sl.fz).map some)[i]? = some (some (Sl.io d')):=by simpa using e
   obtain ⟨d2,e1,e2⟩:=get_fz e
   cases e2
 ap:=fun i j s t b e1 w1 e2 w2 _ _=>by
  have f:∀ {i:Nat} {s:Sl},((Sl.io d :: ds.map Sl.fz).map some)[i]? = some (some s) -> isOw s = true -> i = 0:=fun {i s} e w=>by
   cases i with
   | zero=>rfl
   | succ i =>
    have e:((ds.map Sl.fz).map some)[i]? = some (some s):=by simpa using e
    obtain ⟨d2,e1,rfl⟩:=get_fz e
    cases w
  rw [f e1 w1,f e2 w2]
theorem Rel.calledI (R:Rel K G F σ H ρ) {i:Nat} {s:Sl} {a:Addr} {d':D} {σ1:St} {ρ1:Ev} (e:ρ[i]? = some (some s)) (w:isOw s = true) (ea:σ[i]? = some (some (V.ref a)))
  (R':Rel K ⟨H,F,ioA a⟩ F' (some (V.ref a) :: σ1) H' (some (Sl.io d') :: ρ1)):Rel K G F' σ H' (ρ.set i (some (s.put d'))):=by
 obtain ⟨a0,o0,g1,g2,g3,g4⟩:=R.ow i s e w
 rw [ea] at g1; cases g1
 have sb:Sub F F':=R'.sub0
 have hl:=lt_of_get e
 have kp:∀ {b:Addr} {o:HO},b ≠ a -> H b = some o -> H' b = some o:=fun {b o} n q=>R'.keep b o q fun j z=>n (ioA_some z).2
 have ow':∀ {j:Nat} {t:Sl},j ≠ i -> ρ[j]? = some (some t) -> isOw t = true -> ∃ b o,σ[j]? = some (some (V.ref b)) /\ F' b = none /\ H' b = some o /\ Own1 K F' o t.d:=fun {j t} n q wt=>by
  obtain ⟨b,o,q1,q2,q3,q4⟩:=R.ow j t q wt
  have nb:b ≠ a:=fun z=>n (R.ap j i t s a q wt e w (by rw [q1,z]) ea)
  refine ⟨b,o,q1,?_,kp nb q3,q4.mono sb⟩
  cases z:F' b with
  | none=>rfl
  | some u =>
   rcases R'.fn b u z with y | y
   ·have y:F b = some u:=y
    rw [q2] at y; cases y
   ·have y:H b = none:=y
    rw [q3] at y; cases y
 refine ⟨by rw [List.length_set]; exact R.len,R'.sub,R.sub0.trans sb,fun b o q=>?_,fun b o q n=>?_,fun j d q=>?_,fun j t q wt=>?_,fun j d b q eb=>?_,fun j b q=>?_,fun j d q=>?_,fun j k t u b e1 w1 e2 w2 e3 e4=>?_⟩
 ·rcases R'.fn b o q with y | y
  ·exact R.fn b o y
  ·exact .inr (R.h0 y)
 ·refine kp (fun z=>?_) (R.keep b o q n)
  subst z
  cases s with
  | fz d=>cases w
  | ow d=>rw [R.new i d b e ea] at q; cases q
  | io d =>
   obtain ⟨a',y⟩:=R.ioi i d e
   obtain ⟨_,_,y2⟩:=R.io i a' y
   rw [ea] at y2; cases y2
   exact n i y
 ·rcases get_set q with ⟨rfl,z⟩ | ⟨n,z⟩
  ·cases s <;> simp [Sl.put,isOw] at z w
  ·obtain ⟨v,y1,y2⟩:=R.fz j d z
   exact ⟨v,y1,y2.mono sb⟩
 ·rcases get_set q with ⟨rfl,z⟩ | ⟨n,z⟩
  ·cases z
   obtain ⟨b,o,y1,y2,y3,y4⟩:=R'.ow 0 (.io d') (by simp) rfl
   simp at y1; subst y1
   exact ⟨a,o,ea,y2,y3,by cases s <;> first | exact y4 | cases w⟩
  ·exact ow' n z wt
 ·rcases get_set q with ⟨rfl,z⟩ | ⟨n,z⟩
  ·cases s with
   | fz d=>cases w
   | ow d0=>exact R.new j d0 b e eb
   | io d0=>cases z
  ·exact R.new j d b z eb
 ·obtain ⟨d,y1,y2⟩:=R.io j b q
  by_cases z:j = i
  ·subst z
   rw [e] at y1; cases y1
   exact ⟨d',by rw [set_get hl]; rfl,y2⟩
  ·exact ⟨d,by rw [List.getElem?_set_ne (Ne.symm z)]; exact y1,y2⟩
 ·rcases get_set q with ⟨rfl,z⟩ | ⟨n,z⟩
  ·cases s with
   | fz d=>cases w
   | ow d0=>cases z
   | io d0=>exact R.ioi j d0 e
  ·exact R.ioi j d z
 ·have f:∀ (j:Nat) (t:Sl),(ρ.set i (some (s.put d')))[j]? = some (some t) -> isOw t = true -> ∃ t',ρ[j]? = some (some t') /\ isOw t' = true:=fun j t q wt=>by
   rcases get_set q with ⟨rfl,z⟩ | ⟨n,z⟩
   ·exact ⟨s,e,w⟩
   ·exact ⟨t,z,wt⟩
  obtain ⟨t',e1',w1'⟩:=f j t e1 w1
  obtain ⟨u',e2',w2'⟩:=f k u e2 w2
  exact R.ap j k t' u' b e1' w1' e2' w2' e3 e4
theorem noLent_looks (R:Rel K G F σ H ρ) {ys:List Opd} {vs:List V} {k:List D -> Prop} (m:lentAny ρ ys = false) (o:OpdsAt K F σ vs ys) (h:looksQ ρ ys k):∃ ds,DaAll K F vs ds /\ k ds:=by
 induction o generalizing k with
 | nil=>exact ⟨[],.nil,h⟩
 | @cons v x vs ys o t ih =>
  cases x with
  | inr d =>
   obtain ⟨ds,a,q⟩:=ih (k:=fun ds=>k (d :: ds)) m h
   exact ⟨d :: ds,.cons o a,q⟩
  | inl i =>
   unfold looksQ at h
   unfold lentAny at m
   simp only [Bool.or_eq_false_iff] at m
   split at h
   ·rename_i s e
    obtain ⟨ds,a,q⟩:=ih (k:=fun ds=>k (s.d :: ds)) m.2 h
    refine ⟨s.d :: ds,.cons ?_ a,q⟩
    have m1:=m.1
    rw [e] at m1
    cases s with
    | fz d =>
     obtain ⟨v',e1,e2⟩:=R.fz i d e
     have o:σ[i]? = some (some v):=o
     rw [o] at e1; cases e1
     exact e2
    | ow d=>cases m1
    | io d=>cases m1
   ·exact h.elim
theorem l_callI {con:Con} {i:Nat} {as:List AD} {E:XK} {Q:VK} (h:lift K (dCallI con i as) σ H Q):tCall (conSp K con) [] E (tArgs ((.inl i :: as).map (argT K))) σ H Q:=by
 obtain ⟨G,F,ρ,Qd,R,w,k⟩:=h
 unfold dCallI dArgs at w
 split at w
 ·rename_i s0 e0
  obtain ⟨v,ev⟩:=R.bound e0
  refine ⟨v,ev,args_ok R w fun vs H1 F1 xs ρ1 s1 R1 o w1=>?_⟩
  show conSp K con (v :: vs ++ []) H1 Q E
  rw [List.append_nil]
  have w1:callI con i xs ρ1 Qd:=w1
  unfold callI at w1
  split at w1
  ·rename_i s e
   split at w1
   ·rename_i p1 p2
    obtain ⟨a,o',g1,g2,g3,g4⟩:=R1.ow i s e p1
    rw [ev] at g1; cases g1
    obtain ⟨ds,da,w1⟩:=noLent_looks R1 p2 o w1
    refine ⟨_,F1,.io s.d :: ds.map Sl.fz,_,rel_callI R1.sub g2 g3 g4 da,w1,fun v H' F' r ρ' s' R' r' q=>?_⟩
    split at q
    ·rename_i d' ρ2
     have R2:=R1.calledI e p1 ev R'
     refine k v H' F' r _ (s1.trans s') R2 ?_ q
     cases r with
     | fz d=>exact r'
     | io d=>exact r'.elim
     | ow d =>
      obtain ⟨b,u,h1,h2,h3,h4,h5,_⟩:=r'
      have h5:H1 b = none:=h5
      refine ⟨b,u,h1,h2,h3,h4,R1.h0 h5,fun j t es w z=>?_⟩
      have own:∃ t',ρ1[j]? = some (some t') /\ isOw t' = true:=by
       rcases get_set es with ⟨rfl,y⟩ | ⟨n,y⟩
       ·exact ⟨s,e,p1⟩
       ·exact ⟨t,y,w⟩
      obtain ⟨t',y1,y2⟩:=own
      obtain ⟨a',o',q1,_,q3,_⟩:=R1.ow j t' y1 y2
      rw [z] at q1; cases q1
      rw [h5] at q3; cases q3
    ·exact q.elim
   ·exact w1.elim
  ·exact w1.elim
 ·exact w.elim
noncomputable def startE (n:Nat) (args:List Sl):Ev:=args.map some ++ List.replicate (n - args.length) none
noncomputable def outs:List Sl -> Ev -> Ev
 | [],_=>[]
 | .io _ :: as,ρ=>(ρ.headD none) :: outs as ρ.tail
 | .fz d :: as,ρ=>some (.fz d) :: outs as ρ.tail
 | .ow d :: as,ρ=>some (.ow d) :: outs as ρ.tail
theorem app_none {α:Type} {l:List (Option α)} {n i:Nat} {x:α} (h:(l ++ List.replicate n none)[i]? = some (some x)):l[i]? = some (some x):=by
 by_cases z:i < l.length
 ·rw [List.getElem?_append_left z] at h; exact h
 ·rw [List.getElem?_append_right (Nat.le_of_not_lt z),List.getElem?_replicate] at h
  split at h <;> cases h
theorem app_left {α:Type} {l m:List α} {i:Nat} {x:α} (h:l[i]? = some x):(l ++ m)[i]? = some x:=by rw [List.getElem?_append_left (lt_of_get h)]; exact h
theorem Rel.start {vs:List V} {args:List Sl} {N:List Str} (R:Rel K G F (vs.map some) H (args.map some)):Rel K G F (L2.start N vs) H (startE N.length args) where
 len:=by have:=R.len; simp [L2.start,startE] at this ⊢; omega
 sub:=R.sub
 sub0:=R.sub0
 fn:=R.fn
 keep:=R.keep
 fz:=fun i d e=>by
  obtain ⟨v,h1,h2⟩:=R.fz i d (app_none e)
  exact ⟨v,app_left h1,h2⟩
 ow:=fun i s e w=>by
  obtain ⟨a,o,h1,h2⟩:=R.ow i s (app_none e) w
  exact ⟨a,o,app_left h1,h2⟩
 new:=fun i d a e ea=>R.new i d a (app_none e) (app_none ea)
 io:=fun i a e=>by
  obtain ⟨d,h1,h2⟩:=R.io i a e
  exact ⟨d,app_left h1,app_left h2⟩
 ioi:=fun i d e=>R.ioi i d (app_none e)
 ap:=fun i j s t a e1 w1 e2 w2 e3 e4=>R.ap i j s t a (app_none e1) w1 (app_none e2) w2 (app_none e3) (app_none e4)
theorem outs_get:∀ {args:List Sl} {ρ:Ev} {i:Nat} {s:Sl},(outs args ρ)[i]? = some (some s) -> (∃ d,args[i]? = some (.io d) /\ ρ[i]? = some (some s)) \/ (args[i]? = some s /\ ∀ d,s ≠ .io d)
 | [],ρ,i,s,h=>by simp [outs] at h
 | .io d :: as,ρ,0,s,h=>by
  simp [outs] at h
  cases ρ with
  | nil=>simp at h
  | cons x ρ=>simp at h; exact .inl ⟨d,by simp,by simp [h]⟩
 | .fz d :: as,ρ,0,s,h=>by simp [outs] at h; subst h; exact .inr ⟨by simp,fun d z=>by cases z⟩
 | .ow d :: as,ρ,0,s,h=>by simp [outs] at h; subst h; exact .inr ⟨by simp,fun d z=>by cases z⟩
 | .io d :: as,ρ,i + 1,s,h=>by
  simp only [outs,List.getElem?_cons_succ] at h
  rcases outs_get h with ⟨d,h1,h2⟩ | ⟨h1,h2⟩
  ·exact .inl ⟨d,by simpa using h1,by cases ρ with | nil=>simp at h2 | cons x ρ=>simpa using h2⟩
  ·exact .inr ⟨by simpa using h1,h2⟩
 | .fz d :: as,ρ,i + 1,s,h=>by
  simp only [outs,List.getElem?_cons_succ] at h
  rcases outs_get h with ⟨d,h1,h2⟩ | ⟨h1,h2⟩
  ·exact .inl ⟨d,by simpa using h1,by cases ρ with | nil=>simp at h2 | cons x ρ=>simpa using h2⟩
  ·exact .inr ⟨by simpa using h1,h2⟩
 | .ow d :: as,ρ,i + 1,s,h=>by
  simp only [outs,List.getElem?_cons_succ] at h
  rcases outs_get h with ⟨d,h1,h2⟩ | ⟨h1,h2⟩
  ·exact .inl ⟨d,by simpa using h1,by cases ρ with | nil=>simp at h2 | cons x ρ=>simpa using h2⟩
  ·exact .inr ⟨by simpa using h1,h2⟩
theorem outs_of:∀ {args:List Sl} {ρ:Ev} {i:Nat} {d:D} {x:Option Sl},args[i]? = some (.io d) -> ρ[i]? = some x -> (outs args ρ)[i]? = some x
 | [],_,_,_,_,h,_=>by simp at h
 | _ :: _,[],_,_,_,_,h=>by simp at h
 | s :: as,y :: ρ,0,d,x,h,h'=>by simp at h h'; subst h h'; simp [outs]
 | s :: as,y :: ρ,i + 1,d,x,h,h'=>by
  have:=outs_of (args:=as) (ρ:=ρ) (i:=i) (by simpa using h) (by simpa using h')
  cases s <;> simpa [outs] using this
theorem outs_len:∀ (args:List Sl) (ρ:Ev),(outs args ρ).length = args.length
 | [],_=>rfl
 | s :: as,ρ=>by cases s <;> simp [outs,outs_len as]
theorem get_args {args:List Sl} {i:Nat} {s:Sl} (h:(args.map some)[i]? = some (some s)):args[i]? = some s:=by
 rw [List.getElem?_map] at h
 cases e:args[i]? with
 | none=>rw [e] at h; cases h
 | some x=>rw [e] at h; cases h; rfl
theorem args_get {args:List Sl} {i:Nat} {s:Sl} (h:args[i]? = some s):(args.map some)[i]? = some (some s):=by rw [List.getElem?_map,h]; rfl
theorem Rel.ret {vs:List V} {args:List Sl} {σ':St} {ρ':Ev} (hn:∀ s ∈ args,∀ d,s ≠ .ow d) (R:Rel K G F (vs.map some) H (args.map some)) (sb:Sub F F') (R':Rel K G F' σ' H' ρ'):Rel K G F' (vs.map some) H' (outs args ρ'):=by
 have own:∀ {i:Nat} {s:Sl},(outs args ρ')[i]? = some (some s) -> isOw s = true -> ∃ d a,args[i]? = some (.io d) /\ ρ'[i]? = some (some s) /\ G.io i = some a /\ (vs.map some)[i]? = some (some (V.ref a)) /\ σ'[i]? = some (some (V.ref a)):=fun {i s} e w=>by
  rcases outs_get e with ⟨d,h1,h2⟩ | ⟨h1,h2⟩
  ·obtain ⟨a,h3⟩:=R.ioi i d (args_get h1)
   obtain ⟨_,_,h4⟩:=R.io i a h3
   obtain ⟨_,_,h5⟩:=R'.io i a h3
   exact ⟨d,a,h1,h2,h3,h4,h5⟩
  ·cases s with
   | fz d=>cases w
   | ow d=>exact (hn _ (List.mem_of_getElem? h1) d rfl).elim
   | io d=>exact (h2 d rfl).elim
 refine ⟨by rw [outs_len]; simpa using R.len,R'.sub,R'.sub0,R'.fn,R'.keep,fun i d e=>?_,fun i s e w=>?_,fun i d a e ea=>?_,fun i a e=>?_,fun i d e=>?_,fun i j s t a e1 w1 e2 w2 e3 e4=>?_⟩
 ·rcases outs_get e with ⟨d',h1,h2⟩ | ⟨h1,h2⟩
  ·obtain ⟨a,h3⟩:=R.ioi i d' (args_get h1)
   obtain ⟨d2,h4,_⟩:=R'.io i a h3
   rw [h2] at h4; cases h4
  ·obtain ⟨v,h3,h4⟩:=R.fz i d (args_get h1)
   exact ⟨v,h3,h4.mono sb⟩
 ·obtain ⟨d,a,h1,h2,h3,h4,h5⟩:=own e w
  obtain ⟨b,o,g1,g2⟩:=R'.ow i s h2 w
  rw [h5] at g1; cases g1
  exact ⟨a,o,h4,g2⟩
 ·obtain ⟨d',b,h1,h2,h3,h4,h5⟩:=own e rfl
  rw [h4] at ea; cases ea
  exact R'.new i d _ h2 h5
 ·obtain ⟨d,h1,h2⟩:=R.io i a e
  obtain ⟨d',h3,h4⟩:=R'.io i a e
  exact ⟨d',outs_of (get_args h1) h3,h2⟩
 ·obtain ⟨d',a,h1,h2,h3,h4,h5⟩:=own e rfl
  exact ⟨a,h3⟩
 ·obtain ⟨_,a1,_,h2,_,h4,h5⟩:=own e1 w1
  obtain ⟨_,a2,_,g2,_,g4,g5⟩:=own e2 w2
  rw [h4] at e3; cases e3
  rw [g4] at e4; cases e4
  exact R'.ap i j s t a h2 w1 g2 w2 h5 g5
theorem Res.ret {vs:List V} {args:List Sl} {σ':St} {ρ':Ev} {v:V} {r:Sl} (hn:∀ s ∈ args,∀ d,s ≠ .ow d) (R:Rel K G F (vs.map some) H (args.map some)) (R':Rel K G F' σ' H' ρ') (q:Res K G F' H' σ' ρ' v r):Res K G F' H' (vs.map some) (outs args ρ') v r:=by
 cases r with
 | fz d=>exact q
 | io d=>exact q.elim
 | ow d =>
  obtain ⟨a,o,h1,h2,h3,h4,h5,h6⟩:=q
  refine ⟨a,o,h1,h2,h3,h4,h5,fun i s e w z=>?_⟩
  rcases outs_get e with ⟨d',g1,g2⟩ | ⟨g1,g2⟩
  ·obtain ⟨b,g3⟩:=R.ioi i d' (args_get g1)
   obtain ⟨_,_,g4⟩:=R.io i b g3
   obtain ⟨_,_,g5⟩:=R'.io i b g3
   rw [g4] at z; cases z
   exact h6 i s g2 w g5
  ·cases s with
   | fz d=>cases w
   | ow d=>exact (hn _ (List.mem_of_getElem? g1) d rfl).elim
   | io d=>exact (g2 d rfl).elim
noncomputable def endsOf (args:List Sl) (Qd:Sl -> Ev -> Prop):DE:={ nx:=fun ρ=>Qd (.fz .none) (outs args ρ),rt:=fun r ρ=>Qd r (outs args ρ),bk:=fun _=>False,ct:=fun _=>False }
theorem l_def {N:List Str} {con:Con} {ts:TDS} {vs:List V} {Q:VK} {E:XK} (hc:∀ args Qd,con args Qd -> (∀ s ∈ args,∀ d,s ≠ .ow d) /\ ts (endsOf args Qd) (startE N.length args)) (h:conSp K con vs H Q E):liftS K ts { nx:=fun _ H'=>Q .non H',rt:=Q } (L2.start N vs) H:=by
 obtain ⟨G,F,args,Qd,R,w,k⟩:=h
 obtain ⟨hn,w⟩:=hc args Qd w
 refine ⟨G,F,_,_,R.start,w,fun σ' H' F' ρ' s R' q=>?_,fun v σ' H' F' r ρ' s R' r' q=>?_,fun _ _ _ _ _ _ q=>q.elim,fun _ _ _ _ _ _ q=>q.elim⟩
 ·exact k .non H' F' (.fz .none) _ s (R.ret hn s R') Da.non q
 ·exact k v H' F' r _ s (R.ret hn s R') (r'.ret hn R R') q
end
end L3
namespace L3
open PySem PySem.Spec L2
section
variable {K:Fg} {F H:Hp} {v:V}
theorem At.int {i:Int} (h:At K F H v (.int i)):v = .int i:=by
 rcases h with h | ⟨a,o,rfl,_,_,h⟩
 ·cases h; rfl
 ·cases o <;> exact h.elim
theorem At.bool {b:Bool} (h:At K F H v (.bool b)):v = .bl b:=by
 rcases h with h | ⟨a,o,rfl,_,_,h⟩
 ·cases h; rfl
 ·cases o <;> exact h.elim
theorem At.str {x:Str} (h:At K F H v (.str x)):v = .str x:=by
 rcases h with h | ⟨a,o,rfl,_,_,h⟩
 ·cases h; rfl
 ·cases o <;> exact h.elim
theorem At.none (h:At K F H v .none):v = .non:=by
 rcases h with h | ⟨a,o,rfl,_,_,h⟩
 ·cases h; rfl
 ·cases o <;> exact h.elim
theorem At.list {ds:List D} (s:Sub F H) (h:At K F H v (.list ds)):∃ a xs,v = .ref a /\ H a = some (.lst xs) /\ DaAll K F xs ds:=by
 rcases h with h | ⟨a,o,rfl,_,e,h⟩
 ·cases h with
  | lst e t=>exact ⟨_,_,rfl,s _ _ e,t⟩
 ·cases o <;> first | exact h.elim | exact ⟨_,_,rfl,e,h⟩
theorem At.tuple {ds:List D} (s:Sub F H) (h:At K F H v (.tuple ds)):∃ a xs,v = .ref a /\ F a = some (.tup xs) /\ H a = some (.tup xs) /\ DaAll K F xs ds:=by
 rcases h with h | ⟨a,o,rfl,_,e,h⟩
 ·cases h with
  | tup e t=>exact ⟨_,_,rfl,e,s _ _ e,t⟩
 ·cases o <;> exact h.elim
theorem keyD_ne (k:Key):keyD k ≠ .none:=by cases k <;> (intro z; cases z)
theorem Da.scr_inv {ns:List Int}:∀ {d:D},Da K F v d -> d = scrD ns -> ∃ a,v = .ref a /\ SqL K F a (ns.map V.int)
 | _,.non,e=>by cases e
 | _,.bl _,e=>by cases e
 | _,.int _,e=>by cases e
 | _,.str _,e=>by cases e
 | _,.lst _ _,e=>by cases e
 | _,.tup _ _,e=>by cases e
 | _,.dk _ t,e=>by
  cases t with
  | nil=>injection e with e; cases e
  | cons _ _ =>
   injection e with e
   injection e with e _
   injection e with e _
   exact (keyD_ne _ e).elim
 | _,.dt _ t,e=>by
  cases t with
  | nil=>injection e with e; cases e
  | cons _ _ =>
   injection e with e
   injection e with e _
   injection e with e _
   cases e
 | _,.scr (ns:=ns') q,e=>by
  injection e with e
  injection e with e _
  injection e with _ e
  injection e with e2
  have:∀ (l m:List Int),l.map PyData.int = m.map PyData.int -> l = m:=by
   intro l
   induction l with
   | nil=>intro m e; cases m with | nil=>rfl | cons=>simp at e
   | cons a l ih=>intro m e; cases m with | nil=>simp at e | cons b m=>simp at e; rw [e.1,ih m e.2]
  rw [<- this _ _ e2]
  exact ⟨_,rfl,q⟩
theorem At.scr {ns:List Int} (s:Sub F H) (h:At K F H v (scrD ns)):∃ a,v = .ref a /\ SqL K H a (ns.map V.int):=by
 rcases h with h | ⟨a,o,rfl,_,e,h⟩
 ·obtain ⟨a,h1,h2⟩:=h.scr_inv rfl
  exact ⟨a,h1,s.sql h2⟩
 ·exfalso
  cases o <;> first | exact h.elim | skip
  ·rename_i kvs
   have h:DaKV K F kvs [(.none,.list (ns.map PyData.int))]:=h
   generalize q:[(PyData.none,PyData.list (ns.map PyData.int))] = es at h
   cases h with
   | nil=>cases q
   | cons _ _ =>
    injection q with q _
    injection q with q _
    exact keyD_ne _ q.symm
  ·rename_i kvs
   have h:DaKT K F kvs [(.none,.list (ns.map PyData.int))]:=h
   cases h
theorem AtAll.one {vs:List V} {d:D} (h:AtAll K F H vs [d]):∃ v,vs = [v] /\ At K F H v d:=by
 cases h with | cons a t=>cases t; exact ⟨_,rfl,a⟩
theorem AtAll.two {vs:List V} {d e:D} (h:AtAll K F H vs [d,e]):∃ v u,vs = [v,u] /\ At K F H v d /\ At K F H u e:=by
 cases h with | cons a t=>cases t with | cons b t=>cases t; exact ⟨_,_,rfl,a,b⟩
end
noncomputable def r2L (r:R2):List V -> Hp -> VK -> Prop:=fun vs H Q=>∃ x y,vs = [x,y] /\ r x y H Q
noncomputable def r1L (r:V -> Hp -> VK -> Prop):List V -> Hp -> VK -> Prop:=fun vs H Q=>∃ x,vs = [x] /\ r x H Q
theorem ok2 {K:Fg} {r:R2} {f:D -> D -> (Sl -> Prop) -> Prop} (h:∀ (G:Gh) (F:Hp) (σ:St) (H:Hp) (ρ:Ev) (x y:V) (d e:D) (Q:VK) (Qd:Sl -> Prop),Rel K G F σ H ρ -> At K F H x d -> At K F H y e -> f d e Qd ->
    (∀ v H' F' s,Sub F F' -> Rel K G F' σ H' ρ -> Res K G F' H' σ ρ v s -> Qd s -> Q v H') -> r x y H Q):OpOk K (r2L r) (o2 f):=by
 intro G F σ H ρ vs ds Q Qd R a w k
 match ds,a,w with
 | [d,e],a,w =>
  obtain ⟨v,u,rfl,h1,h2⟩:=a.two
  exact ⟨v,u,rfl,h G F σ H ρ v u d e Q Qd R h1 h2 w k⟩
theorem ok1 {K:Fg} {r:List V -> Hp -> VK -> Prop} {f:D -> (Sl -> Prop) -> Prop} (h:∀ (G:Gh) (F:Hp) (σ:St) (H:Hp) (ρ:Ev) (x:V) (d:D) (Q:VK) (Qd:Sl -> Prop),Rel K G F σ H ρ -> At K F H x d -> f d Qd ->
    (∀ v H' F' s,Sub F F' -> Rel K G F' σ H' ρ -> Res K G F' H' σ ρ v s -> Qd s -> Q v H') -> r [x] H Q):OpOk K r (o1 f):=by
 intro G F σ H ρ vs ds Q Qd R a w k
 match ds,a,w with
 | [d],a,w =>
  obtain ⟨v,rfl,h1⟩:=a.one
  exact h G F σ H ρ v d Q Qd R h1 w k
noncomputable def fI (C:Int -> Int -> Prop) (g:Int -> Int -> D):D -> D -> (Sl -> Prop) -> Prop
 | .int i,.int j,Q=>C i j /\ Q (.fz (g i j))
 | _,_,_=>False
noncomputable def fI0 (g:Int -> Int -> D):D -> D -> (Sl -> Prop) -> Prop
 | .int i,.int j,Q=>Q (.fz (g i j))
 | _,_,_=>False
theorem ok_I {K:Fg} {C:Int -> Int -> Prop} {g:Int -> Int -> V} {g':Int -> Int -> D} (hg:∀ F i j,Da K F (g i j) (g' i j)):OpOk K (r2L (rI C g)) (o2 (fI C g')):=ok2 fun G F σ H ρ x y d e Q Qd R h1 h2 w k=>by
 cases d <;> first | exact w.elim | skip
 cases e <;> first | exact w.elim | skip
 case int.int i j =>
  cases h1.int
  cases h2.int
  exact ⟨i,j,rfl,rfl,w.1,k _ H F (.fz _) (Sub.refl _) R (hg F i j) w.2⟩
theorem ok_I0 {K:Fg} {g:Int -> Int -> V} {g':Int -> Int -> D} (hg:∀ F i j,Da K F (g i j) (g' i j)):OpOk K (r2L (rI0 g)) (o2 (fI0 g')):=ok2 fun G F σ H ρ x y d e Q Qd R h1 h2 w k=>by
 cases d <;> first | exact w.elim | skip
 cases e <;> first | exact w.elim | skip
 case int.int i j =>
  cases h1.int
  cases h2.int
  exact ⟨i,j,rfl,rfl,k _ H F (.fz _) (Sub.refl _) R (hg F i j) w⟩
noncomputable def rAny (r r':R2):R2:=fun x y H Q=>r x y H Q \/ r' x y H Q
noncomputable def rCatB:R2:=fun x y H Q=>∃ (a b:Addr) (xs ys:List V),x = .ref a /\ y = .ref b /\ H a = some (.tup xs) /\ H b = some (.tup ys) /\ xs.length + ys.length <= sizeLine /\
 (xs = [] -> Q (.ref b) H) /\ (xs ≠ [] -> ys = [] -> Q (.ref a) H) /\ (xs ≠ [] -> ys ≠ [] -> ∀ p,H p = none -> Q (.ref p) (upd H p (.tup (xs ++ ys))))
noncomputable def fAdd:D -> D -> (Sl -> Prop) -> Prop
 | .int i,.int j,Q=>Q (.fz (.int (i + j)))
 | .tuple xs,.tuple ys,Q=>xs.length + ys.length <= sizeLine /\ Q (.fz (.tuple (xs ++ ys)))
 | .list xs,.list ys,Q=>xs.length + ys.length <= sizeLine /\ Q (.ow (.list (xs ++ ys)))
 | _,_,_=>False
theorem DaAll.nil_of {K:Fg} {F:Hp} {ds:List D} (h:DaAll K F [] ds):ds = []:=by cases h; rfl
theorem ok_add {K:Fg}:OpOk K (r2L (rAny (rI0 fun i j=>.int (i + j)) (rAny rCatB rCat))) (o2 fAdd):=ok2 fun G F σ H ρ x y d e Q Qd R h1 h2 w k=>by
 cases d <;> first | exact w.elim | (cases e <;> first | exact w.elim | skip)
 case int.int i j =>
  cases h1.int
  cases h2.int
  exact .inl ⟨i,j,rfl,rfl,k _ H F (.fz _) (Sub.refl _) R (Da.int _) w⟩
 case tuple.tuple xs ys =>
  obtain ⟨a,us,rfl,f1,e1,d1⟩:=h1.tuple R.sub
  obtain ⟨b,ws,rfl,f2,e2,d2⟩:=h2.tuple R.sub
  refine .inr (.inl ⟨a,b,us,ws,rfl,rfl,e1,e2,by rw [d1.length,d2.length]; exact w.1,fun z=>?_,fun _ z=>?_,fun _ _ p hp=>?_⟩)
  ·subst z
   have:=d1.nil_of
   subst this
   exact k _ H F (.fz _) (Sub.refl _) R (Da.tup f2 d2) w.2
  ·subst z
   have:=d2.nil_of
   subst this
   refine k _ H F (.fz _) (Sub.refl _) R (Da.tup f1 d1) ?_
   have:=w.2
   rw [List.append_nil] at this
   exact this
  ·obtain ⟨sb,R',dd⟩:=R.newTup hp (d1.append d2)
   exact k _ _ _ (.fz _) sb R' dd w.2
 case list.list xs ys =>
  obtain ⟨a,us,rfl,e1,d1⟩:=h1.list R.sub
  obtain ⟨b,ws,rfl,e2,d2⟩:=h2.list R.sub
  refine .inr (.inr ⟨a,b,us,ws,rfl,rfl,e1,e2,by rw [d1.length,d2.length]; exact w.1,fun p hp=>?_⟩)
  obtain ⟨R',r'⟩:=R.newOw (o:=.lst (us ++ ws)) (d:=.list (xs ++ ys)) hp (d1.append d2)
  exact k _ _ F _ (Sub.refl _) R' r' w.2
noncomputable def fMul:D -> D -> (Sl -> Prop) -> Prop
 | .int i,.int j,Q=>CMul i j /\ Q (.fz (.int (i * j)))
 | .list xs,.int k,Q=>-(2 ^ 63) <= k /\ k < 2 ^ 63 /\ xs.length * k.toNat <= sizeLine /\ Q (.ow (.list (List.replicate k.toNat xs).flatten))
 | _,_,_=>False
theorem ok_mul {K:Fg}:OpOk K (r2L (rAny (rI CMul fun i j=>.int (i * j)) rRep)) (o2 fMul):=ok2 fun G F σ H ρ x y d e Q Qd R h1 h2 w k=>by
 cases d <;> first | exact w.elim | (cases e <;> first | exact w.elim | skip)
 case int.int i j =>
  cases h1.int
  cases h2.int
  exact .inl ⟨i,j,rfl,rfl,w.1,k _ H F (.fz _) (Sub.refl _) R (Da.int _) w.2⟩
 case list.int xs j =>
  cases h2.int
  obtain ⟨a,us,rfl,e1,d1⟩:=h1.list R.sub
  refine .inr ⟨a,j,us,rfl,rfl,e1,w.1,w.2.1,by rw [d1.length]; exact w.2.2.1,fun p hp=>?_⟩
  obtain ⟨R',r'⟩:=R.newOw (o:=.lst (List.replicate j.toNat us).flatten) (d:=.list (List.replicate j.toNat xs).flatten) hp (d1.rep _)
  exact k _ _ F _ (Sub.refl _) R' r' w.2.2.2
noncomputable def fLen:D -> (Sl -> Prop) -> Prop
 | .list ds,Q=>Q (.fz (.int ds.length))
 | .tuple ds,Q=>Q (.fz (.int ds.length))
 | .dict [(.none,.list ds)],Q=>∃ ns:List Int,ds = ns.map PyData.int /\ Q (.fz (.int ns.length))
 | _,_=>False
theorem ok_len {K:Fg}:OpOk K (rLen K) (o1 fLen):=ok1 fun G F σ H ρ x d Q Qd R h1 w k=>by
 cases d <;> first | exact w.elim | skip
 case list ds =>
  obtain ⟨a,us,rfl,e1,d1⟩:=h1.list R.sub
  exact ⟨a,us,rfl,.inl (SqL.of e1),k _ H F (.fz _) (Sub.refl _) R (Da.int _) (by rw [d1.length]; exact w)⟩
 case tuple ds =>
  obtain ⟨a,us,rfl,_,e1,d1⟩:=h1.tuple R.sub
  exact ⟨a,us,rfl,.inr (SqT.of e1),k _ H F (.fz _) (Sub.refl _) R (Da.int _) (by rw [d1.length]; exact w)⟩
 case dict es =>
  rcases es with _ | ⟨⟨c1,c2⟩,_ | ⟨c3,c4⟩⟩
  ·exact w.elim
  ·cases c1 <;> first | exact w.elim | skip
   cases c2 <;> first | exact w.elim | skip
   obtain ⟨ns,rfl,w⟩:=w
   obtain ⟨a,rfl,q⟩:=h1.scr R.sub
   exact ⟨a,_,rfl,.inl q,k _ H F (.fz _) (Sub.refl _) R (Da.int _) (by rw [List.length_map]; exact w)⟩
  ·cases c1 <;> first | exact w.elim | (cases c2 <;> exact w.elim)
noncomputable def fIx:D -> D -> (Sl -> Prop) -> Prop
 | .list ds,.int i,Q=>∃ d,atI ds i = some d /\ Q (.fz d)
 | .tuple ds,.int i,Q=>∃ d,atI ds i = some d /\ Q (.fz d)
 | .dict [(.none,.list ds)],.int i,Q=>∃ (ns:List Int) (n:Int),ds = ns.map PyData.int /\ atI ns i = some n /\ Q (.fz (.int n))
 | _,_,_=>False
theorem DaAll.at {K:Fg} {F:Hp} {xs:List V} {ds:List D} {i:Int} {d:D} (h:DaAll K F xs ds) (e:atI ds i = some d):∃ v,atI xs i = some v /\ Da K F v d:=by
 unfold atI at e ⊢
 rw [h.length]
 cases q:ixN ds.length i with
 | none=>rw [q] at e; cases e
 | some j=>rw [q] at e; exact h.get e
theorem atI_map {α β:Type} (f:α -> β) {l:List α} {i:Int} {x:α} (h:atI l i = some x):atI (l.map f) i = some (f x):=by
 unfold atI at h ⊢
 rw [List.length_map]
 cases q:ixN l.length i with
 | none=>rw [q] at h; cases h
 | some j=>rw [q] at h; simp at h ⊢; exact ⟨x,h,rfl⟩
theorem ok_ix {K:Fg}:OpOk K (r2L (rAny (rIxL K) (rIxT K))) (o2 fIx):=ok2 fun G F σ H ρ x y d e Q Qd R h1 h2 w k=>by
 cases d <;> first | exact w.elim | skip
 case list ds =>
  cases e <;> first | exact w.elim | skip
  rename_i i
  obtain ⟨d,w1,w2⟩:=w
  cases h2.int
  obtain ⟨a,us,rfl,e1,d1⟩:=h1.list R.sub
  obtain ⟨v,g1,g2⟩:=d1.at w1
  exact .inl ⟨a,us,i,v,rfl,rfl,SqL.of e1,g1,k _ H F (.fz _) (Sub.refl _) R g2 w2⟩
 case tuple ds =>
  cases e <;> first | exact w.elim | skip
  rename_i i
  obtain ⟨d,w1,w2⟩:=w
  cases h2.int
  obtain ⟨a,us,rfl,_,e1,d1⟩:=h1.tuple R.sub
  obtain ⟨v,g1,g2⟩:=d1.at w1
  exact .inr ⟨a,us,i,v,rfl,rfl,SqT.of e1,g1,k _ H F (.fz _) (Sub.refl _) R g2 w2⟩
 case dict es =>
  rcases es with _ | ⟨⟨c1,c2⟩,_ | ⟨c3,c4⟩⟩
  ·exact w.elim
  ·cases c1 <;> first | exact w.elim | skip
   cases c2 <;> first | exact w.elim | skip
   cases e <;> first | exact w.elim | skip
   rename_i i
   obtain ⟨ns,n,e,w1,w2⟩:=w
   subst e
   cases h2.int
   obtain ⟨a,rfl,q⟩:=h1.scr R.sub
   exact .inl ⟨a,_,i,_,rfl,rfl,q,atI_map V.int w1,k _ H F (.fz _) (Sub.refl _) R (Da.int _) w2⟩
  ·cases c1 <;> first | exact w.elim | (cases c2 <;> exact w.elim)
noncomputable def fList:D -> (Sl -> Prop) -> Prop
 | .list ds,Q=>Q (.ow (.list ds))
 | .tuple ds,Q=>Q (.ow (.list ds))
 | _,_=>False
theorem ok_list {K:Fg}:OpOk K (rListOf K) (o1 fList):=ok1 fun G F σ H ρ x d Q Qd R h1 w k=>by
 match d,h1,w with
 | .list ds,h1,w =>
  obtain ⟨a,us,rfl,e1,d1⟩:=h1.list R.sub
  refine ⟨a,us,rfl,.inl (SqL.of e1),fun p hp=>?_⟩
  obtain ⟨R',r'⟩:=R.newOw (o:=.lst us) (d:=.list ds) hp d1
  exact k _ _ F _ (Sub.refl _) R' r' w
 | .tuple ds,h1,w =>
  obtain ⟨a,us,rfl,_,e1,d1⟩:=h1.tuple R.sub
  refine ⟨a,us,rfl,.inr (SqT.of e1),fun p hp=>?_⟩
  obtain ⟨R',r'⟩:=R.newOw (o:=.lst us) (d:=.list ds) hp d1
  exact k _ _ F _ (Sub.refl _) R' r' w
noncomputable def fTuple:D -> (Sl -> Prop) -> Prop
 | .list ds,Q=>Q (.fz (.tuple ds))
 | .tuple ds,Q=>Q (.fz (.tuple ds))
 | _,_=>False
theorem ok_tuple {K:Fg}:OpOk K (rTupleOf K) (o1 fTuple):=ok1 fun G F σ H ρ x d Q Qd R h1 w k=>by
 match d,h1,w with
 | .list ds,h1,w =>
  obtain ⟨a,us,rfl,e1,d1⟩:=h1.list R.sub
  refine ⟨a,us,rfl,.inl ⟨SqL.of e1,fun p hp=>?_⟩⟩
  obtain ⟨sb,R',dd⟩:=R.newTup hp d1
  exact k _ _ _ (.fz _) sb R' dd w
 | .tuple ds,h1,w =>
  obtain ⟨a,us,rfl,f1,e1,d1⟩:=h1.tuple R.sub
  exact ⟨a,us,rfl,.inr ⟨SqT.of e1,k _ H F (.fz _) (Sub.refl _) R (Da.tup f1 d1) w⟩⟩
noncomputable def fAll:D -> (Sl -> Prop) -> Prop
 | .list ds,Q=>∃ bs:List Bool,ds = bs.map PyData.bool /\ Q (.fz (.bool (bs.all id)))
 | _,_=>False
theorem DaAll.bools {K:Fg} {F:Hp}:∀ {xs:List V} {bs:List Bool},DaAll K F xs (bs.map PyData.bool) -> xs = bs.map V.bl
 | [],[],_=>rfl
 | x :: xs,b :: bs,.cons h t=>by cases h; simp [DaAll.bools t]
theorem ok_all {K:Fg}:OpOk K (rAll K) (o1 fAll):=ok1 fun G F σ H ρ x d Q Qd R h1 w k=>by
 match d,h1,w with
 | .list ds,h1,⟨bs,e,w⟩ =>
  subst e
  obtain ⟨a,us,rfl,e1,d1⟩:=h1.list R.sub
  have:=d1.bools
  subst this
  exact ⟨a,bs,rfl,SqL.of e1,k _ H F (.fz _) (Sub.refl _) R (Da.bl _) w⟩
noncomputable def kiD:D -> Ki
 | .none=>.non
 | .bool _=>.bl
 | .int _=>.int
 | .str _=>.str
 | .list _=>.lst
 | .tuple _=>.tup
 | .dict ((.none,_) :: _)=>.lst
 | .dict _=>.dct
noncomputable def fAbs:D -> (Sl -> Prop) -> Prop
 | .int i,Q=>Q (.fz (.int (if i < 0 then -i else i)))
 | _,_=>False
theorem ok_2I {K:Fg} {g:Int -> Int -> Int}:OpOk K (fun xs H Q=>∃ i j,xs = [V.int i,V.int j] /\ Q (V.int (g i j)) H) (o2 (fI0 fun i j=>.int (g i j))):=by
 intro G F σ H ρ vs ds Q Qd R a w k
 match ds,a,w with
 | [d,e],a,w =>
  obtain ⟨v,u,rfl,h1,h2⟩:=a.two
  have w:fI0 (fun i j=>.int (g i j)) d e Qd:=w
  unfold fI0 at w
  split at w
  rotate_left
  ·exact w.elim
  rename_i i j w
  cases h1.int
  cases h2.int
  exact ⟨i,j,rfl,k _ H F (.fz _) (Sub.refl _) R (Da.int _) w⟩
noncomputable def fInt:D -> (Sl -> Prop) -> Prop
 | .int i,Q=>Q (.fz (.int i))
 | .bool b,Q=>Q (.fz (.int (if b then 1 else 0)))
 | _,_=>False
theorem ok_int {K:Fg}:OpOk K (fun xs H Q=>(∃ i,xs = [V.int i] /\ Q (V.int i) H) \/ ∃ k,xs = [V.bl k] /\ Q (V.int (if k then 1 else 0)) H) (o1 fInt):=ok1 fun G F σ H ρ x d Q Qd R h1 w k=>by
 match d,h1,w with
 | .int i,h1,w=>cases h1.int; exact .inl ⟨i,rfl,k _ H F (.fz _) (Sub.refl _) R (Da.int _) w⟩
 | .bool b,h1,w=>cases h1.bool; exact .inr ⟨b,rfl,k _ H F (.fz _) (Sub.refl _) R (Da.int _) w⟩
noncomputable def fNeg:D -> (Sl -> Prop) -> Prop
 | .int i,Q=>Q (.fz (.int (-i)))
 | _,_=>False
theorem ok_neg {K:Fg}:OpOk K (r1L (rU fun i=>.int (-i))) (o1 fNeg):=ok1 fun G F σ H ρ x d Q Qd R h1 w k=>by
 match d,h1,w with
 | .int i,h1,w=>cases h1.int; exact ⟨_,rfl,i,rfl,k _ H F (.fz _) (Sub.refl _) R (Da.int _) w⟩
noncomputable def dOpF (as:List AD) (f:List D -> (Sl -> Prop) -> Prop):TD:=fun ρ Q=>dArgs as ρ fun xs ρ1=>match lentAny ρ1 xs with
 | false=>looksQ ρ1 xs fun ds=>f ds fun r=>Q r ρ1
 | true=>False
noncomputable def fTupD (ds:List D) (Q:Sl -> Prop):Prop:=Q (.fz (.tuple ds))
noncomputable def fLstD (ds:List D) (Q:Sl -> Prop):Prop:=Q (.ow (.list ds))
theorem le_size {n:Nat} (h:n <= 1000):n <= sizeLine:=Nat.le_trans h (by decide)
theorem l_tup {K:Fg} {as:List AD} (hl:as.length <= 1000) {σ:St} {H:Hp} {Q:VK} (h:lift K (dOpF as fTupD) σ H Q):tTup (tArgs (as.map (argT K))) σ H Q:=by
 obtain ⟨G,F,ρ,Qd,R,w,k⟩:=h
 refine args_okL R w fun vs H' F' xs ρ' sb R' o hn q=>?_
 split at q
 ·rename_i e
  obtain ⟨ds,da,q⟩:=noLent_looks R' e o q
  refine ⟨le_size (by omega),fun p hp=>?_⟩
  obtain ⟨s2,R2,dd⟩:=R'.newTup hp da
  exact k _ _ _ (.fz _) _ (sb.trans s2) R2 dd q
 ·exact q.elim
theorem l_lst {K:Fg} {as:List AD} (hl:as.length <= 1000) {σ:St} {H:Hp} {Q:VK} (h:lift K (dOpF as fLstD) σ H Q):tLst (tArgs (as.map (argT K))) σ H Q:=by
 obtain ⟨G,F,ρ,Qd,R,w,k⟩:=h
 refine args_okL R w fun vs H' F' xs ρ' sb R' o hn q=>?_
 split at q
 ·rename_i e
  obtain ⟨ds,da,q⟩:=noLent_looks R' e o q
  refine ⟨le_size (by omega),fun p hp=>?_⟩
  obtain ⟨R2,r2⟩:=R'.newOw (o:=.lst vs) (d:=.list ds) hp da
  exact k _ _ _ _ _ sb R2 r2 q
 ·exact q.elim
noncomputable def dChain (p q:Int -> Int -> Bool) (a b c:AD):TD:=fun ρ Q=>dArgs [a,b] ρ fun xs ρ1=>looksQ ρ1 xs fun ds=>match ds with
 | [.int i,.int j]=>if p i j = true then dArgs [c] ρ1 fun ys ρ2=>looksQ ρ2 ys fun es=>match es with
   | [.int k]=>Q (.fz (.bool (q j k))) ρ2
   | _=>False
  else Q (.fz (.bool false)) ρ1
 | _=>False
theorem l_chain {K:Fg} {p q:Int -> Int -> Bool} {a b c:AD} {σ:St} {H:Hp} {Q:VK} (h:lift K (dChain p q a b c) σ H Q) :
  tChain (rI0 fun i j=>.bl (p i j)) (rI0 fun i j=>.bl (q i j)) (argT K a) (argT K b) (argT K c) σ H Q:=by
 obtain ⟨G,F,ρ,Qd,R,w,k⟩:=h
 have main:tArgs ([a,b].map (argT K)) σ H fun vs H2=>∃ x y,vs = [x,y] /\ (rI0 fun i j=>V.bl (p i j)) x y H2 fun z H3=>∃ k,z = .bl k /\
   (if k = true then argT K c σ H3 fun w' H4=>(rI0 fun i j=>V.bl (q i j)) y w' H4 Q else Q (.bl false) H3):=by
  refine args_ok R w fun vs H' F' xs ρ' sb R' o w1=>?_
  obtain ⟨ds,ha,w1⟩:=looks_ok R' o w1
  split at w1
  ·rename_i i j
   obtain ⟨v,u,rfl,h1,h2⟩:=ha.two
   cases h1.int
   cases h2.int
   refine ⟨_,_,rfl,i,j,rfl,rfl,p i j,rfl,?_⟩
   by_cases e:p i j = true
   ·rw [if_pos e] at w1 ⊢
    have:=args_ok (as:=[c]) (Qv:=fun vs H4=>∃ w',vs = [w'] /\ (rI0 fun i j=>V.bl (q i j)) (V.int j) w' H4 Q) R' w1 fun vs H2 F2 ys ρ2 s2 R2 o2 w2=>by
     obtain ⟨es,hb,w2⟩:=looks_ok R2 o2 w2
     split at w2
     ·rename_i k'
      obtain ⟨v,rfl,h3⟩:=hb.one
      cases h3.int
      exact ⟨_,rfl,j,k',rfl,rfl,k _ H2 F2 (.fz _) ρ2 (sb.trans s2) R2 (Da.bl _) w2⟩
     ·exact w2.elim
    exact arg1 this
   ·rw [if_neg e] at w1 ⊢
    exact k _ H' F' (.fz _) ρ' sb R' (Da.bl _) w1
  ·exact w1.elim
 exact arg2 main
end L3
namespace L3
open PySem PySem.Spec L2
noncomputable def dMeth (i:Nat) (as:List AD) (f:List D -> List D -> (D -> D -> Prop) -> Prop):TD:=fun ρ Q=>match ρ[i]? with
 | some (some s0)=>match s0.d,isOw s0 with
  | .list _,true=>dArgs as ρ fun xs ρ1=>match ρ1[i]?,lentAny ρ1 xs with
   | some (some s),false=>match s.d,isOw s with
    | .list es,true=>looksQ ρ1 xs fun ds=>f es ds fun d' r=>Q (.fz r) (ρ1.set i (some (s.put d')))
    | _,_=>False
   | _,_=>False
  | _,_=>False
 | _=>False
noncomputable def MOk (K:Fg) (r:V -> List V -> Hp -> VK -> Prop) (f:List D -> List D -> (D -> D -> Prop) -> Prop):Prop :=
 ∀ (F H:Hp) (a:Addr) (xs:List V) (es:List D) (vs:List V) (ds:List D) (Q:VK) (k:D -> D -> Prop),Sub F H -> H a = some (.lst xs) -> DaAll K F xs es -> DaAll K F vs ds -> f es ds k ->
  (∀ v o' d' res,Own1 K F o' d' -> Da K F v res -> k d' res -> Q v (upd H a o')) -> r (.ref a) vs H Q
theorem l_meth {K:Fg} {i:Nat} {as:List AD} {r:V -> List V -> Hp -> VK -> Prop} {f:List D -> List D -> (D -> D -> Prop) -> Prop} (ok:MOk K r f) {σ:St} {H:Hp} {Q:VK} (h:lift K (dMeth i as f) σ H Q) :
  ∃ a xs,σ[i]? = some (some (V.ref a)) /\ SqL K H a xs /\ tArgs (as.map (argT K)) σ H fun vs H2=>r (.ref a) vs H2 Q:=by
 obtain ⟨G,F,ρ,Qd,R,w,k⟩:=h
 unfold dMeth at w
 split at w
 ·rename_i s0 e0
  split at w
  ·rename_i es0 p1 p2
   obtain ⟨a,o,g1,g2,g3,g4⟩:=R.ow i s0 e0 p2
   have gl:∃ xs,H a = some (.lst xs):=by
    rw [p1] at g4
    cases o <;> first | exact g4.elim | exact ⟨_,g3⟩
   obtain ⟨xs0,gl⟩:=gl
   refine ⟨a,xs0,g1,SqL.of gl,args_ok R w fun vs H1 F1 xs ρ1 s1 R1 o1 w1=>?_⟩
   split at w1
   ·rename_i s e en
    split at w1
    ·rename_i es q1 q2
     obtain ⟨ds,da,w1⟩:=noLent_looks R1 en o1 w1
     obtain ⟨a',o',h1,h2,h3,h4⟩:=R1.ow i s e q2
     rw [g1] at h1; cases h1
     rw [q1] at h4
     have hl:∃ us,o' = .lst us /\ DaAll K F1 us es:=by cases o' <;> first | exact h4.elim | exact ⟨_,rfl,h4⟩
     obtain ⟨us,rfl,h4⟩:=hl
     refine ok F1 H1 a us es vs ds Q _ R1.sub h3 h4 da w1 fun v o2 d2 res ho hv hk=>?_
     have R2:=R1.change (o':=o2) (d':=d2) e q2 g1 ho
     exact k v _ F1 (.fz res) _ s1 R2 hv hk
    ·exact w1.elim
   ·exact w1.elim
  ·exact w.elim
 ·exact w.elim
noncomputable def fAppend:List D -> List D -> (D -> D -> Prop) -> Prop
 | es,[x],k=>es.length < sizeLine /\ k (.list (es ++ [x])) .none
 | _,_,_=>False
theorem ok_append {K:Fg}:MOk K rAppend fAppend:=by
 intro F H a xs es vs ds Q k s e d1 d2 w q
 match ds,d2,w with
 | [x],.cons h .nil,w=>exact ⟨a,xs,_,rfl,rfl,e,by rw [d1.length]; exact w.1,q _ (.lst (xs ++ [_])) (.list (es ++ [x])) _ (d1.append (.cons h .nil)) .non w.2⟩
noncomputable def fExtend:List D -> List D -> (D -> D -> Prop) -> Prop
 | es,[.list ys],k=>es.length + ys.length <= sizeLine /\ k (.list (es ++ ys)) .none
 | _,_,_=>False
theorem ok_extend {K:Fg}:MOk K rExtend fExtend:=by
 intro F H a xs es vs ds Q k s e d1 d2 w q
 match ds,d2,w with
 | [.list ys],.cons h .nil,w =>
  cases h with
  | lst e2 t=>exact ⟨a,_,xs,_,rfl,rfl,e,s _ _ e2,by rw [d1.length,t.length]; exact w.1,q _ (.lst (xs ++ _)) (.list (es ++ ys)) _ (d1.append t) .non w.2⟩
noncomputable def fPop:List D -> List D -> (D -> D -> Prop) -> Prop
 | es,[],k=>∃ d,es[es.length - 1]? = some d /\ k (.list es.dropLast) d
 | _,_,_=>False
theorem ok_pop {K:Fg}:MOk K rPop fPop:=by
 intro F H a xs es vs ds Q k s e d1 d2 w q
 match ds,d2,w with
 | [],.nil,⟨d,w1,w2⟩ =>
  obtain ⟨v,h1,h2⟩:=d1.get w1
  exact ⟨a,xs,v,rfl,rfl,e,by rw [d1.length]; exact h1,q v (.lst xs.dropLast) (.list es.dropLast) d d1.dropLast h2 w2⟩
noncomputable def fInsert:List D -> List D -> (D -> D -> Prop) -> Prop
 | es,[.int i,x],k=>es.length < sizeLine /\ 0 <= i /\ i <= es.length /\ k (.list (es.take i.toNat ++ x :: es.drop i.toNat)) .none
 | _,_,_=>False
noncomputable def dSetIx (j:Nat) (ai:AD) (te:TD):TDS:=fun E ρ=>te ρ fun r ρ1=>match ρ1[j]? with
 | some (some _)=>dArgs [ai] ρ1 fun xs ρ2=>looksQ ρ2 xs fun ds=>match ds,ρ2[j]? with
  | [.int k],some (some s)=>match s.d,isOw s with
   | .list es,true=>∃ n,ixN es.length k = some n /\ E.nx (ρ2.set j (some (s.put (.list (es.set n r.d)))))
   | _,_=>False
  | _,_=>False
 | _=>False
theorem l_setIx {K:Fg} {j:Nat} {ai:AD} {te:TD} {σ:St} {H:Hp} {E:Ends} (h:liftS K (dSetIx j ai te) E σ H):tAsg (lift K te) (gSub (tVar j) (argT K ai) rSetL) E σ H:=by
 obtain ⟨G,F,ρ,D,R,w,n,r,b,c⟩:=h
 refine ⟨G,F,ρ,_,R,w,fun v H1 F1 x ρ1 s1 R1 r1 w1=>?_⟩
 obtain ⟨F2,s2,R2,d2⟩:=r1.frz R1
 split at w1
 ·rename_i s0 e0
  obtain ⟨u,eu⟩:=R2.bound e0
  refine ⟨u,eu,arg1 (P:=fun i H2=>rSetL u i v H2 fun H3=>E.nx σ H3) (args_ok R2 w1 fun vs H3 F3 xs ρ3 s3 R3 o3 w3=>?_)⟩
  obtain ⟨ds,ha,w3⟩:=looks_ok R3 o3 w3
  split at w3
  ·rename_i k s e
   obtain ⟨iv,rfl,hi⟩:=ha.one
   cases hi.int
   split at w3
   ·rename_i es p1 p2
    obtain ⟨m,w4,w5⟩:=w3
    obtain ⟨a,o,g1,g2,g3,g4⟩:=R3.ow j s e p2
    rw [eu] at g1; cases g1
    rw [p1] at g4
    have hl:∃ us,o = .lst us /\ DaAll K F3 us es:=by cases o <;> first | exact g4.elim | exact ⟨_,rfl,g4⟩
    obtain ⟨us,rfl,g4⟩:=hl
    refine ⟨_,rfl,a,us,k,m,rfl,rfl,g3,by rw [g4.length]; exact w4,?_⟩
    have R4:=R3.change (o':=.lst (us.set m v)) (d':=.list (es.set m x.d)) e p2 eu (g4.set (d2.mono s3) m)
    exact n σ _ F3 _ (s1.trans (s2.trans s3)) R4 w5
   ·exact w3.elim
  ·exact w3.elim
 ·exact w1.elim
noncomputable def iSeq (K:Fg) (tl:TE):TI:=fun σ H R=>tl σ H fun x H1=>∃ a,x = .ref a /\ (((∃ xs,SqL K H1 a xs) /\ R (Itl K a) H1) \/ ((∃ xs,SqT K H1 a xs) /\ R (Itt K a) H1))
noncomputable def dISeq (a:TD):TDI:=fun ρ Q=>a ρ fun r ρ1=>match r.d with
 | .list ds=>Q ds ρ1
 | .tuple ds=>Q ds ρ1
 | _=>False
theorem walks_list {K:Fg} {F:Hp} {a:Addr} {xs:List V} {ds:List D} (e:F a = some (.lst xs)) (h:DaAll K F xs ds):Walks K (Itl K a) F ds:=fun i H F1 s1 s2=>by
 have q:=SqL.of (K:=K) (s2 _ _ (s1 _ _ e))
 refine ⟨fun d ed=>?_,fun hl=>⟨xs,q,by rw [h.length]; omega⟩⟩
 obtain ⟨v,h1,h2⟩:=h.get ed
 refine ⟨⟨xs,v,q,h1⟩,fun x H' ⟨e1,e2⟩=>?_⟩
 subst e1
 have:=e2 xs q
 rw [h1] at this; cases this
 exact ⟨F1,Sub.refl _,fun _ _ z=>.inl z,s2,Sub.refl _,h2.mono s1⟩
theorem walks_tup {K:Fg} {F:Hp} {a:Addr} {xs:List V} {ds:List D} (e:F a = some (.tup xs)) (h:DaAll K F xs ds):Walks K (Itt K a) F ds:=fun i H F1 s1 s2=>by
 have q:=SqT.of (K:=K) (s2 _ _ (s1 _ _ e))
 refine ⟨fun d ed=>?_,fun hl=>⟨xs,q,by rw [h.length]; omega⟩⟩
 obtain ⟨v,h1,h2⟩:=h.get ed
 refine ⟨⟨xs,v,q,h1⟩,fun x H' ⟨e1,e2⟩=>?_⟩
 subst e1
 have:=e2 xs q
 rw [h1] at this; cases this
 exact ⟨F1,Sub.refl _,fun _ _ z=>.inl z,s2,Sub.refl _,h2.mono s1⟩
theorem l_iseq {K:Fg} {a:TD} {σ:St} {H:Hp} {R:It -> Hp -> Prop} (h:liftI K (dISeq a) σ H R):iSeq K (lift K a) σ H R:=by
 obtain ⟨G,F,ρ,Qd,Rl,w,k⟩:=h
 refine ⟨G,F,ρ,_,Rl,w,fun v H1 F1 r ρ1 s1 R1 r1 w1=>?_⟩
 obtain ⟨F2,s2,R2,d2⟩:=r1.frz R1
 split at w1
 ·rename_i ds e
  rw [e] at d2
  cases d2 with
  | lst q t=>exact ⟨_,rfl,.inl ⟨⟨_,SqL.of (R2.sub _ _ q)⟩,k _ H1 F2 ds ρ1 (s1.trans s2) R2 (walks_list q t) w1⟩⟩
 ·rename_i ds e
  rw [e] at d2
  cases d2 with
  | tup q t=>exact ⟨_,rfl,.inr ⟨⟨_,SqT.of (R2.sub _ _ q)⟩,k _ H1 F2 ds ρ1 (s1.trans s2) R2 (walks_tup q t) w1⟩⟩
 ·exact w1.elim
noncomputable def rangeD (lo:Int) (n:Nat):List D:=(List.range n).map fun (i:Nat)=>PyData.int (lo + i)
theorem walks_range {K:Fg} {F:Hp} {lo:Int} {n:Nat}:Walks K (Itr lo n) F (rangeD lo n):=fun i H F1 s1 s2=>by
 have hl:(rangeD lo n).length = n:=by simp [rangeD]
 refine ⟨fun d ed=>?_,fun h=>by rw [hl] at h; exact Nat.le_of_eq h⟩
 have hi:i < n:=by have:=lt_of_get ed; rw [hl] at this; exact this
 have e:(rangeD lo n)[i]? = some (.int (lo + i)):=by simp [rangeD,hi]
 rw [e] at ed; cases ed
 refine ⟨hi,fun x H' ⟨e1,e2⟩=>?_⟩
 subst e1 e2
 exact ⟨F1,Sub.refl _,fun _ _ z=>.inl z,s2,Sub.refl _,.int _⟩
noncomputable def dIRng1 (a:AD):TDI:=fun ρ Q=>dArgs [a] ρ fun xs ρ1=>looksQ ρ1 xs fun ds=>match ds with
 | [.int j]=>-(2 ^ 62) <= j /\ j < 2 ^ 62 /\ Q (rangeD 0 j.toNat) ρ1
 | _=>False
theorem l_rng1 {K:Fg} {a:AD} {σ:St} {H:Hp} {R:It -> Hp -> Prop} (h:liftI K (dIRng1 a) σ H R):iRng1 (tArgs ([a].map (argT K))) σ H R:=by
 obtain ⟨G,F,ρ,Qd,Rl,w,k⟩:=h
 refine args_ok Rl w fun vs H' F' xs ρ' sb R' o w1=>?_
 obtain ⟨ds,ha,w1⟩:=looks_ok R' o w1
 split at w1
 ·rename_i j
  obtain ⟨v,rfl,h1⟩:=ha.one
  cases h1.int
  exact ⟨j,rfl,w1.1,w1.2.1,k _ H' F' _ ρ' sb R' walks_range w1.2.2⟩
 ·exact w1.elim
noncomputable def SeqF (K:Fg) (F:Hp) (v:V) (ds:List D):Prop:=∃ k a xs,v = .ref a /\ (F a = some (match k with | Kd.l=>HO.lst xs | Kd.t=>HO.tup xs)) /\ DaAll K F xs ds
theorem sq_of {K:Fg} {H:Hp} {a:Addr} {xs:List V} {k:Kd} (e:H a = some (match k with | Kd.l=>HO.lst xs | Kd.t=>HO.tup xs)):Sq k K H a xs:=by
 cases k with
 | l=>exact SqL.of e
 | t=>exact SqT.of e
noncomputable def seqD:D -> Option (List D)
 | .list ds=>some ds
 | .tuple ds=>some ds
 | _=>none
theorem seqF_of {K:Fg} {F:Hp} {v:V} {d:D} {ds:List D} (h:Da K F v d) (e:seqD d = some ds):∃ k a xs,v = .ref a /\ (F a = some (match k with | Kd.l=>HO.lst xs | Kd.t=>HO.tup xs)) /\ DaAll K F xs ds:=by
 cases h with
 | lst q t=>cases e; exact ⟨.l,_,_,rfl,q,t⟩
 | tup q t=>cases e; exact ⟨.t,_,_,rfl,q,t⟩
 | non=>cases e
 | bl=>cases e
 | int=>cases e
 | str=>cases e
 | dk _ _=>cases e
 | dt _ _=>cases e
 | scr _=>cases e
 | exc _=>cases e
 | opq _=>cases e
 | pd _ _=>cases e
 | bd _ _=>cases e
noncomputable def zipD (ds es:List D):List D:=(ds.zip es).map fun p=>PyData.tuple [p.1,p.2]
noncomputable def dIZip2 (a b:AD):TDI:=fun ρ Q=>dArgs [a,b] ρ fun xs ρ1=>match lentAny ρ1 xs with
 | false=>looksQ ρ1 xs fun ds=>match ds with
  | [x,y]=>match seqD x,seqD y with
   | some us,some ws=>Q (zipD us ws) ρ1
   | _,_=>False
  | _=>False
 | true=>False
theorem walks_zip2 {K:Fg} {F:Hp} {a b:Addr} {k1 k2:Kd} {xs ys:List V} {ds es:List D} (e1:F a = some (match k1 with | Kd.l=>HO.lst xs | Kd.t=>HO.tup xs)) (h1:DaAll K F xs ds)
  (e2:F b = some (match k2 with | Kd.l=>HO.lst ys | Kd.t=>HO.tup ys)) (h2:DaAll K F ys es):Walks K (Itz2 K k1 k2 a b) F (zipD ds es):=fun i H F1 s1 s2=>by
 have q1:Sq k1 K H a xs:=sq_of (s2 _ _ (s1 _ _ e1))
 have q2:Sq k2 K H b ys:=sq_of (s2 _ _ (s1 _ _ e2))
 refine ⟨fun d ed=>?_,fun hl=>⟨xs,ys,q1,q2,?_⟩⟩
 ·simp only [zipD,List.getElem?_map,Option.map_eq_some_iff] at ed
  obtain ⟨⟨x,y⟩,ez,rfl⟩:=ed
  rw [List.getElem?_zip_eq_some] at ez
  obtain ⟨v,g1,g2⟩:=h1.get ez.1
  obtain ⟨u,g3,g4⟩:=h2.get ez.2
  refine ⟨⟨xs,v,ys,u,q1,q2,g1,g3⟩,fun z H' ⟨T,x1,x2,hT,ex,eH,f1,f2⟩=>?_⟩
  subst ex eH
  have f1:=f1 xs q1
  have f2:=f2 ys q2
  rw [g1] at f1; cases f1
  rw [g3] at f2; cases f2
  have fT:F1 T = none:=by
   cases z:F1 T with
   | none=>rfl
   | some o=>rw [s2 _ _ z] at hT; cases hT
  refine ⟨upd F1 T (.tup [v,u]),Sub.new fT,fun c o ec=>?_,fun c o ec=>?_,Sub.new hT,.tup upd_same (.cons (g2.mono (s1.trans (Sub.new fT))) (.cons (g4.mono (s1.trans (Sub.new fT))) .nil))⟩
  ·by_cases z:c = T
   ·subst z; exact .inr hT
   ·rw [upd_ne z] at ec; exact .inl ec
  ·by_cases z:c = T
   ·subst z; rw [upd_same] at ec ⊢; exact ec
   ·rw [upd_ne z] at ec ⊢; exact s2 _ _ ec
 ·simp only [zipD,List.length_map,List.length_zip] at hl
  rw [h1.length,h2.length]
  omega
theorem l_zip2 {K:Fg} {a b:AD} {σ:St} {H:Hp} {R:It -> Hp -> Prop} (h:liftI K (dIZip2 a b) σ H R):iZip2 K (tArgs ([a,b].map (argT K))) σ H R:=by
 obtain ⟨G,F,ρ,Qd,Rl,w,k⟩:=h
 refine args_ok Rl w fun vs H' F' xs ρ' sb R' o w1=>?_
 split at w1
 ·rename_i e
  obtain ⟨ds,da,w1⟩:=noLent_looks R' e o w1
  split at w1
  ·rename_i x y
   split at w1
   ·rename_i us ws p1 p2
    cases da with
    | cons d1 t =>
     cases t with
     | cons d2 t =>
      cases t
      obtain ⟨k1,a1,us',rfl,e1,g1⟩:=seqF_of d1 p1
      obtain ⟨k2,a2,ws',rfl,e2,g2⟩:=seqF_of d2 p2
      exact ⟨k1,a1,us',k2,a2,ws',rfl,sq_of (R'.sub _ _ e1),sq_of (R'.sub _ _ e2),k _ H' F' _ ρ' sb R' (walks_zip2 e1 g1 e2 g2) w1⟩
   ·exact w1.elim
  ·exact w1.elim
 ·exact w1.elim
end L3
namespace L3
open PySem PySem.Spec L2
section
variable {K:Fg} {F H:Hp}
theorem DaAll.keys:∀ {xs:List V} {ks:List Key},DaAll K F xs (ks.map keyD) -> xs = ks.map kV
 | [],[],_=>rfl
 | x :: xs,k :: ks,.cons h t=>by
  have e:x = kV k:=by cases k <;> (cases h; rfl)
  rw [e,DaAll.keys t]; rfl
end
end L3
namespace L3
open PySem PySem.Spec PyProof.Rows L2
noncomputable def notStar:Expr -> Bool
 | .Starred _ _=>false
 | _=>true
theorem starEach_of {e:Expr} {es:List Expr} {env:Env} (h:notStar e = true):starEach (e :: es) env = (false,eval e env) :: starEach es env:=by
 cases e <;> first | rfl | cases h
theorem plain_of {env:Env} {pos:Pos}:∀ {es:List Expr},es.all notStar = true -> (backTo pos (starEach es env)).any (·.1) = false:=by
 intro es
 induction es with
 | nil=>intro _; rfl
 | cons e es ih =>
  intro h
  simp only [List.all_cons,Bool.and_eq_true] at h
  rw [starEach_of h.1]
  have:=ih h.2
  simp [backTo] at this ⊢
  exact this
noncomputable def notSet:Expr -> Bool
 | .Set _ _ _=>false
 | _=>true
theorem folded_of {e:Expr} {env:Env} (h:notSet e = true) (x:Value):foldedSetIterable e env x = pure x:=by
 cases e <;> first | rfl | cases h
noncomputable def notComp:Expr -> Bool
 | .ListComp _ _ _ _=>false
 | .SetComp _ _ _ _=>false
 | .DictComp _ _ _ _ _=>false
 | _=>true
theorem swaps_of {e:Expr} {t:Option Expr} {n:Nat} {env:Env} (h:notComp e = true):swapsWith e t n env = pure false:=by
 cases e <;> first | rfl | cases h
section
variable {X:Cx} {K:Fg}
theorem peM {e:Expr} {t t':TE} (h:PE X e t) (m:∀ {σ H Q},t' σ H Q -> t σ H Q):PE X e t':=fun pins s σ H Q I w=>h pins s σ H Q I (m w)
theorem ptM {e:Expr} {t t':TT} (h:PT X e t) (m:∀ {σ H Q},t' σ H Q -> t σ H Q):PT X e t':=fun pins s σ H Q I w=>h pins s σ H Q I (m w)
theorem pwM {e:Expr} {t t':TT} (h:PW X e t) (m:∀ {σ H Q},t' σ H Q -> t σ H Q):PW X e t':=fun wh pins s σ H Q I w=>h wh pins s σ H Q I (m w)
theorem psM {e:Stmt} {t t':TS} (h:PS X e t) (m:∀ {D σ H},t' D σ H -> t D σ H):PS X e t':=fun pins s σ H D I w=>h pins s σ H D I (m w)
theorem pssM {e:List Stmt} {t t':TS} (h:PSs X e t) (m:∀ {D σ H},t' D σ H -> t D σ H):PSs X e t':=fun pins s σ H D I w=>h pins s σ H D I (m w)
theorem pgM {e:Expr} {t t':TG} (h:PG X e t) (m:∀ {v σ H Q},t' v σ H Q -> t v σ H Q):PG X e t':=by
 unfold PG at h ⊢
 intros
 exact h _ _ _ _ _ _ _ (by assumption) (by assumption) (m (by assumption))
theorem piM {g e:Expr} {t t':TI} (h:PI X g e t) (m:∀ {σ H R},t' σ H R -> t σ H R):PI X g e t':=fun pins s σ H R I w=>h pins s σ H R I (m w)
theorem pifM {es:List Expr} {t t':TT} (h:PIf X es t) (m:∀ {σ H Q},t' σ H Q -> t σ H Q):PIf X es t':=fun pins s σ H Q I w=>h pins s σ H Q I (m w)
theorem da_cons {e:Expr} {es:List Expr} {a:AD} {as:List AD} (ha:PE X e (argT K a)) (hr:PA X es (tArgs (as.map (argT K)))) (hs:starEach (e :: es) X.env = (false,eval e X.env) :: starEach es X.env:=by exact starEach_of rfl):PA X (e :: es) (tArgs ((a :: as).map (argT K))):=pa_cons ha hr hs
variable {e:Expr} {a b c:AD} {as:List AD} {td te:TD} {tc td':TTD}
theorem cv_var {i:Nat} (h:PE X e (tVar i)):PE X e (lift K (dVar i)):=peM h l_var
theorem cv_c {v:V} {d:D} (hv:∀ F,Da K F v d) (h:PE X e (tC v)):PE X e (lift K (dC d)):=peM h (l_c hv)
theorem cv2 {r:R2} {f:D -> D -> (Sl -> Prop) -> Prop} (ok:OpOk K (r2L r) (o2 f)) (h:PE X e (tOp r (argT K a) (argT K b))):PE X e (lift K (dOp [a,b] (o2 f))):=peM h fun q=>arg2 (l_op ok q)
theorem cvu {r:V -> Hp -> VK -> Prop} {f:D -> (Sl -> Prop) -> Prop} (ok:OpOk K (r1L r) (o1 f)) (h:PE X e (tUn r (argT K a))):PE X e (lift K (dOp [a] (o1 f))):=peM h fun q=>arg1 (l_op ok q)
theorem cvB {r:List V -> Hp -> VK -> Prop} {f:List D -> (Sl -> Prop) -> Prop} (ok:OpOk K r f) (h:PE X e (tCB r (tArgs (as.map (argT K))))):PE X e (lift K (dOp as f)):=peM h fun q=>l_op ok q
theorem cv_tup (hl:as.length <= 1000) (h:PE X e (tTup (tArgs (as.map (argT K))))):PE X e (lift K (dOpF as fTupD)):=peM h (l_tup hl)
theorem cv_lst (hl:as.length <= 1000) (h:PE X e (tLst (tArgs (as.map (argT K))))):PE X e (lift K (dOpF as fLstD)):=peM h (l_lst hl)
theorem cv_chain {p q:Int -> Int -> Bool} (h:PE X e (tChain (rI0 fun i j=>.bl (p i j)) (rI0 fun i j=>.bl (q i j)) (argT K a) (argT K b) (argT K c))):PE X e (lift K (dChain p q a b c)):=peM h l_chain
theorem cv_and (h:PE X e (tAndV (lift K td) (lift K te))):PE X e (lift K (dAndV td te)):=peM h l_andV
theorem cv_or (h:PE X e (tOrV (lift K td) (lift K te))):PE X e (lift K (dOrV td te)):=peM h l_orV
theorem cv_not (h:PE X e (tNotV (lift K td))):PE X e (lift K (dNotV td)):=peM h l_notV
theorem cv_fn {con:Con} {E:XK} (h:PE X e (tCall (conSp K con) [] E (tArgs (as.map (argT K))))):PE X e (lift K (dCall con as)):=peM h l_call
theorem cv_fnI {con:Con} {E:XK} {i:Nat} (h:PE X e (tCall (conSp K con) [] E (tArgs ((Sum.inl i :: as).map (argT K))))):PE X e (lift K (dCallI con i as)):=peM h l_callI
theorem cv_m {i:Nat} {r:V -> List V -> Hp -> VK -> Prop} {f:List D -> List D -> (D -> D -> Prop) -> Prop} (ok:MOk K r f) (h:PE X e (tBM K "list" r (tVar i) (tArgs (as.map (argT K))))):PE X e (lift K (dMeth i as f)):=peM h fun q=>by
 obtain ⟨a,xs,e1,sq,w⟩:=l_meth ok q
 exact ⟨_,e1,.inl ⟨rfl,xs,sq⟩,w⟩
theorem cv_m0 {i:Nat} {r:V -> List V -> Hp -> VK -> Prop} {f:List D -> List D -> (D -> D -> Prop) -> Prop} (ok:MOk K r f) (h:PE X e (tBM0 K "list" r (tVar i))):PE X e (lift K (dMeth i [] f)):=peM h fun q=>by
 obtain ⟨a,xs,e1,sq,w⟩:=l_meth ok q
 exact ⟨_,e1,.inl ⟨rfl,xs,sq⟩,w⟩
theorem ct2 {r:R2} {f:D -> D -> (Sl -> Prop) -> Prop} (ok:OpOk K (r2L r) (o2 f)) (h:PT X e (tTest (tOp r (argT K a) (argT K b)))):PT X e (liftT K (dTst (dOp [a,b] (o2 f)))):=ptM h fun q=>l_tst (fun z=>arg2 (l_op ok z)) q
theorem ct_val (h:PT X e (tB (lift K td))):PT X e (liftT K (dTst td)):=ptM h fun q=>l_tst (fun z=>z) q
theorem ct_not (h:PT X e (tNot (liftT K tc))):PT X e (liftT K (dNot tc)):=ptM h l_not
theorem cw_and (h:PW X e (tAnd (liftT K tc) (liftT K td'))):PW X e (liftT K (dAnd tc td')):=pwM h l_and
theorem cw_or (h:PW X e (tOr (liftT K tc) (liftT K td'))):PW X e (liftT K (dOr tc td')):=pwM h l_or
variable {st:Stmt} {sts:List Stmt} {t u:TDS}
theorem cs_next (h:PSs X sts tNext):PSs X sts (liftS K dNext):=pssM h l_next
theorem cs_seq (h:PSs X sts (tSeq (liftS K t) (liftS K u))):PSs X sts (liftS K (dSeq t u)):=pssM h l_seq
theorem cs_ret (h:PS X st (tRet (lift K td))):PS X st (liftS K (dRet td)):=psM h l_ret
theorem cs_retV {i:Nat} (h:PS X st (tRet (tVar i))):PS X st (liftS K (dRetV i)):=psM h l_retV
theorem cs_move {i j:Nat} (h:PS X st (tAsg (tVar j) (gName i))):PS X st (liftS K (dMove i j)):=psM h l_move
theorem cs_drop (h:PS X st (tDrop (lift K td))):PS X st (liftS K (dDrop td)):=psM h l_drop
theorem cs_if (h:PS X st (tIfS (liftT K tc) (liftS K t) (liftS K u))):PS X st (liftS K (dIfS tc t u)):=psM h l_ifS
theorem cs_set {i:Nat} (h:PS X st (tAsg (lift K td) (gName i))):PS X st (liftS K (dSet i td)):=psM h l_set
theorem cs_ix {j:Nat} (h:PS X st (tAsg (lift K td) (gSub (tVar j) (argT K a) rSetL))):PS X st (liftS K (dSetIx j a td)):=psM h l_setIx
theorem cs_while (h:PS X st (tWhile (liftT K tc) (liftS K t))):PS X st (liftS K (dWhile tc t)):=psM h l_while
noncomputable def dAsgG (g:TDG) (a:TD):TDS:=fun E ρ=>a ρ fun r ρ'=>g r.d ρ' E.nx
theorem l_asgG {g:TDG} {E:Ends} {σ:L2.St} {H:Hp} (h:liftS K (dAsgG g td) E σ H):tAsg (lift K td) (liftG K g) E σ H:=by
 obtain ⟨G,F,ρ,D,R,w,n,r,b,c⟩:=h
 refine ⟨G,F,ρ,_,R,w,fun v H' F' x ρ' s R' r' q=>?_⟩
 obtain ⟨F2,s2,R2,d2⟩:=r'.frz R'
 exact ⟨G,F2,ρ',x.d,_,R2,d2,q,fun σ3 ρ3 R3 w3=>n σ3 H' F2 ρ3 (s.trans s2) R3 w3⟩
theorem cs_asgG {g:TDG} (h:PS X st (tAsg (lift K td) (liftG K g))):PS X st (liftS K (dAsgG g td)):=psM h l_asgG
theorem cg_name {i:Nat} (h:PG X e (gName i)):PG X e (liftG K (dGN i)):=pgM h l_gn
theorem cg_tup {n:Nat} {gs:List TDG} (h:PG X e (gTup K n (gAll (gs.map (liftG K))))) (hn:gs.length = n:=by rfl):PG X e (liftG K (dGT gs)):=pgM h (l_gt hn)
theorem cgs_cons {es:List Expr} {g:TDG} {gs:List TDG} (h1:PG X e (liftG K g)) (h2:PGs X es (gAll (gs.map (liftG K)))) (hs:(assignEach (e :: es) X.env).map (·.2) = assign e X.env :: (assignEach es X.env).map (·.2):=by rfl):PGs X (e :: es) (gAll ((g :: gs).map (liftG K))):=pgs_cons h1 h2 hs
theorem cif_nil:PIf X [] (liftT K dYes):=pifM if_nil l_yes
variable {tg:Expr}
theorem pi_seqD {l:Expr} {tl:TE} (hK:X.K = K) (hl:PE X l tl):PI X tg l (iSeq K tl):=by
 subst hK
 intro pins s σ H R I h
 refine thn (hl pins s σ H _ I h) fun v s1 ⟨x,H1,I1,r1,q1⟩=>?_
 obtain ⟨a,e,q1⟩:=q1
 subst e
 cases r1
 rcases q1 with ⟨⟨xs,hq⟩,q⟩ | ⟨⟨xs,hq⟩,q⟩
 ·obtain ⟨its,rv,p,hz⟩:=I1.list hq
  refine wpAny_pyIter_list p.isList ?_
  refine ⟨s1.heap.objs.size,[s1.heap.objs.size],_,_,H1,rfl,I1.kept (t':=s1.toks) fun b o e=>Heap.get?_push_of_some _ e,turn_list a _,⟨_,Heap.get?_push_size _ rfl,rfl,rfl⟩,fun b hb=>?_,q⟩
  have e:b = s1.heap.objs.size:=by simpa using hb
  subst e
  exact I1.fpOk (Nat.le_refl _) (I1.hok.fresh (Nat.le_refl _))
 ·obtain ⟨its,rv,p,hz⟩:=I1.tuple hq
  refine wpAny_pyIter_tuple (show s1.heap.IsTuple a its.toArray from p) ?_
  refine ⟨s1.heap.objs.size,[s1.heap.objs.size],_,_,H1,rfl,I1.kept (t':=s1.toks) fun b o e=>Heap.get?_push_of_some _ e,turn_tuple a _,⟨_,Heap.get?_push_size _ rfl,rfl,rfl⟩,fun b hb=>?_,q⟩
  have e:b = s1.heap.objs.size:=by simpa using hb
  subst e
  exact I1.fpOk (Nat.le_refl _) (I1.hok.fresh (Nat.le_refl _))
theorem ci_seq {l:Expr} (hK:X.K = K) (hl:PE X l (lift K td)):PI X tg l (liftI K (dISeq td)):=piM (pi_seqD hK hl) l_iseq
theorem ci_rng1 {l:Expr} (h:PI X tg l (iRng1 (tArgs ([a].map (argT K))))):PI X tg l (liftI K (dIRng1 a)):=piM h l_rng1
theorem ci_zip2 {l:Expr} (h:PI X tg l (iZip2 K (tArgs ([a,b].map (argT K))))):PI X tg l (liftI K (dIZip2 a b)):=piM h l_zip2
noncomputable def CMod (_ j:Int):Prop:=0 < j
theorem op_catB:OpR X (binaryOp .Add) rCatB:=by
 intro pins s σ H x y v u Q I rx ry h
 obtain ⟨a,b,xs,ys,rfl,rfl,ha,hb,hz,q1,q2,q3⟩:=h
 have ha':SqT X.K H a xs:=SqT.of ha
 have hb':SqT X.K H b ys:=SqT.of hb
 by_cases hx:xs = []
 ·subst hx
  cases rx
  cases ry
  obtain ⟨its,r1,p1,_⟩:=I.tuple ha'
  obtain ⟨its2,r2,p2,_⟩:=I.tuple hb'
  cases r1
  exact cat_tup0 p1 p2 ⟨.ref b,H,I,rfl,q1 rfl⟩
 ·exact op_catT pins s σ H (.ref a) (.ref b) v u Q I rx ry ⟨a,b,xs,ys,rfl,rfl,ha',hb',hx,hz,fun e=>q2 hx e,fun e p hp=>q3 hx e p hp⟩
theorem op_addD:OpR X (binaryOp .Add) (rAny (rI0 fun i j=>.int (i + j)) (rAny rCatB rCat)):=op_add.or (op_catB.or op_cat)
theorem op_mulD:OpR X (binaryOp .Mult) (rAny (rI CMul fun i j=>.int (i * j)) rRep):=op_mul.or op_rep
theorem ok_sub:OpOk K (r2L (rI0 fun i j=>.int (i - j))) (o2 (fI0 fun i j=>.int (i - j))):=ok_I0 fun _ _ _=>.int _
theorem ok_fdiv:OpOk K (r2L (rI CDiv fun i j=>.int (i / j))) (o2 (fI CDiv fun i j=>.int (i / j))):=ok_I fun _ _ _=>.int _
theorem ok_mod:OpOk K (r2L (rI (fun _ j=>0 < j) fun i j=>.int (i % j))) (o2 (fI CMod fun i j=>.int (i % j))):=ok_I (C:=CMod) fun _ _ _=>.int _
theorem ok_pow:OpOk K (r2L (rI CPow fun i j=>.int (i ^ j.toNat))) (o2 (fI CPow fun i j=>.int (i ^ j.toNat))):=ok_I fun _ _ _=>.int _
theorem ok_lt:OpOk K (r2L (rI0 fun i j=>.bl (decide (i < j)))) (o2 (fI0 fun i j=>.bool (decide (i < j)))):=ok_I0 fun _ _ _=>.bl _
theorem ok_le:OpOk K (r2L (rI0 fun i j=>.bl (decide (i <= j)))) (o2 (fI0 fun i j=>.bool (decide (i <= j)))):=ok_I0 fun _ _ _=>.bl _
theorem ok_gt:OpOk K (r2L (rI0 fun i j=>.bl (decide (j < i)))) (o2 (fI0 fun i j=>.bool (decide (j < i)))):=ok_I0 fun _ _ _=>.bl _
theorem ok_ge:OpOk K (r2L (rI0 fun i j=>.bl (decide (j <= i)))) (o2 (fI0 fun i j=>.bool (decide (j <= i)))):=ok_I0 fun _ _ _=>.bl _
theorem ix_seqD (hK:X.K = K):IxR X (rAny (rIxL K) (rIxT K)):=(ix_listK hK).or (ix_tupK hK)
end
mutual
noncomputable def plainD:D -> Bool
 | .none=>true
 | .bool _=>true
 | .int _=>true
 | .str _=>true
 | .list xs=>plainAll xs
 | .tuple xs=>plainAll xs
 | .dict _=>false
noncomputable def plainAll:List D -> Bool
 | []=>true
 | x :: xs=>plainD x && plainAll xs
end
section
variable {K:Fg} {F H:Hp}
mutual
theorem Da.is (s:Sub F H):∀ {v:V} {d:D},Da K F v d -> plainD d = true -> Is K H v d
 | _,_,.non,_=>.non
 | _,_,.bl b,_=>.bl b
 | _,_,.int i,_=>.int i
 | _,_,.str x,_=>.str x
 | _,_,.lst e t,z=>.lst (SqL.of (s _ _ e)) (DaAll.is s t (by simpa [plainD] using z))
 | _,_,.tup e t,z=>.tup (SqT.of (s _ _ e)) (DaAll.is s t (by simpa [plainD] using z))
 | _,_,.dk _ _,z=>by simp [plainD] at z
 | _,_,.dt _ _,z=>by simp [plainD] at z
 | _,_,.scr _,z=>by simp [plainD,scrD] at z
 | _,_,.exc _,z=>by simp [plainD,excD] at z
 | _,_,.opq _,z=>by simp [plainD,opqD] at z
 | _,_,.pd _ _,z=>by simp [plainD,pdD] at z
 | _,_,.bd _ _,z=>by simp [plainD,bdD] at z
theorem DaAll.is (s:Sub F H):∀ {xs:List V} {ds:List D},DaAll K F xs ds -> plainAll ds = true -> IsAll K H xs ds
 | _,_,.nil,_=>.nil
 | _,_,.cons a t,z=>by
  simp [plainAll] at z
  exact .cons (Da.is s a z.1) (DaAll.is s t z.2)
end
theorem At.is {v:V} {d:D} (s:Sub F H) (h:At K F H v d) (p:plainD d = true):Is K H v d:=by
 rcases h with h | ⟨a,o,rfl,_,e,h⟩
 ·exact h.is s p
 ·cases o <;> cases d <;> first | exact h.elim | (simp [plainD] at p) | skip
  ·rename_i xs ds
   exact .lst (SqL.of e) (DaAll.is s h (by simpa [plainD] using p))
end
noncomputable def fEqG (x y:D) (Q:Sl -> Prop):Prop:=plainD x = true /\ plainD y = true /\ SeqAt.shaped x = true /\ SeqAt.shaped y = true /\ SeqAt.noMix x y = true /\ Q (.fz (.bool (same x y)))
noncomputable def fNeG (x y:D) (Q:Sl -> Prop):Prop:=plainD x = true /\ plainD y = true /\ SeqAt.shaped x = true /\ SeqAt.shaped y = true /\ SeqAt.noMix x y = true /\ Q (.fz (.bool (!same x y)))
noncomputable def fEq:D -> D -> (Sl -> Prop) -> Prop
 | .int i,.int j,Q=>Q (.fz (.bool (decide (i = j))))
 | .list xs,y,Q=>fEqG (.list xs) y Q
 | .tuple xs,y,Q=>fEqG (.tuple xs) y Q
 | .str x,.str y,Q=>Q (.fz (.bool (decide (x = y))))
 | x,y,Q=>fEqG x y Q
noncomputable def fNe:D -> D -> (Sl -> Prop) -> Prop
 | .int i,.int j,Q=>Q (.fz (.bool (!decide (i = j))))
 | .list xs,y,Q=>fNeG (.list xs) y Q
 | .tuple xs,y,Q=>fNeG (.tuple xs) y Q
 | .str x,.str y,Q=>Q (.fz (.bool (!decide (x = y))))
 | x,y,Q=>fNeG x y Q
theorem ok_eq {K:Fg}:OpOk K (r2L (rAny rEq (rEqD K false))) (o2 fEq):=ok2 fun G F σ H ρ x y d e Q Qd R h1 h2 w k=>by
 have gen:fEqG d e Qd -> rAny rEq (rEqD K false) x y H Q:=fun ⟨p1,p2,p3,p4,p5,w⟩=>.inr ⟨d,e,h1.is R.sub p1,h2.is R.sub p2,p3,p4,p5,k _ H F (.fz _) (Sub.refl _) R (Da.bl _) w⟩
 unfold fEq at w
 split at w
 ·rename_i i j
  cases h1.int
  cases h2.int
  refine .inl ⟨rfl,k _ H F (.fz _) (Sub.refl _) R (Da.bl _) ?_⟩
  have e:decide (V.int i = V.int j) = decide (i = j):=by rw [dec_int,Bool.beq_eq_decide_eq]
  rw [e]; exact w
 ·exact gen w
 ·exact gen w
 ·rename_i i j
  cases h1.str
  cases h2.str
  refine .inl ⟨rfl,k _ H F (.fz _) (Sub.refl _) R (Da.bl _) ?_⟩
  have e:decide (V.str i = V.str j) = decide (i = j):=by rw [dec_str,Bool.beq_eq_decide_eq]
  rw [e]; exact w
 ·exact gen w
theorem ok_ne {K:Fg}:OpOk K (r2L (rAny rNe (rEqD K true))) (o2 fNe):=ok2 fun G F σ H ρ x y d e Q Qd R h1 h2 w k=>by
 have gen:fNeG d e Qd -> rAny rNe (rEqD K true) x y H Q:=fun ⟨p1,p2,p3,p4,p5,w⟩=>.inr ⟨d,e,h1.is R.sub p1,h2.is R.sub p2,p3,p4,p5,k _ H F (.fz _) (Sub.refl _) R (Da.bl _) w⟩
 unfold fNe at w
 split at w
 ·rename_i i j
  cases h1.int
  cases h2.int
  refine .inl ⟨rfl,k _ H F (.fz _) (Sub.refl _) R (Da.bl _) ?_⟩
  have e:decide (V.int i = V.int j) = decide (i = j):=by rw [dec_int,Bool.beq_eq_decide_eq]
  rw [e]; exact w
 ·exact gen w
 ·exact gen w
 ·rename_i i j
  cases h1.str
  cases h2.str
  refine .inl ⟨rfl,k _ H F (.fz _) (Sub.refl _) R (Da.bl _) ?_⟩
  have e:decide (V.str i = V.str j) = decide (i = j):=by rw [dec_str,Bool.beq_eq_decide_eq]
  rw [e]; exact w
 ·exact gen w
theorem op_eqE {X:Cx} {K:Fg} (hK:X.K = K) (hu:X.A.units + 64 < cLine):OpR X (compareOp .Eq) (rAny rEq (rEqD K false)):=op_eq.or (op_eqDK hK hu)
theorem op_neE {X:Cx} {K:Fg} (hK:X.K = K) (hu:X.A.units + 64 < cLine):OpR X (compareOp .NotEq) (rAny rNe (rEqD K true)):=op_ne.or (op_neDK hK hu)
section
variable {P:Program} {w:World} {K:Fg} {mg:Str -> Option Value} {base:Heap}
theorem dfn {x qual:Str} {st:Stmt} {f:Addr} {fd:FuncData} {N ps:List Str} {k:Nat} {con:Con} {ts:TDS} (F:Fun K x qual st f fd) (S:FnScope N ps (defScope st))
  (hb:∀ (cdv:Value) (A:Around) (outer:List Env) (s:Shared) (H:Hp) (E:XK),Room k (A.deeper (envOfC qual (defScope st) s.heap.objs.size f cdv)) -> PSs (cxOf CX0 P w K mg base N qual (defScope st) f cdv A outer s H E).nox (defBody st) (liftS K ts))
  (hl:∀ args Qd,con args Qd -> args.length = ps.length) (hc:∀ args Qd,con args Qd -> (∀ s ∈ args,∀ d,s ≠ .ow d) /\ ts (endsOf args Qd) (startE N.length args)):FnOk P w K mg base CX0 (k + 1) f fd ps (conSp K con):=by
 refine F.ok S (fun vs H Q E h=>?_) (fun cdv A outer s H vs Q E hr h=>⟨_,hb cdv A outer s H E hr,l_def hc h⟩)
 obtain ⟨G,F',args,Qd,R,w',_⟩:=h
 have h1:=hl args Qd w'
 have h2:=R.len
 rw [List.length_map,List.length_map] at h2
 rw [h2,h1]
end
end L3
namespace L3
noncomputable def noOw:List Sl -> Bool
 | []=>true
 | .ow _ :: _=>false
 | _ :: as=>noOw as
theorem noOw_of:∀ {as:List Sl},noOw as = true -> ∀ s ∈ as,∀ d,s ≠ .ow d
 | .fz _ :: as,h,s,hs,d,z=>by
  rcases List.mem_cons.mp hs with e | e
  ·subst e; cases z
  ·exact noOw_of (as:=as) h s e d z
 | .io _ :: as,h,s,hs,d,z=>by
  rcases List.mem_cons.mp hs with e | e
  ·subst e; cases z
  ·exact noOw_of (as:=as) h s e d z
end L3
namespace L3
open PySem PySem.Spec PyProof.Rows L2
noncomputable def rSum (K:Fg):List V -> Hp -> VK -> Prop:=fun xs H Q=>∃ (a:Addr) (ns:List Int),xs = [.ref a] /\ (SqL K H a (ns.map V.int) \/ SqT K H a (ns.map V.int)) /\ Q (.int ns.sum) H
theorem call_sumK {X:Cx} {K:Fg} (hK:X.K = K) (hc:X.calm = true):CallR X (.builtin "sum") (rSum K):=by
 subst hK
 intro pins s σ H xs us Q I r h
 obtain ⟨a,ns,rfl,hq,q⟩:=h
 obtain ⟨u,rfl,ru⟩:=vals1 r
 cases ru
 have hh:=I.ok.hd hc
 rcases hq with hq | hq
 ·obtain ⟨its,rv,p,hz⟩:=I.list hq
  have hi:IntsAre its ns:=intsAre_of rv
  obtain ⟨zs,hx⟩:=hi.allInts.items
  have hl':s.heap.IsList a (intItems zs):=hx ▸ p.isList
  refine sum_intListG hh hl' fun h' tk t' hk=>?_
  have e1:ns = zs.toList.map (·.1):=by
   rw [<- nums_intItems,<- hx]
   exact (show numsOf its.toArray.toList = ns from hi.numsOf).symm
  have e2:preSum (numAt zs) zs.size = ns.sum:=by
   rw [preSum_eq,List.take_of_length_le (by simp),e1]
  rw [e2]
  exact ⟨.int ns.sum,H,I.kept hk,⟨t',rfl⟩,q⟩
 ·obtain ⟨its,rv,p,hz⟩:=I.tuple hq
  have hi:IntsAre its ns:=intsAre_of rv
  obtain ⟨zs,hx⟩:=hi.allInts.items
  have hl':s.heap.IsTuple a (intItems zs):=hx ▸ p
  refine PySem.W.ktm_sumG hh hl' fun h' tk t' hk=>?_
  have e1:ns = zs.toList.map (·.1):=by
   rw [<- nums_intItems,<- hx]
   exact (show numsOf its.toArray.toList = ns from hi.numsOf).symm
  have e2:preSum (numAt zs) zs.size = ns.sum:=by
   rw [preSum_eq,List.take_of_length_le (by simp),e1]
  rw [e2]
  exact ⟨.int ns.sum,H,I.kept hk,⟨t',rfl⟩,q⟩
noncomputable def fSum:D -> (Sl -> Prop) -> Prop
 | .list ds,Q=>∃ ns:List Int,ds = ns.map PyData.int /\ Q (.fz (.int ns.sum))
 | .tuple ds,Q=>∃ ns:List Int,ds = ns.map PyData.int /\ Q (.fz (.int ns.sum))
 | _,_=>False
theorem DaAll.intsV {K:Fg} {F:Hp}:∀ {xs:List V} {ns:List Int},DaAll K F xs (ns.map PyData.int) -> xs = ns.map V.int
 | [],[],_=>rfl
 | x :: xs,b :: bs,.cons h t=>by cases h; simp [DaAll.intsV t]
theorem ok_sum {K:Fg}:OpOk K (rSum K) (o1 fSum):=ok1 fun G F σ H ρ x d Q Qd R h1 w k=>by
 match d,h1,w with
 | .list ds,h1,⟨ns,e,w⟩ =>
  subst e
  obtain ⟨a,us,rfl,e1,d1⟩:=h1.list R.sub
  have:=d1.intsV
  subst this
  exact ⟨a,ns,rfl,.inl (SqL.of e1),k _ H F (.fz _) (Sub.refl _) R (Da.int _) w⟩
 | .tuple ds,h1,⟨ns,e,w⟩ =>
  subst e
  obtain ⟨a,us,rfl,_,e1,d1⟩:=h1.tuple R.sub
  have:=d1.intsV
  subst this
  exact ⟨a,ns,rfl,.inr (SqT.of e1),k _ H F (.fz _) (Sub.refl _) R (Da.int _) w⟩
end L3
namespace L3
open PySem PySem.Spec PyProof.Rows L2
noncomputable def clean1 (ρ:Ev) (i:Nat):Ev:=match ρ[i]? with
 | some (some (.io _))=>ρ
 | some _=>ρ.set i none
 | none=>ρ
noncomputable def clean (ks:List Nat) (ρ:Ev):Ev:=match ks with
 | []=>ρ
 | i :: r=>clean r (clean1 ρ i)
section
variable {K:Fg} {G:Gh} {F H:Hp} {σ:L2.St} {ρ:Ev}
theorem Rel.drop (R:Rel K G F σ H ρ) {i:Nat} (hn:∀ d,ρ[i]? ≠ some (some (Sl.io d))):Rel K G F σ H (ρ.set i none):=by
 refine ⟨by rw [List.length_set]; exact R.len,R.sub,R.sub0,R.fn,R.keep,fun j d e=>?_,fun j t e wt=>?_,fun j d b e eb=>?_,fun j b e=>?_,fun j d e=>?_,fun j k t u b e1 w1 e2 w2 e3 e4=>?_⟩
 ·rcases get_set e with ⟨rfl,z⟩ | ⟨n,z⟩
  ·cases z
  ·exact R.fz j d z
 ·rcases get_set e with ⟨rfl,z⟩ | ⟨n,z⟩
  ·cases z
  ·exact R.ow j t z wt
 ·rcases get_set e with ⟨rfl,z⟩ | ⟨n,z⟩
  ·cases z
  ·exact R.new j d b z eb
 ·obtain ⟨d',e1,e2⟩:=R.io j b e
  have n:i ≠ j:=fun z=>by subst z; exact hn _ e1
  exact ⟨d',by rw [List.getElem?_set_ne n]; exact e1,e2⟩
 ·rcases get_set e with ⟨rfl,z⟩ | ⟨n,z⟩
  ·cases z
  ·exact R.ioi j d z
 ·rcases get_set e1 with ⟨rfl,z⟩ | ⟨n,z⟩
  ·cases z
  ·rcases get_set e2 with ⟨rfl,z'⟩ | ⟨n',z'⟩
   ·cases z'
   ·exact R.ap j k t u b z w1 z' w2 e3 e4
theorem Rel.clean1 (R:Rel K G F σ H ρ) (i:Nat):Rel K G F σ H (clean1 ρ i):=by
 unfold L3.clean1
 split
 ·exact R
 ·rename_i e1 e2
  exact R.drop fun d z=>by rw [e2] at z; cases z; exact e1 _ rfl
 ·exact R
theorem Rel.clean (ks:List Nat):∀ {ρ:Ev},Rel K G F σ H ρ -> Rel K G F σ H (clean ks ρ):=by
 induction ks with
 | nil=>intro ρ R; exact R
 | cons i r ih=>intro ρ R; exact ih (R.clean1 i)
end
noncomputable def dLoopC (ks:List Nat) (g:TDG) (tb:TDS) (E:DE):List D -> Ev -> Prop
 | [],ρ=>E.nx ρ
 | d :: ds,ρ=>g d ρ fun ρ'=>tb { nx:=fun ρ2=>dLoopC ks g tb E ds (clean ks ρ2),rt:=E.rt,bk:=fun ρ2=>E.nx (clean ks ρ2),ct:=fun ρ2=>dLoopC ks g tb E ds (clean ks ρ2) } ρ'
noncomputable def dForC (ks:List Nat) (ti:TDI) (g:TDG) (tb:TDS):TDS:=fun E ρ=>ti ρ fun ds ρ'=>dLoopC ks g tb E ds (clean ks ρ')
theorem l_forC {K:Fg} {ks:List Nat} {ti:TDI} {g:TDG} {tb:TDS} {E:Ends} {σ:L2.St} {H:Hp} (h:liftS K (dForC ks ti g tb) E σ H):tFor (liftI K ti) (liftG K g) (liftS K tb) E σ H:=by
 obtain ⟨G,F,ρ,D,R,w,n,r,b,c⟩:=h
 refine ⟨G,F,ρ,_,R,w,fun J H1 F1 ds ρ1 s1 R1 wk w1=>?_⟩
 refine ⟨fun i m σ H=>m = ds.length - i /\ i <= ds.length /\ ∃ F' ρ',Sub F1 F' /\ Rel K G F' σ H ρ' /\ dLoopC ks g tb D (ds.drop i) ρ',⟨ds.length,rfl,Nat.zero_le _,F1,_,Sub.refl _,R1.clean ks,w1⟩,?_⟩
 rintro i m σ H ⟨rfl,hi,F',ρ',s',R',w'⟩
 obtain ⟨hgo,hst⟩:=wk i H F' s' R'.sub
 cases e:ds[i]? with
 | none =>
  have hl:ds.length <= i:=List.getElem?_eq_none_iff.mp e
  refine .inl ⟨hst (by omega),?_⟩
  rw [List.drop_of_length_le hl] at w'
  exact n σ H F' ρ' (s1.trans s') R' w'
 | some d =>
  obtain ⟨go,yl⟩:=hgo d e
  have hl:=lt_of_get e
  rw [drop_get e] at w'
  refine .inr ⟨go,fun σ2 H2=>∃ F2 ρ2,Sub F1 F2 /\ Rel K G F2 σ2 H2 ρ2 /\ dLoopC ks g tb D (ds.drop (i + 1)) ρ2,fun σ2 H2 ⟨F2,ρ2,z1,z2,z3⟩=>⟨ds.length - (i + 1),by omega,rfl,hl,F2,ρ2,z1,z2,z3⟩,fun x H2 y=>?_⟩
  obtain ⟨F2,t1,t2,t3,t4,t5⟩:=yl x H2 y
  have R2:=R'.turn t1 t2 t3 t4
  refine ⟨G,F2,ρ',d,_,R2,t5,w',fun σ3 ρ3 R3 w3=>?_⟩
  refine ⟨G,F2,ρ3,_,R3,w3,fun σ4 H4 F4 ρ4 s4 R4 q=>?_,fun v σ4 H4 F4 x4 ρ4 s4 R4 r4 q=>?_,fun σ4 H4 F4 ρ4 s4 R4 q=>?_,fun σ4 H4 F4 ρ4 s4 R4 q=>?_⟩
  ·exact ⟨F4,_,s'.trans (t1.trans s4),R4.clean ks,q⟩
  ·exact r v σ4 H4 F4 x4 ρ4 (s1.trans (s'.trans (t1.trans s4))) R4 r4 q
  ·exact n σ4 H4 F4 _ (s1.trans (s'.trans (t1.trans s4))) (R4.clean ks) q
  ·exact ⟨F4,_,s'.trans (t1.trans s4),R4.clean ks,q⟩
theorem cs_forC {X:Cx} {K:Fg} {st:Stmt} {t:TDS} (ks:List Nat) {ti:TDI} {g:TDG} (h:PS X st (tFor (liftI K ti) (liftG K g) (liftS K t))):PS X st (liftS K (dForC ks ti g t)):=psM h l_forC
theorem loopC {ks:List Nat} {g:TDG} {tb:TDS} {E:DE} (J:List D -> Ev -> Prop)
  (hs:∀ d ds ρ,J (d :: ds) ρ -> ∀ N:Ev -> Prop,(∀ ρ2,J ds ρ2 -> N ρ2) -> g d ρ fun ρ'=>tb { nx:=fun ρ2=>N (clean ks ρ2),rt:=E.rt,bk:=fun ρ2=>E.nx (clean ks ρ2),ct:=fun ρ2=>N (clean ks ρ2) } ρ')
  (hd:∀ ρ,J [] ρ -> E.nx ρ):∀ {ds:List D} {ρ:Ev},J ds ρ -> dLoopC ks g tb E ds ρ
 | [],ρ,h=>hd ρ h
 | d :: ds,ρ,h=>hs d ds ρ h _ fun ρ2 h2=>loopC J hs hd h2
noncomputable def dCompLC (n:Nat) (g:TDG) (tc:TTD) (te:TD):List D -> List D -> Ev -> (List D -> Ev -> Prop) -> Prop
 | [],acc,τ,Q=>Q acc τ
 | d :: ds,acc,τ,Q=>g d τ fun τ1=>tc τ1 fun b τ2=>if b = true then te τ2 fun r τ3=>dCompLC n g tc te ds (acc ++ [r.d]) (clean (List.range n) τ3) Q else dCompLC n g tc te ds acc (clean (List.range n) τ2) Q
noncomputable def dCompC (ti:TDI) (own:List Str) (fr:List Nat) (g:TDG) (tc:TTD) (te:TD):TD:=fun ρ Q=>ti ρ fun ds ρ1=>ds.length <= sizeLine /\ dCompLC own.length g tc te ds [] (innerE own fr ρ1) fun ys τ=>Q (.ow (.list ys)) (wbGo fr (τ.drop own.length) 0 ρ1)
theorem l_compC {K:Fg} {ti:TDI} {own:List Str} {fr:List Nat} {g:TDG} {tc:TTD} {te:TD} (nd:fr.Nodup) {σ:L2.St} {H:Hp} {Q:VK} (h:lift K (dCompC ti own fr g tc te) σ H Q):tCompW (liftI K ti) own fr (liftG K g) (liftT K tc) (lift K te) σ H Q:=by
 obtain ⟨G,F,ρ,Qd,R,w,k⟩:=h
 refine ⟨G,F,ρ,_,R,w,fun J H1 F1 ds ρ1 s1 R1 wk ⟨hz,w1⟩=>?_⟩
 have Ri:=R1.inner (own:=own) nd
 refine ⟨fun i m ys τ H=>m = ds.length - i /\ i <= ds.length /\ ∃ F' ρ' acc,Rel K (ghC own fr F1 H1 σ ρ1) F' τ H ρ' /\ DaAll K F' ys acc /\ acc.length <= i /\ dCompLC own.length g tc te (ds.drop i) acc ρ' (fun ys τ=>Qd (.ow (.list ys)) (wbGo fr (τ.drop own.length) 0 ρ1)),
   ⟨ds.length,rfl,Nat.zero_le _,F1,_,[],Ri,.nil,Nat.zero_le _,w1⟩,?_⟩
 rintro i m ys τ H' ⟨rfl,hi,F',ρ',acc,R',da,hl,w'⟩
 obtain ⟨hgo,hst⟩:=wk i H' F' R'.sub0 R'.sub
 cases e:ds[i]? with
 | none =>
  have hl':ds.length <= i:=List.getElem?_eq_none_iff.mp e
  refine .inl ⟨hst (by omega),fun Dd hD=>?_⟩
  rw [List.drop_of_length_le hl'] at w'
  have Ro:=R1.outer R' nd
  obtain ⟨Rn,rn⟩:=Ro.newOw (o:=.lst ys) (d:=.list acc) hD da
  exact k _ _ F' _ _ (s1.trans R'.sub0) Rn rn w'
 | some d =>
  obtain ⟨go,yl⟩:=hgo d e
  have hlt:=lt_of_get e
  rw [drop_get e] at w'
  refine .inr ⟨go,by rw [da.length]; omega,fun ys2 τ2 H2=>∃ F2 ρ2 acc2,Rel K (ghC own fr F1 H1 σ ρ1) F2 τ2 H2 ρ2 /\ DaAll K F2 ys2 acc2 /\ acc2.length <= i + 1 /\ dCompLC own.length g tc te (ds.drop (i + 1)) acc2 ρ2 (fun ys τ=>Qd (.ow (.list ys)) (wbGo fr (τ.drop own.length) 0 ρ1)),
    fun ys2 τ2 H2 ⟨F2,ρ2,acc2,z1,z2,z3,z4⟩=>⟨ds.length - (i + 1),by omega,rfl,hlt,F2,ρ2,acc2,z1,z2,z3,z4⟩,fun x H2 y=>?_⟩
  obtain ⟨F2,t1,t2,t3,t4,t5⟩:=yl x H2 y
  have R2:=R'.turn t1 t2 t3 t4
  refine ⟨_,F2,ρ',d,_,R2,t5,w',fun τ3 ρ3 R3 w3=>?_⟩
  refine ⟨_,F2,ρ3,_,R3,w3,fun b H4 F4 ρ4 s4 R4 w4=>?_⟩
  cases b with
  | false=>exact ⟨F4,_,acc,R4.clean _,da.mono (t1.trans s4),by omega,w4⟩
  | true =>
   refine ⟨_,F4,ρ4,_,R4,w4,fun v H5 F5 r ρ5 s5 R5 r5 w5=>?_⟩
   obtain ⟨F6,s6,R6,d6⟩:=r5.frz R5
   exact ⟨F6,_,acc ++ [r.d],R6.clean _,(da.mono (t1.trans (s4.trans (s5.trans s6)))).append (.cons d6 .nil),by simp; omega,w5⟩
section
variable {X:Cx} {K:Fg} {e:Expr} {st:Stmt} {ti:TDI} {own:List Str} {fr:List Nat} {g:TDG} {tc:TTD} {te:TD}
theorem cv_compC (nd:fr.Nodup) (h:PE X e (tCompW (liftI K ti) own fr (liftG K g) (liftT K tc) (lift K te))):PE X e (lift K (dCompC ti own fr g tc te)):=peM h (l_compC nd)
theorem cs_setCC {i:Nat} (nd:fr.Nodup) (h:PS X st (tAsg (tCompW (liftI K ti) own fr (liftG K g) (liftT K tc) (lift K te)) (gName i))):PS X st (liftS K (dSet i (dCompC ti own fr g tc te))):=psM h fun q=>l_compC nd (l_set q)
end
theorem compC {n:Nat} {g:TDG} {tc:TTD} {te:TD} {Q:List D -> Ev -> Prop} (J:List D -> List D -> Ev -> Prop)
  (hs:∀ d ds acc τ,J (d :: ds) acc τ -> ∀ N:List D -> Ev -> Prop,(∀ acc2 τ2,J ds acc2 τ2 -> N acc2 τ2) -> g d τ fun τ1=>tc τ1 fun b τ2=>if b = true then te τ2 fun r τ3=>N (acc ++ [r.d]) (clean (List.range n) τ3) else N acc (clean (List.range n) τ2))
  (hd:∀ acc τ,J [] acc τ -> Q acc τ):∀ {ds acc:List D} {τ:Ev},J ds acc τ -> dCompLC n g tc te ds acc τ Q
 | [],acc,τ,h=>hd acc τ h
 | d :: ds,acc,τ,h=>hs d ds acc τ h _ fun acc2 τ2 h2=>compC J hs hd h2
theorem compN {n:Nat} {g:TDG} {te:TD} {Q:List D -> Ev -> Prop} (J:List D -> List D -> Ev -> Prop)
  (hs:∀ d ds acc τ,J (d :: ds) acc τ -> ∀ N:List D -> Ev -> Prop,(∀ acc2 τ2,J ds acc2 τ2 -> N acc2 τ2) -> g d τ fun τ1=>te τ1 fun r τ3=>N (acc ++ [r.d]) (clean (List.range n) τ3))
  (hd:∀ acc τ,J [] acc τ -> Q acc τ) {ds acc:List D} {τ:Ev} (h:J ds acc τ):dCompLC n g dYes te ds acc τ Q :=
 compC J (fun d ds acc τ h N hN=>by
   have q:=hs d ds acc τ h N hN
   have e:(fun τ1=>te τ1 fun r τ3=>N (acc ++ [r.d]) (clean (List.range n) τ3)) = fun τ1=>dYes τ1 fun b τ2=>if b = true then te τ2 (fun r τ3=>N (acc ++ [r.d]) (clean (List.range n) τ3)) else N acc (clean (List.range n) τ2):=by
     funext τ1
     show _ = (if true = true then te τ1 (fun r τ3=>N (acc ++ [r.d]) (clean (List.range n) τ3)) else N acc (clean (List.range n) τ1))
     rw [if_pos rfl]
   rw [<- e]
   exact q) hd h
theorem mapC {n:Nat} {g:TDG} {te:TD} {Q:List D -> Ev -> Prop} (f:D -> D) {τ:Ev} {ds:List D}
  (hs:∀ d ∈ ds,∀ N:D -> Ev -> Prop,N (f d) τ -> g d τ fun τ1=>te τ1 fun r τ3=>N r.d (clean (List.range n) τ3))
  (hd:Q (ds.map f) τ):dCompLC n g dYes te ds [] τ Q:=by
 refine compN (fun rest acc τ'=>τ' = τ /\ ∃ pre,ds = pre ++ rest /\ acc = pre.map f) ?_ ?_ ⟨rfl,[],rfl,rfl⟩
 ·rintro d ds' acc τ' ⟨rfl,pre,e,rfl⟩ N hN
  exact hs d (by rw [e]; simp) (fun x τ3=>N (pre.map f ++ [x]) τ3) (hN _ _ ⟨rfl,pre ++ [d],by rw [e]; simp,by simp⟩)
 ·rintro acc τ' ⟨rfl,pre,e,rfl⟩
  rw [List.append_nil] at e
  subst e
  exact hd
theorem filC {n:Nat} {g:TDG} {tc:TTD} {te:TD} {Q:List D -> Ev -> Prop} (p:D -> Bool) (f:D -> D) {τ:Ev} {ds:List D}
  (hs:∀ d ∈ ds,∀ (N:D -> Ev -> Prop) (M:Ev -> Prop),(p d = true -> N (f d) τ) -> (p d = false -> M τ) -> g d τ fun τ1=>tc τ1 fun b τ2=>if b = true then te τ2 fun r τ3=>N r.d (clean (List.range n) τ3) else M (clean (List.range n) τ2))
  (hd:Q ((ds.filter p).map f) τ):dCompLC n g tc te ds [] τ Q:=by
 refine compC (fun rest acc τ'=>τ' = τ /\ ∃ pre,ds = pre ++ rest /\ acc = (pre.filter p).map f) ?_ ?_ ⟨rfl,[],rfl,rfl⟩
 ·rintro d ds' acc τ' ⟨rfl,pre,e,rfl⟩ N hN
  exact hs d (by rw [e]; simp) (fun x τ3=>N ((pre.filter p).map f ++ [x]) τ3) (fun τ3=>N ((pre.filter p).map f) τ3) (fun hp=>hN _ _ ⟨rfl,pre ++ [d],by rw [e]; simp,by simp [hp]⟩)
   (fun hp=>hN _ _ ⟨rfl,pre ++ [d],by rw [e]; simp,by simp [hp]⟩)
 ·rintro acc τ' ⟨rfl,pre,e,rfl⟩
  rw [List.append_nil] at e
  subst e
  exact hd
end L3
namespace L3
open PySem PySem.Spec PyProof.Rows L2
noncomputable def rRepr (K:Fg):List V -> Hp -> VK -> Prop:=fun xs H Q=>∃ (x:V) (d:PyData),xs = [x] /\ Is K H x d /\ d.showable = true /\ d.hasDict = false /\ d.depth + 1 <= 64 /\ d.shown.length <= sizeLine /\ Q (.str d.shown) H
theorem call_reprK {X:Cx} {K:Fg} {k:Nat} (hK:X.K = K) (hr:Room k X.A):CallR X (.builtin "repr") (rRepr K):=by
 subst hK
 intro pins s σ H xs us Q I r h
 obtain ⟨x,d,rfl,hd,hs,hn,hz,hl,q⟩:=h
 obtain ⟨u,rfl,ru⟩:=vals1 r
 obtain ⟨as,ra⟩:=hd.reads I ru
 have hu:=hr.units
 cases hd with
 | non=>cases ru; exact PySem.P.repr_of_none ⟨.str _,H,I.tok _,⟨_,rfl⟩,q⟩
 | bl b=>cases ru; exact PySem.P.repr_of_bool ⟨.str _,H,I.tok _,⟨_,rfl⟩,by cases b <;> exact q⟩
 | int i =>
  obtain ⟨t,rfl⟩:=ru
  exact PySem.P.repr_of_int (by simpa [PyData.showable] using hs) ⟨.str _,H,I.tok _,⟨_,rfl⟩,q⟩
 | str x =>
  obtain ⟨t,rfl⟩:=ru
  exact PySem.P.repr_of_str ⟨.str _,H,I.tok _,⟨_,rfl⟩,q⟩ hl
 | lst _ _ =>
  cases ru
  exact repr_of_reads' ra hs (fun z=>by rw [hn] at z; cases z) hr.gd (by omega) (fun _ _ e=>e) (fun h' u tk hk=>⟨.str _,H,I.kept hk,⟨u,rfl⟩,q⟩) hl
 | tup _ _ =>
  cases ru
  exact repr_of_reads' ra hs (fun z=>by rw [hn] at z; cases z) hr.gd (by omega) (fun _ _ e=>e) (fun h' u tk hk=>⟨.str _,H,I.kept hk,⟨u,rfl⟩,q⟩) hl
mutual
theorem plain_noDict:∀ {d:D},plainD d = true -> d.hasDict = false
 | .none,_=>rfl
 | .bool _,_=>rfl
 | .int _,_=>rfl
 | .str _,_=>rfl
 | .list xs,h=>by
  have:=plainAll_noDict (xs:=xs) (by simpa [plainD] using h)
  simpa [PyData.hasDict] using this
 | .tuple xs,h=>by
  have:=plainAll_noDict (xs:=xs) (by simpa [plainD] using h)
  simpa [PyData.hasDict] using this
 | .dict _,h=>by simp [plainD] at h
theorem plainAll_noDict:∀ {xs:List D},plainAll xs = true -> PyData.hasDictAll xs = false
 | [],_=>rfl
 | x :: xs,h=>by
  simp [plainAll] at h
  simp [PyData.hasDictAll,plain_noDict h.1,plainAll_noDict h.2]
end
end L3
namespace L3
open PySem PySem.Spec PyProof.Rows L2
structure WE (X:Cx) (e:Expr) (t:TE):Prop where
 h:PE X e t
structure WA (X:Cx) (es:List Expr) (t:TA):Prop where
 h:PA X es t
structure WT (X:Cx) (e:Expr) (t:TT):Prop where
 h:PT X e t
structure WW (X:Cx) (e:Expr) (t:TT):Prop where
 h:PW X e t
structure WS (X:Cx) (s:Stmt) (t:TS):Prop where
 h:PS X s t
structure WSs (X:Cx) (s:List Stmt) (t:TS):Prop where
 h:PSs X s t
structure WG (X:Cx) (e:Expr) (t:TG):Prop where
 h:PG X e t
structure WGs (X:Cx) (es:List Expr) (t:TGs):Prop where
 h:PGs X es t
structure WI (X:Cx) (g e:Expr) (t:TI):Prop where
 h:PI X g e t
structure WIf (X:Cx) (es:List Expr) (t:TT):Prop where
 h:PIf X es t
section
variable {X:Cx} {K:Fg} {e e1 e2 e3:Expr} {es:List Expr} {a b c:AD} {as:List AD} {td te tf:TD} {tc tc':TTD} {st:Stmt} {sts:List Stmt} {t u:TDS} {p pos pos' p2 apos cpos tpos:Pos} {x:Str} {tg:Expr}
theorem wn (i:Nat) (hN:X.N[i]? = some x:=by rfl) (hv:Vis X.env.scope x:=by first | exact Or.inl rfl | exact Or.inr (Or.inl rfl) | exact Or.inr (Or.inr rfl)) (hd:(x == ("__debug__":Str)) = false:=by decide)
  (hcd:(x == ("__classdict__":Str)) = false:=by decide):WE X (.Name x pos) (argT K (.inl i)):=⟨pe_var hN hv hd hcd⟩
theorem wv (i:Nat) (hN:X.N[i]? = some x:=by rfl) (hv:Vis X.env.scope x:=by first | exact Or.inl rfl | exact Or.inr (Or.inl rfl) | exact Or.inr (Or.inr rfl)) (hd:(x == ("__debug__":Str)) = false:=by decide)
  (hcd:(x == ("__classdict__":Str)) = false:=by decide):WE X (.Name x pos) (lift K (dVar i)):=⟨cv_var (pe_var hN hv hd hcd)⟩
theorem wx (h:WE X e (lift K td)):WE X e (argT K (.inr td)):=⟨h.h⟩
theorem wa_nil:WA X [] (tArgs (([]:List AD).map (argT K))):=⟨pa_nil⟩
theorem wa_cons (ha:WE X e (argT K a)) (hr:WA X es (tArgs (as.map (argT K)))) (hs:notStar e = true:=by rfl):WA X (e :: es) (tArgs ((a :: as).map (argT K))):=⟨da_cons ha.h hr.h (starEach_of hs)⟩
theorem w_int {i:Int} {k:Nat}:WE X (.Constant (.int i) k pos) (lift K (dC (.int i))):=⟨cv_c (fun _=>.int _) pe_int⟩
theorem w_bl {b:Bool} {k:Nat}:WE X (.Constant (.bool b) k pos) (lift K (dC (.bool b))):=⟨cv_c (fun _=>.bl _) pe_bl⟩
theorem w_non {k:Nat}:WE X (.Constant .none k pos) (lift K (dC .none)):=⟨cv_c (fun _=>.non) pe_non⟩
theorem w_str {z:Str} {k:Nat}:WE X (.Constant (.str z) k pos) (lift K (dC (.str z))):=⟨cv_c (fun _=>.str _) pe_str⟩
theorem w_bin {op:Operator} {r:R2} {f:D -> D -> (Sl -> Prop) -> Prop} (ok:OpOk K (r2L r) (o2 f)) (ho:OpR X (binaryOp op) r) (ha:WE X e1 (argT K a)) (hb:WE X e2 (argT K b)):WE X (.BinOp e1 op e2 pos) (lift K (dOp [a,b] (o2 f))):=⟨cv2 ok (pe_op ho ha.h hb.h)⟩
theorem w_neg (ha:WE X e1 (argT K a)):WE X (.UnaryOp .USub e1 pos) (lift K (dOp [a] (o1 fNeg))):=⟨cvu ok_neg (pe_un un_neg ha.h)⟩
theorem w_cmp {op:CmpOp} {r:R2} {f:D -> D -> (Sl -> Prop) -> Prop} (ok:OpOk K (r2L r) (o2 f)) (ho:OpR X (compareOp op) r) (ha:WE X e1 (argT K a)) (hb:WE X e2 (argT K b)) (hm:op ≠ .In:=by decide) (hm2:op ≠ .NotIn:=by decide):WE X (.Compare e1 [op] [e2] pos) (lift K (dOp [a,b] (o2 f))):=⟨cv2 ok (pe_cmpR ho ha.h hb.h (nomark _ hm hm2))⟩
theorem w_chain {op op':CmpOp} {p q:Int -> Int -> Bool} (ho:OpR X (compareOp op) (rI0 fun i j=>.bl (p i j))) (ho':OpR X (compareOp op') (rI0 fun i j=>.bl (q i j))) (ha:WE X e1 (argT K a)) (hb:WE X e2 (argT K b)) (hc:WE X e3 (argT K c))
  (hm:lastMarks [op,op'] [e2,e3] = false:=by with_unfolding_all rfl):WE X (.Compare e1 [op,op'] [e2,e3] pos) (lift K (dChain p q a b c)):=⟨cv_chain (pe_chain ho ho' ha.h hb.h hc.h hm)⟩
theorem w_one {op:BoolOp} {tr:TE} (h:WE X e tr):WE X (.BoolOp op [e] pos) tr:=⟨pe_one h.h⟩
theorem w_and {rest:List Expr} (ha:WE X e1 (lift K td)) (hb:WE X (.BoolOp .And (e2 :: rest) pos) (lift K te)):WE X (.BoolOp .And (e1 :: e2 :: rest) pos) (lift K (dAndV td te)):=⟨cv_and (pe_and ha.h hb.h)⟩
theorem w_or {rest:List Expr} (ha:WE X e1 (lift K td)) (hb:WE X (.BoolOp .Or (e2 :: rest) pos) (lift K te)):WE X (.BoolOp .Or (e1 :: e2 :: rest) pos) (lift K (dOrV td te)):=⟨cv_or (pe_or ha.h hb.h)⟩
theorem w_not (ha:WE X e1 (lift K td)):WE X (.UnaryOp .Not e1 pos) (lift K (dNotV td)):=⟨cv_not (pe_not ha.h)⟩
theorem w_fn {k:Nat} {ps:List Str} {con:Con} (C:Cal X.prog X.w X.K X.mg X.base k x ps (conSp K con)) (hr:Room k X.A) (ha:WA X (e :: es) (tArgs (as.map (argT K)))) (hg:Gl X x:=by rfl) (hdb:(x == ("__debug__":Str)) = false:=by decide)
  (he:notStar e = true:=by rfl) (hpl:es.all notStar = true:=by rfl):WE X (.Call (.Name x p) (e :: es) [] pos) (lift K (dCall con as)):=⟨cv_fn (pe_fn C hr ha.h hg hdb (starEach_of he) (plain_of hpl))⟩
theorem w_fnI {k i:Nat} {ps:List Str} {con:Con} (C:Cal X.prog X.w X.K X.mg X.base k x ps (conSp K con)) (hr:Room k X.A) (ha:WA X (e :: es) (tArgs ((Sum.inl i :: as).map (argT K)))) (hg:Gl X x:=by rfl) (hdb:(x == ("__debug__":Str)) = false:=by decide)
  (he:notStar e = true:=by rfl) (hpl:es.all notStar = true:=by rfl):WE X (.Call (.Name x p) (e :: es) [] pos) (lift K (dCallI con i as)):=⟨cv_fnI (pe_fn C hr ha.h hg hdb (starEach_of he) (plain_of hpl))⟩
theorem w_callB {id:String} {r:List V -> Hp -> VK -> Prop} {f:List D -> (Sl -> Prop) -> Prop} (ok:OpOk K r f) (hc:CallR X (.builtin id) r) (hm:X.mg x = none) (hv:bootBuiltins x = some (.builtin id)) (ha:WA X (e :: es) (tArgs (as.map (argT K)))) (hg:Gl X x:=by rfl) (hn:x ≠ "__name__":=by decide) (hdb:(x == ("__debug__":Str)) = false:=by decide)
  (he:notStar e = true:=by rfl) (hpl:es.all notStar = true:=by rfl):WE X (.Call (.Name x p) (e :: es) [] pos) (lift K (dOp as f)):=⟨cvB ok (pe_callB hc hg hm hv ha.h hn hdb (starEach_of he) (plain_of hpl))⟩
theorem w_callT {T:String} {r:List V -> Hp -> VK -> Prop} {f:List D -> (Sl -> Prop) -> Prop} (ok:OpOk K r f) (hc:CallR X (.type T) r) (hm:X.mg x = none) (hv:bootBuiltins x = some (.type T)) (ha:WA X (e :: es) (tArgs (as.map (argT K)))) (hg:Gl X x:=by rfl) (hn:x ≠ "__name__":=by decide) (hdb:(x == ("__debug__":Str)) = false:=by decide)
  (he:notStar e = true:=by rfl) (hpl:es.all notStar = true:=by rfl):WE X (.Call (.Name x p) (e :: es) [] pos) (lift K (dOp as f)):=⟨cvB ok (pe_callTy hc hg hm hv ha.h hn hdb (starEach_of he) (plain_of hpl))⟩
theorem w_ix (hK:X.K = K) (ha:WE X e1 (argT K a)) (hb:WE X e2 (argT K b)) (hs:PlainIx e2:=by exact fun _ _=>rfl):WE X (.Subscript e1 e2 pos) (lift K (dOp [a,b] (o2 fIx))):=⟨cv2 ok_ix (pe_ix (ix_seqD hK) ha.h hb.h hs)⟩
theorem w_tup {k:Nat} (h:WA X es (tArgs (as.map (argT K)))) (hl:as.length <= 1000:=by decide):WE X (.Tuple es k pos) (lift K (dOpF as fTupD)):=⟨cv_tup hl (pe_tup h.h)⟩
theorem w_lst (h:WA X es (tArgs (as.map (argT K)))) (hl:as.length <= 1000:=by decide):WE X (.List es pos) (lift K (dOpF as fLstD)):=⟨cv_lst hl (pe_lst h.h)⟩
theorem w_comp {elt iter:Expr} {ifs:List Expr} {sc:Scope} {own:List Str} {fr:List Nat} {ti:TDI} {g:TDG} (hc:X.calm = true) (S:compOk X.env.scope X.N fr sc = true) (hi:WI X tg iter (liftI K ti)) (hg:∀ C s H ex,WG (cxComp X own fr sc C s H ex) tg (liftG K g))
  (hif:∀ C s H ex,WIf (cxComp X own fr sc C s H ex) ifs (liftT K tc)) (he:∀ C s H ex,WE (cxComp X own fr sc C s H ex) elt (lift K te)) (nd:fr.Nodup:=by decide) (hs:notSet iter = true:=by rfl):WE X (.ListComp elt [⟨tg,iter,ifs,0⟩] sc pos) (lift K (dCompC ti own fr g tc te)) :=
 ⟨cv_compC nd (pe_compW hc (compSc_of S) hi.h (fun C s H ex=>(hg C s H ex).h) (fun C s H ex=>(hif C s H ex).h) (fun C s H ex=>(he C s H ex).h) (folded_of hs))⟩
theorem w_m {name:Str} {id:String} {i:Nat} {r:V -> List V -> Hp -> VK -> Prop} {f:List D -> List D -> (D -> D -> Prop) -> Prop} (ok:MOk K r f) (hK:X.K = K) (slot:Slot "list" name id) (hty:typeOf (.builtin id) = pure (.type "method_descriptor")) (hm:MtR X id r) (ho:WE X (.Name x p) (argT K (.inl i))) (ha:WA X (e :: es) (tArgs (as.map (argT K))))
  (hbase:attributeBase (.Name x p) name X.env (eval (.Name x p) X.env) = eval (.Name x p) X.env:=by rfl)
  (hfew:((backTo cpos (starEach (e :: es) X.env)).all (fun x=>!x.1) && (backToKw cpos (keywordEach [] X.env)).all (fun x=>x.1.isSome) && decide ((e :: es).length + ([]:List Keyword).length + (if ([]:List Keyword).isEmpty then 0 else 1) < 30)) = true:=by rfl)
  (hline:(apos.endLine == cpos.line) = true:=by rfl) (he:notStar e = true:=by rfl) (hpl:es.all notStar = true:=by rfl):WE X (.Call (.Attribute (.Name x p) name apos) (e :: es) [] cpos) (lift K (dMeth i as f)):=by
 subst hK
 exact ⟨cv_m ok (pe_bm PySem.F.plainAttrs_list slot hty hm ho.h ha.h hbase hfew hline (starEach_of he) (plain_of hpl))⟩
theorem w_m0 {name:Str} {id:String} {i:Nat} {r:V -> List V -> Hp -> VK -> Prop} {f:List D -> List D -> (D -> D -> Prop) -> Prop} (ok:MOk K r f) (hK:X.K = K) (slot:Slot "list" name id) (hty:typeOf (.builtin id) = pure (.type "method_descriptor")) (hm:MtR X id r) (ho:WE X (.Name x p) (argT K (.inl i)))
  (hbase:attributeBase (.Name x p) name X.env (eval (.Name x p) X.env) = eval (.Name x p) X.env:=by rfl) (hline:(apos.endLine == cpos.line) = true:=by rfl):WE X (.Call (.Attribute (.Name x p) name apos) [] [] cpos) (lift K (dMeth i [] f)):=by
 subst hK
 exact ⟨cv_m0 ok (pe_bm0 PySem.F.plainAttrs_list slot hty hm ho.h hbase hline)⟩
theorem t_cmp {op:CmpOp} {r:R2} {f:D -> D -> (Sl -> Prop) -> Prop} (ok:OpOk K (r2L r) (o2 f)) (ho:OpR X (compareOp op) r) (ha:WE X e1 (argT K a)) (hb:WE X e2 (argT K b)) (hm:op ≠ .In:=by decide) (hm2:op ≠ .NotIn:=by decide):WT X (.Compare e1 [op] [e2] pos) (liftT K (dTst (dOp [a,b] (o2 f)))):=⟨ct2 ok (pt_cmpR ho ha.h hb.h (nomark _ hm hm2))⟩
theorem t_not (h:WT X e (liftT K tc)):WT X (.UnaryOp .Not e pos) (liftT K (dNot tc)):=⟨ct_not (pt_not h.h)⟩
theorem t_and1 (h:WT X e (liftT K tc)):WW X (.BoolOp .And [e] pos) (liftT K tc):=⟨pw_and1 h.h⟩
theorem t_or1 (h:WT X e (liftT K tc)):WW X (.BoolOp .Or [e] pos) (liftT K tc):=⟨pw_or1 h.h⟩
theorem t_and {rest:List Expr} (ha:WT X e1 (liftT K tc)) (hb:WW X (.BoolOp .And (e2 :: rest) pos) (liftT K tc')):WW X (.BoolOp .And (e1 :: e2 :: rest) pos) (liftT K (dAnd tc tc')):=⟨cw_and (pw_and ha.h hb.h)⟩
theorem t_or {rest:List Expr} (ha:WT X e1 (liftT K tc)) (hb:WW X (.BoolOp .Or (e2 :: rest) pos) (liftT K tc')):WW X (.BoolOp .Or (e1 :: e2 :: rest) pos) (liftT K (dOr tc tc')):=⟨cw_or (pw_or ha.h hb.h)⟩
theorem t_w {tt:TT} (h:WW X e tt):WT X e tt:=⟨h.h.pt⟩
theorem t_val (h:WE X e (lift K td)) (he:∀ whole,isTrue e X.env whole = (do let v <- whole; standAt e.pos; holding [v] (truthy v)):=by intro _; rfl):WT X e (liftT K (dTst td)):=⟨ct_val (pt_val h.h he)⟩
theorem g_name {i:Nat} (hN:X.N.Nodup) (hi:X.N[i]? = some x) (hx:Loc X.env.scope x) (hf:X.fn x = true \/ X.env.scope.names.lookup x = some .local:=by first | exact .inl rfl | exact .inr rfl | assumption):WG X (.Name x pos) (liftG K (dGN i)):=⟨cg_name (pg_name hN hi hx hf)⟩
theorem gs_nil:WGs X [] (gAll (([]:List TDG).map (liftG K))):=⟨pgs_nil⟩
theorem gs_cons {g:TDG} {gs:List TDG} (h1:WG X e (liftG K g)) (h2:WGs X es (gAll (gs.map (liftG K)))) (hs:(assignEach (e :: es) X.env).map (·.2) = assign e X.env :: (assignEach es X.env).map (·.2):=by rfl):WGs X (e :: es) (gAll ((g :: gs).map (liftG K))):=⟨cgs_cons h1.h h2.h hs⟩
theorem g_tup {gs:List TDG} {k:Nat} (hK:X.K = K) (hc:X.calm = true) (hh:WGs X es (gAll (gs.map (liftG K)))) (hn:(assignEach es X.env).length = gs.length:=by rfl) (hst:(assignEach es X.env).findIdx? (·.1) = none:=by rfl):WG X (.Tuple es k pos) (liftG K (dGT gs)):=⟨cg_tup (pg_tupK hK hc hh.h hn hst) rfl⟩
theorem if0:WIf X [] (liftT K dYes):=⟨cif_nil⟩
theorem if1 (h:WT X e (liftT K tc)):WIf X [e] (liftT K tc):=⟨if_one h.h⟩
theorem i_seq (hK:X.K = K) (hl:WE X e (lift K td)):WI X tg e (liftI K (dISeq td)):=⟨ci_seq hK hl.h⟩
theorem i_rng1 (hm:X.mg "range" = none) (ha:WA X [e1] (tArgs ([a].map (argT K)))) (hg:Gl X "range":=by rfl) (he:notStar e1 = true:=by rfl):WI X tg (.Call (.Name "range" p) [e1] [] pos) (liftI K (dIRng1 a)):=⟨ci_rng1 (pi_range1 hg hm ha.h (by rw [starEach_of he]; rfl))⟩
theorem i_zip2 {ts:List Expr} {kk:Nat} (hK:X.K = K) (hm:X.mg "zip" = none) (ha:WA X [e1,e2] (tArgs ([a,b].map (argT K)))) (hg:Gl X "zip":=by rfl) (he:notStar e1 = true:=by rfl) (hpl:[e2].all notStar = true:=by rfl):WI X (.Tuple ts kk tpos) (.Call (.Name "zip" p) [e1,e2] [] pos) (liftI K (dIZip2 a b)):=⟨ci_zip2 (pi_zip2K hK hg hm ha.h (starEach_of he) (plain_of hpl))⟩
theorem s_nil:WSs X [] (liftS K dNext):=⟨cs_next pss_nil⟩
theorem s_one {tr:TS} (h:WS X st tr):WSs X [st] tr:=⟨pss_one h.h⟩
theorem s_cons (h:WS X st (liftS K t)) (h2:WSs X sts (liftS K u)):WSs X (st :: sts) (liftS K (dSeq t u)):=⟨cs_seq (pss_cons h.h h2.h)⟩
theorem s_ret (h:WE X e (lift K td)):WS X (.Return (some e) pos) (liftS K (dRet td)):=⟨cs_ret (ps_ret h.h)⟩
theorem s_retV {i:Nat} (h:WE X e (argT K (.inl i))):WS X (.Return (some e) pos) (liftS K (dRetV i)):=⟨cs_retV (ps_ret h.h)⟩
theorem s_expr (h:WE X e (lift K td)) (hs:notComp e = true:=by rfl):WS X (.Expr e pos) (liftS K (dDrop td)):=⟨cs_drop (ps_expr h.h (swaps_of hs))⟩
theorem s_if {sa sb:List Stmt} (hc:WT X e (liftT K tc)) (ha:WSs X sa (liftS K t)) (hb:WSs X sb (liftS K u)):WS X (.If e sa sb pos) (liftS K (dIfS tc t u)):=⟨cs_if (ps_if hc.h ha.h hb.h)⟩
theorem s_for {iter:Expr} {body:List Stmt} (ks:List Nat) {ti:TDI} {g:TDG} (hp:PassesOwn (model X.prog X.w) X.A X.env X.xe) (hc:X.calm = true) (hi:WI X tg iter (liftI K ti)) (hg:WG X tg (liftG K g)) (hb:WSs X body (liftS K t)) (hs:notSet iter = true:=by rfl):WS X (.For tg iter body [] pos) (liftS K (dForC ks ti g t)):=⟨cs_forC ks (ps_for hp hc hi.h hg.h hb.h (folded_of hs))⟩
theorem s_while {body:List Stmt} (hp:PassesOwn (model X.prog X.w) X.A X.env X.xe) (hc:WT X e (liftT K tc)) (hb:WSs X body (liftS K t)):WS X (.While e body [] pos) (liftS K (dWhile tc t)):=⟨cs_while (ps_while hp hc.h hb.h)⟩
theorem s_set {i:Nat} (hN:X.N.Nodup) (hi:X.N[i]? = some x) (hx:Loc X.env.scope x) (he:WE X e (lift K td)) (hs:notComp e = true:=by rfl) (hf:X.fn x = true \/ X.env.scope.names.lookup x = some .local:=by first | exact .inl rfl | exact .inr rfl | assumption):WS X (.Assign [.Name x pos'] e pos) (liftS K (dSet i td)):=⟨cs_set (ps_set hN hi hx he.h (swaps_of hs) hf)⟩
theorem s_move {i j:Nat} (hN:X.N.Nodup) (hi:X.N[i]? = some x) (hx:Loc X.env.scope x) (he:WE X e (argT K (.inl j))) (hs:notComp e = true:=by rfl) (hf:X.fn x = true \/ X.env.scope.names.lookup x = some .local:=by first | exact .inl rfl | exact .inr rfl | assumption):WS X (.Assign [.Name x pos'] e pos) (liftS K (dMove i j)):=⟨cs_move (ps_set hN hi hx he.h (swaps_of hs) hf)⟩
theorem s_setC {elt iter:Expr} {ifs:List Expr} {sc:Scope} {own:List Str} {fr:List Nat} {ti:TDI} {g:TDG} {i:Nat} (hN:X.N.Nodup) (hy:X.N[i]? = some x) (hl:X.env.scope.names.lookup x = some .local) (hc:X.calm = true) (S:compOk X.env.scope X.N fr sc = true) (hi:WI X tg iter (liftI K ti)) (hg:∀ C s H ex,WG (cxComp X own fr sc C s H ex) tg (liftG K g))
  (hif:∀ C s H ex,WIf (cxComp X own fr sc C s H ex) ifs (liftT K tc)) (he:∀ C s H ex,WE (cxComp X own fr sc C s H ex) elt (lift K te)) (nd:fr.Nodup:=by decide) (hs:notSet iter = true:=by rfl) (hsw:swapsWith (.ListComp elt [⟨tg,iter,ifs,0⟩] sc p) (some (.Name x pos')) pos.line X.env = pure true:=by rfl) :
  WS X (.Assign [.Name x pos'] (.ListComp elt [⟨tg,iter,ifs,0⟩] sc p) pos) (liftS K (dSet i (dCompC ti own fr g tc te))) :=
 ⟨cs_setCC nd (ps_setCompW hN hy hl hc (compSc_of S) hi.h (fun C s H ex=>(hg C s H ex).h) (fun C s H ex=>(hif C s H ex).h) (fun C s H ex=>(he C s H ex).h) hsw (folded_of hs))⟩
theorem s_ix {j:Nat} (he:WE X e (lift K td)) (ho:WE X e1 (argT K (.inl j))) (hi:WE X e2 (argT K a)) (hs:swapsWithSole [.Subscript e1 e2 pos'] e pos.line X.env = pure false:=by rfl) (hw:swappedStores [.Subscript e1 e2 pos'] e X.env = pure none:=by rfl)
  (ha:∀ v,assign (.Subscript e1 e2 pos') X.env v = (do
    let ov <- holding [v] (eval e1 X.env)
    let iv <- holding [v,ov] (eval e2 X.env)
    standAt pos'
    holding [v,ov,iv] (setItem ov iv v)
    release [v,ov,iv] []):=by intro _; rfl) (h1:(assignEach [.Subscript e1 e2 pos'] X.env).map (·.2) = [assign (.Subscript e1 e2 pos') X.env]:=by rfl):WS X (.Assign [.Subscript e1 e2 pos'] e pos) (liftS K (dSetIx j a td)):=⟨cs_ix (ps_asg he.h (pg_sub ho.h hi.h set_list ha) hs hw h1)⟩
theorem s_asgG {g:TDG} (he:WE X e (lift K td)) (hg:WG X tg (liftG K g)) (hs:swapsWithSole [tg] e pos.line X.env = pure false:=by rfl) (hw:swappedStores [tg] e X.env = pure none:=by rfl) (h1:(assignEach [tg] X.env).map (·.2) = [assign tg X.env]:=by rfl):WS X (.Assign [tg] e pos) (liftS K (dAsgG g td)):=⟨cs_asgG (ps_asg he.h hg.h hs hw h1)⟩
end
section
variable {P:Program} {w:World} {K:Fg} {mg:Str -> Option Value} {base:Heap}
theorem wfn {x qual:Str} {st:Stmt} {f:Addr} {fd:FuncData} {N ps:List Str} {k:Nat} {con:Con} {ts:TDS} (F:Fun K x qual st f fd) (S:FnScope N ps (defScope st))
  (hb:∀ (cdv:Value) (A:Around) (outer:List Env) (s:Shared) (H:Hp) (E:XK),Room k (A.deeper (envOfC qual (defScope st) s.heap.objs.size f cdv)) -> WSs (cxOf CX0 P w K mg base N qual (defScope st) f cdv A outer s H E).nox (defBody st) (liftS K ts))
  (hl:∀ args Qd,con args Qd -> args.length = ps.length) (hc:∀ args Qd,con args Qd -> (∀ s ∈ args,∀ d,s ≠ .ow d) /\ ts (endsOf args Qd) (startE N.length args)):FnOk P w K mg base CX0 (k + 1) f fd ps (conSp K con) :=
 dfn F S (fun cdv A outer s H E hr=>(hb cdv A outer s H E hr).h) hl hc
end
end L3
namespace L2
open PySem PySem.Spec PyProof.Rows
theorem Vals.getV:∀ {xs:List V} {us:List Value} {i:Nat} {u:Value},Vals xs us -> us[i]? = some u -> ∃ x,xs[i]? = some x /\ RelV x u
 | _,_,0,_,.cons r _,e=>⟨_,rfl,by cases e; exact r⟩
 | _,_,i + 1,_,.cons _ t,e=>Vals.getV (i:=i) t e
section
variable {X:Cx}
end
end L2
namespace L2
open PySem PySem.Spec PyProof.Rows
noncomputable abbrev IsZipH (h:Heap) (z TI TO T:Addr) (fl:Bool):Prop :=
 h.get? z = some { cls:=.type "zip",dict:=none,data:=.fields #[rawInt T,.bool fl,.bool false,.ref TI,.ref TO],slots:=#[] }
section
variable {prog:Program} {w:World} {A:Around} {E:Value -> Shared -> Prop} {s:Shared}
theorem alive {a:Addr} {o:Obj} {Q:Option Obj -> Shared -> Prop} (ho:s.heap.get? a = some o) (h:Q (some o) s):wpAny (model prog w) A (loadIfAlive a) Q E s:=fun Γ p _=>by
 show Sem.wp _ Γ (.loadIfAlive a fun x=>.pure x) _ _ p s
 rw [Sem.wp_loadIfAlive,ho]
 exact h
theorem notFree {z TI TO T:Addr} {fl:Bool} {ot:Obj} {Q:Bool -> Shared -> Prop} (hz:IsZipH s.heap z TI TO T fl) (hT:s.heap.get? T = some ot)
  (h:∀ h₁,IsZipH h₁ z TI TO T true -> Heap.SameBut z s.heap h₁ -> Q false { s with heap:=h₁ }):wpAny (model prog w) A (Builtin.SmallTypes.ownedTupleIsFree (.ref z)) Q E s:=by
 unfold Builtin.SmallTypes.ownedTupleIsFree
 refine wpAny_bind (wpAny_field hz rfl (x:=rawInt T) rfl ?_)
 show wpAny _ _ (loadIfAlive T >>= _) _ _ _
 refine wpAny_bind (alive hT ?_)
 rw [if_neg (show ¬ ((some ot).isNone = true) from Bool.false_ne_true)]
 refine wpAny_bind (wpAny_field hz rfl (x:=.bool fl) rfl ?_)
 cases fl with
 | true =>
  rw [if_neg (by decide)]
  exact wpAny_pure (h s.heap hz ⟨rfl,fun _ _=>rfl⟩)
 | false =>
  rw [if_pos (by decide)]
  exact wpAny_bind (wpAny_setField_rec hz (by simp) fun h₁ hz₁ hs₁=>wpAny_pure (h h₁ hz₁ hs₁))
theorem zipn_kept2 {z TI TO T i1 i2 l1 l2:Addr} {fl:Bool} {k:Nat} {k1:Kd} {k2:Kd} {xs1 xs2:Array Value} {ot:Obj} {x1 x2:Value} {Q:Value -> Shared -> Prop} (D:ZAp2 z TI TO i1 i2 l1 l2)
  (hz:IsZipH s.heap z TI TO T fl) (hTI:IsTup2 s.heap TI (.ref i1) (.ref i2)) (hT:s.heap.get? T = some ot)
  (h1:ItAt k1 s.heap i1 l1 k) (h2:ItAt k2 s.heap i2 l2 k) (hl1:SqAt k1 s.heap l1 xs1) (hl2:SqAt k2 s.heap l2 xs2) (hx1:xs1[k]? = some x1) (hx2:xs2[k]? = some x2)
  (hQ:∀ h',IsZipH h' z TI TO T true -> ItAt k1 h' i1 l1 (k + 1) -> ItAt k2 h' i2 l2 (k + 1) -> IsTup2 h' s.heap.objs.size x1 x2 -> h'.objs.size = s.heap.objs.size + 1 ->
    (∀ c o,c ≠ z -> c ≠ i1 -> c ≠ i2 -> s.heap.get? c = some o -> h'.get? c = some o) -> Q (.ref s.heap.objs.size) { s with heap:=h' }) :
  wpAny (model prog w) A (Builtin.«zip.__next__» ⟨[.ref z],[]⟩) (fun fin s'=>∃ v,fin = .done (.ret v) /\ Q v s') E s:=by
 show wpAny _ _ (field (.ref z) 2 >>= _) _ _ _
 refine wpAny_bind (wpAny_field hz rfl (x:=.bool false) rfl ?_)
 show wpAny _ _ (field (.ref z) 3 >>= _) _ _ _
 refine wpAny_bind (wpAny_field hz rfl (x:=.ref TI) rfl ?_)
 refine wpAny_bind (wpAny_seqItems hTI rfl ?_)
 show wpAny _ _ (Builtin.SmallTypes.ownedTupleIsFree (.ref z) >>= _) _ _ _
 refine wpAny_bind (notFree hz hT fun h₁ hz₁ hs₁=>?_)
 simp only [Bool.false_eq_true,if_false]
 rw [List.forIn_toArray]
 simp only [List.forIn_cons,List.forIn_nil]
 refine wpAny_bind (wpAny_bind (wpAny_bind (wpAny_holding ?_)))
 show wpAny _ _ (Builtin.SmallTypes.nextOf (.ref i1) >>= _) _ _ _
 refine wpAny_bind (nextOf_item (h1.at fun o e=>hs₁.extBut _ o D.i1z e) (hl1.at fun o e=>hs₁.extBut _ o D.l1z e) hx1 fun ha1 hi1 hsa1=>wpAny_pure (wpAny_pure ?_))
 refine wpAny_bind (wpAny_bind (wpAny_holding ?_))
 show wpAny _ _ (Builtin.SmallTypes.nextOf (.ref i2) >>= _) _ _ _
 refine wpAny_bind (nextOf_item ((h2.at fun o e=>hs₁.extBut _ o D.i2z e).at fun o e=>hsa1.extBut _ o D.i2i1 e) ((hl2.at fun o e=>hs₁.extBut _ o D.l2z e).at fun o e=>hsa1.extBut _ o D.l2i1 e) hx2 fun ha2 hi2 hsa2=>wpAny_pure (wpAny_pure (wpAny_pure ?_)))
 refine wpAny_bind (wpAny_newTuple (hsz:=by show 2 <= sizeLine; decide) ?_)
 have hsz:ha2.objs.size = s.heap.objs.size:=by rw [hsa2.1,hsa1.1,hs₁.1]
 have hzG:IsZipH ha2 z TI TO T true:=hsa2.extBut _ _ D.i2z.symm (hsa1.extBut _ _ D.i1z.symm hz₁)
 refine wpAny_pure ⟨_,rfl,?_⟩
 show Q (.ref ha2.objs.size) _
 rw [hsz]
 refine hQ _ (Heap.get?_push_of_some _ hzG) ((hi1.at fun o e=>hsa2.extBut _ o D.i2i1.symm e).at fun o e=>Heap.get?_push_of_some _ e) (hi2.at fun o e=>Heap.get?_push_of_some _ e) ?_ ?_ fun c o c1 d1 d2 e=>Heap.get?_push_of_some _ (hsa2.extBut _ _ d2 (hsa1.extBut _ _ d1 (hs₁.extBut _ _ c1 e)))
 ·rw [<- hsz]; exact Heap.get?_push_size _ rfl
 ·rw [Heap.size_push,hsz]
theorem zipn_keptEnd2 {z TI TO T i1 i2 l1 l2:Addr} {fl:Bool} {k:Nat} {k1:Kd} {k2:Kd} {xs1 xs2:Array Value} {ot:Obj} {Q:Fin -> Shared -> Prop} (hh:A.handled = none) (D:ZAp2 z TI TO i1 i2 l1 l2)
  (hz:IsZipH s.heap z TI TO T fl) (hTI:IsTup2 s.heap TI (.ref i1) (.ref i2)) (hT:s.heap.get? T = some ot)
  (h1:ItAt k1 s.heap i1 l1 k) (h2:ItAt k2 s.heap i2 l2 k) (hl1:SqAt k1 s.heap l1 xs1) (hl2:SqAt k2 s.heap l2 xs2) (hend:xs1[k]? = none \/ xs2[k]? = none)
  (hE:∀ h' e,(∀ c o,c ≠ z -> c ≠ i1 -> c ≠ i2 -> s.heap.get? c = some o -> h'.get? c = some o) -> (∃ o,h'.get? e = some o /\ o.cls = .type "StopIteration") -> E (.ref e) { s with heap:=h' }) :
  wpAny (model prog w) A (Builtin.«zip.__next__» ⟨[.ref z],[]⟩) Q E s:=by
 show wpAny _ _ (field (.ref z) 2 >>= _) _ _ _
 refine wpAny_bind (wpAny_field hz rfl (x:=.bool false) rfl ?_)
 show wpAny _ _ (field (.ref z) 3 >>= _) _ _ _
 refine wpAny_bind (wpAny_field hz rfl (x:=.ref TI) rfl ?_)
 refine wpAny_bind (wpAny_seqItems hTI rfl ?_)
 show wpAny _ _ (Builtin.SmallTypes.ownedTupleIsFree (.ref z) >>= _) _ _ _
 refine wpAny_bind (notFree hz hT fun h₁ hz₁ hs₁=>?_)
 simp only [Bool.false_eq_true,if_false]
 rw [List.forIn_toArray]
 simp only [List.forIn_cons,List.forIn_nil]
 refine wpAny_bind (wpAny_bind (wpAny_bind (wpAny_holding ?_)))
 show wpAny _ _ (Builtin.SmallTypes.nextOf (.ref i1) >>= _) _ _ _
 cases hx1:xs1[k]? with
 | none =>
  exact wpAny_bind (nextOf_end hh (h1.at fun o e=>hs₁.extBut _ o D.i1z e) (hl1.at fun o e=>hs₁.extBut _ o D.l1z e) hx1 fun hq e hsq he=>hE hq e (fun c o c1 d1 d2 x=>hsq _ _ d1 (hs₁.extBut _ _ c1 x)) he)
 | some x1 =>
  have hx2:xs2[k]? = none:=by
   rcases hend with h | h
   ·rw [hx1] at h; cases h
   ·exact h
  refine wpAny_bind (nextOf_item (h1.at fun o e=>hs₁.extBut _ o D.i1z e) (hl1.at fun o e=>hs₁.extBut _ o D.l1z e) hx1 fun ha1 hi1 hsa1=>wpAny_pure (wpAny_pure ?_))
  refine wpAny_bind (wpAny_bind (wpAny_holding ?_))
  show wpAny _ _ (Builtin.SmallTypes.nextOf (.ref i2) >>= _) _ _ _
  exact wpAny_bind (nextOf_end hh ((h2.at fun o e=>hs₁.extBut _ o D.i2z e).at fun o e=>hsa1.extBut _ o D.i2i1 e) ((hl2.at fun o e=>hs₁.extBut _ o D.l2z e).at fun o e=>hsa1.extBut _ o D.l2i1 e) hx2 fun hq e hsq he=>hE hq e (fun c o c1 d1 d2 x=>hsq _ _ d2 (hsa1.extBut _ _ d1 (hs₁.extBut _ _ c1 x))) he)
end
end L2
namespace L2
open PySem PySem.Spec PyProof.Rows
section
variable {prog:Program} {w:World} {A:Around} {E:Value -> Shared -> Prop} {s:Shared}
noncomputable def ZSt (h:Heap) (z TI TO S i1 i2 l1 l2:Addr) (k1 k2:Kd) (i:Nat):Prop :=
 IsTup2 h TI (.ref i1) (.ref i2) /\ ItAt k1 h i1 l1 i /\ ItAt k2 h i2 l2 i /\
  ((IsZip h z TI TO .none /\ ∃ a1 a2,IsTup2 h TO a1 a2) \/ ∃ T fl ot,IsZipH h z TI TO T fl /\ h.get? T = some ot /\ T ≠ z /\ T ≠ i1 /\ T ≠ i2 /\ T ≠ S)
theorem next_kept2 {z TI TO S i1 i2 l1 l2:Addr} {k:Nat} {k1 k2:Kd} {xs1 xs2:Array Value} {x1 x2:Value} {Q:Option Value -> Shared -> Prop} (D:ZAp2 z TI TO i1 i2 l1 l2) (hS:S < s.heap.objs.size)
  (st:ZSt s.heap z TI TO S i1 i2 l1 l2 k1 k2 k) (hl1:SqAt k1 s.heap l1 xs1) (hl2:SqAt k2 s.heap l2 xs2) (hx1:xs1[k]? = some x1) (hx2:xs2[k]? = some x2)
  (hQ:∀ h',ZSt h' z TI TO S i1 i2 l1 l2 k1 k2 (k + 1) -> IsTup2 h' s.heap.objs.size x1 x2 -> h'.objs.size = s.heap.objs.size + 1 ->
    (∀ c o,c ≠ z -> c ≠ TO -> c ≠ i1 -> c ≠ i2 -> s.heap.get? c = some o -> h'.get? c = some o) -> Q (some (.ref s.heap.objs.size)) { s with heap:=h' }) :
  wpAny (model prog w) A (pyNext (.ref z)) Q E s:=by
 obtain ⟨hTI,h1,h2,hz⟩:=st
 have gz:∀ {b:Addr} {o:Obj},s.heap.get? b = some o -> s.heap.objs.size ≠ b:=fun e=>Nat.ne_of_gt (Heap.lt_size e)
 obtain ⟨o1,g1,_⟩:=h1.obj
 obtain ⟨o2,g2,_⟩:=h2.obj
 rcases hz with ⟨hz,a1,a2,hTO⟩ | ⟨T,fl,ot,hz,hT,t1,t2,t3,t4⟩
 ·refine next_zip_item2 D hz hTI hTO h1 h2 hl1 hl2 hx1 hx2 fun h' b1 b2 c1 c2 b5 b6 b7=>hQ h' ⟨b7 TI _ D.TIz (Ne.symm D.TOTI) (Ne.symm D.i1TI) (Ne.symm D.i2TI) hTI,c1,c2,.inr ⟨s.heap.objs.size,false,_,b1,b5,gz hz,gz g1,gz g2,Nat.ne_of_gt hS⟩⟩ b5 b6 b7
 ·have hTy:s.TypeIs (.ref z) "zip":=⟨_,hz,rfl⟩
  unfold pyNext
  exact wpAny_bind (wpAny_attempt (wpAny_callSpecial?_slot (name:=Str.ofString "__next__") hTy F.slot_zip_next
    (wpAny_call_entry F.slot_zip_next hTy F.entry_zip_next (wpAny_mono (zipn_kept2 (Q:=fun v s'=>Q (some v) s') D hz hTI hT h1 h2 hl1 hl2 hx1 hx2 fun h' b1 c1 c2 b5 b6 b7=>hQ h' ⟨b7 TI _ D.TIz (Ne.symm D.i1TI) (Ne.symm D.i2TI) hTI,c1,c2,.inr ⟨T,true,ot,b1,b7 T _ t1 t2 t3 hT,t1,t2,t3,t4⟩⟩ b5 b6 fun c o d1 _ d3 d4 e=>b7 c o d1 d3 d4 e) (fun fin s' z=>by obtain ⟨v,rfl,z⟩:=z; exact ⟨_,rfl,wpAny_pure z⟩) fun _ _ z=>z) (F.args_zip_next_1 _))))
theorem next_keptEnd2 {z TI TO S i1 i2 l1 l2:Addr} {k:Nat} {k1 k2:Kd} {xs1 xs2:Array Value} {Q:Option Value -> Shared -> Prop} (hh:A.handled = none) (D:ZAp2 z TI TO i1 i2 l1 l2)
  (st:ZSt s.heap z TI TO S i1 i2 l1 l2 k1 k2 k) (hl1:SqAt k1 s.heap l1 xs1) (hl2:SqAt k2 s.heap l2 xs2) (hend:xs1[k]? = none \/ xs2[k]? = none)
  (hQ:∀ h',(∀ c o,c ≠ z -> c ≠ TO -> c ≠ i1 -> c ≠ i2 -> s.heap.get? c = some o -> h'.get? c = some o) -> Q none { s with heap:=h' }):wpAny (model prog w) A (pyNext (.ref z)) Q E s:=by
 obtain ⟨hTI,h1,h2,hz⟩:=st
 rcases hz with ⟨hz,a1,a2,hTO⟩ | ⟨T,fl,ot,hz,hT,t1,t2,t3,t4⟩
 ·exact next_zip_end2 hh D hz hTI hTO h1 h2 hl1 hl2 hend hQ
 ·have hTy:s.TypeIs (.ref z) "zip":=⟨_,hz,rfl⟩
  unfold pyNext
  refine wpAny_bind (wpAny_attempt (wpAny_callSpecial?_slot (name:=Str.ofString "__next__") hTy F.slot_zip_next
    (wpAny_call_entry F.slot_zip_next hTy F.entry_zip_next (zipn_keptEnd2 hh D hz hTI hT h1 h2 hl1 hl2 hend fun h' e hk he=>?_) (F.args_zip_next_1 _))))
  obtain ⟨o,ho,hc⟩:=he
  refine wpAny_bind (wpAny_isInstance (T:="StopIteration") (b:=true) ⟨o,ho,hc⟩ isSubtype_stop ?_)
  exact wpAny_pure (hQ _ fun c o d1 _ d3 d4 e=>hk c o d1 d3 d4 e)
theorem ZSt.keep {h h':Heap} {z TI TO S i1 i2 l1 l2:Addr} {k1 k2:Kd} {i:Nat} (x:ZSt h z TI TO S i1 i2 l1 l2 k1 k2 i) (hk:∀ b o,b ≠ S -> h.get? b = some o -> h'.get? b = some o) (n1:z ≠ S) (n2:TI ≠ S) (n3:TO ≠ S) (n4:i1 ≠ S) (n5:i2 ≠ S) :
  ZSt h' z TI TO S i1 i2 l1 l2 k1 k2 i:=by
 obtain ⟨hTI,h1,h2,hz⟩:=x
 refine ⟨hk _ _ n2 hTI,h1.at fun o e=>hk _ _ n4 e,h2.at fun o e=>hk _ _ n5 e,?_⟩
 rcases hz with ⟨hz,a1,a2,hTO⟩ | ⟨T,fl,ot,hz,hT,t1,t2,t3,t4⟩
 ·exact .inl ⟨hk _ _ n1 hz,a1,a2,hk _ _ n3 hTO⟩
 ·exact .inr ⟨T,fl,ot,hk _ _ n1 hz,hk _ _ t4 hT,t1,t2,t3,t4⟩
end
structure ZG (xs1 xs2:Array Value) (lo:Addr) (h:Heap) (as:List Addr):Prop where
 rise:as.Pairwise (· < ·)
 above:∀ a ∈ as,lo < a
 pairs:∀ (j:Nat) (a:Addr),as[j]? = some a -> ∃ x y,xs1[j]? = some x /\ xs2[j]? = some y /\ IsTup2 h a x y
theorem ZG.there {xs1 xs2:Array Value} {lo:Addr} {h:Heap} {as:List Addr} (g:ZG xs1 xs2 lo h as) {a:Addr} (ha:a ∈ as):a < h.objs.size:=by
 obtain ⟨j,hj⟩:=List.mem_iff_getElem?.mp ha
 obtain ⟨_,_,_,_,e⟩:=g.pairs j a hj
 exact Heap.lt_size e
section
variable {prog:Program} {w:World} {A:Around} {s:Shared} {R:Result -> Shared -> Prop}
theorem zip_loop {z TI TO S i1 i2 l1 l2:Addr} {k1 k2:Kd} {xs1 xs2:Array Value} {n:Nat} (hh:A.handled = none) (D:ZAp2 z TI TO i1 i2 l1 l2) (n1:z < S) (n2:TI < S) (n3:TO < S) (n4:i1 < S) (n5:i2 < S) (n6:l1 ≠ S) (n7:l2 ≠ S)
  (hn1:n <= xs1.size) (hn2:n <= xs2.size) (hend:xs1[n]? = none \/ xs2[n]? = none) (hn:n <= sizeLine) (res:Value) {h₁:Heap}
  (hR:∀ h' tk acc c as,(∀ b o,b ≠ S -> b ≠ z -> b ≠ TO -> b ≠ i1 -> b ≠ i2 -> h₁.get? b = some o -> h'.get? b = some o) -> h'.get? S = some { cls:=.type "list",dict:=none,data:=.seq acc c,slots:=#[] } -> as.length = n -> ZG xs1 xs2 S h' as ->
    acc.toList = as.map Value.ref -> R (.ok (.ret res)) { s with heap:=h',toks:=tk }) :
  ∀ (k i:Nat) (h:Heap) (tk c:Nat) (acc:Array Value) (as:List Addr),n - i = k -> i <= n -> ZSt h z TI TO S i1 i2 l1 l2 k1 k2 i -> SqAt k1 h l1 xs1 -> SqAt k2 h l2 xs2 -> (∀ b o,b ≠ S -> b ≠ z -> b ≠ TO -> b ≠ i1 -> b ≠ i2 -> h₁.get? b = some o -> h.get? b = some o) ->
   h.get? S = some { cls:=.type "list",dict:=none,data:=.seq acc c,slots:=#[] } -> acc.toList = as.map Value.ref -> as.length = i -> ZG xs1 xs2 S h as ->
   codeAny (model prog w) A (.builtin "list.extend.loop" ⟨[.ref S,.ref z,res],[]⟩) R { s with heap:=h,toks:=tk }:=by
 have m1:z ≠ S:=Nat.ne_of_lt n1
 have m2:TI ≠ S:=Nat.ne_of_lt n2
 have m3:TO ≠ S:=Nat.ne_of_lt n3
 have m4:i1 ≠ S:=Nat.ne_of_lt n4
 have m5:i2 ≠ S:=Nat.ne_of_lt n5
 have far:∀ {a:Addr},S < a -> a ≠ S /\ a ≠ z /\ a ≠ TO /\ a ≠ i1 /\ a ≠ i2:=fun h=>⟨Nat.ne_of_gt h,Nat.ne_of_gt (Nat.lt_trans n1 h),Nat.ne_of_gt (Nat.lt_trans n3 h),Nat.ne_of_gt (Nat.lt_trans n4 h),Nat.ne_of_gt (Nat.lt_trans n5 h)⟩
 intro k
 induction k with
 | zero =>
  intro i h tk c acc as hk hi hst q1 q2 hkeep hS hacc hal hG
  have hin:i = n:=by omega
  subst hin
  refine codeAny_builtin PySem.F.entry_extend_loop ?_
  rw [Around.under_plainId PySem.F.plain_extend_loop _]
  show wpAny _ A.in1 (pyNext (.ref z) >>= _) _ _ _
  refine wpAny_bind (next_keptEnd2 (s:={ s with heap:=h,toks:=tk }) (A:=A.in1) hh D hst q1 q2 hend fun h' he=>?_)
  refine wpAny_pure (hR h' tk acc c as (fun b o c1 c2 c3 c4 c5 e=>he b o c2 c3 c4 c5 (hkeep b o c1 c2 c3 c4 c5 e)) (he S _ (Ne.symm m1) (Ne.symm m3) (Ne.symm m4) (Ne.symm m5) hS) hal ⟨hG.rise,hG.above,fun j a hj=>?_⟩ hacc)
  obtain ⟨x,y,e1,e2,e3⟩:=hG.pairs j a hj
  obtain ⟨_,f2,f3,f4,f5⟩:=far (hG.above a (List.mem_of_getElem? hj))
  exact ⟨x,y,e1,e2,he a _ f2 f3 f4 f5 e3⟩
 | succ k ih =>
  intro i h tk c acc as hk hi hst q1 q2 hkeep hS hacc hal hG
  have hlt:i < n:=by omega
  obtain ⟨x,hx⟩:∃ p,xs1[i]? = some p:=⟨xs1[i],Array.getElem?_eq_getElem (by omega)⟩
  obtain ⟨y,hy⟩:∃ p,xs2[i]? = some p:=⟨xs2[i],Array.getElem?_eq_getElem (by omega)⟩
  have hsz:acc.size = i:=by rw [<- Array.length_toList,hacc,List.length_map,hal]
  have hSl:S < h.objs.size:=Heap.lt_size hS
  refine codeAny_builtin PySem.F.entry_extend_loop ?_
  rw [Around.under_plainId PySem.F.plain_extend_loop _]
  show wpAny _ A.in1 (pyNext (.ref z) >>= _) _ _ _
  refine wpAny_bind (next_kept2 (s:={ s with heap:=h,toks:=tk }) (S:=S) D hSl hst q1 q2 hx hy fun h' hst' ht hz hkp=>?_)
  dsimp only at ht hz hkp ⊢
  have hS':=hkp S _ (Ne.symm m1) (Ne.symm m3) (Ne.symm m4) (Ne.symm m5) hS
  have up:∀ b o,b ≠ S -> h'.get? b = some o -> (h'.update S (Obj.mapSeq (·.push (Value.ref h.objs.size)))).get? b = some o:=fun b o hb e=>(Heap.get?_update_other _ _ (Ne.symm hb)).trans e
  show wpAny _ A.in1 (updateSeq S (·.push (Value.ref h.objs.size)) >>= _) _ _ _
  refine wpAny_bind ?_
  refine wpAny_updateSeq hS' rfl (wpAny_pure ⟨plainId_quiet PySem.F.plain_extend_loop _,ih (i + 1) _ tk _ (acc.push (Value.ref h.objs.size)) (as ++ [h.objs.size]) (by omega) hlt (hst'.keep up m1 m2 m3 m4 m5)
    (q1.at fun o e=>up _ o n6 (hkp _ o D.l1z D.l1TO D.l1i1 D.l1i2 e)) (q2.at fun o e=>up _ o n7 (hkp _ o D.l2z D.l2TO D.l2i1 D.l2i2 e))
    (fun b o c1 c2 c3 c4 c5 e=>up b o c1 (hkp b o c2 c3 c4 c5 (hkeep b o c1 c2 c3 c4 c5 e))) (Heap.get?_update_self _ hS' rfl) (by rw [Array.toList_push,hacc,List.map_append]; rfl) (by rw [List.length_append,hal]; rfl) ⟨?_,?_,?_⟩⟩) (by rw [hsz]; omega) (by show (acc.push (Value.ref h.objs.size)).size <= sizeLine + 1; rw [Array.size_push,hsz]; omega)
  ·refine List.pairwise_append.mpr ⟨hG.rise,List.pairwise_singleton _ _,fun a ha b hb=>?_⟩
   rw [List.mem_singleton.mp hb]
   exact hG.there ha
  ·intro a ha
   rcases List.mem_append.mp ha with ha | ha
   ·exact hG.above a ha
   ·rw [List.mem_singleton.mp ha]; exact hSl
  ·intro j b hj
   rcases Nat.lt_trichotomy j as.length with g | g | g
   ·rw [List.getElem?_append_left g] at hj
    obtain ⟨x',y',e1,e2,e3⟩:=hG.pairs j b hj
    obtain ⟨f1,f2,f3,f4,f5⟩:=far (hG.above b (List.mem_of_getElem? hj))
    exact ⟨x',y',e1,e2,up b _ f1 (hkp b _ f2 f3 f4 f5 e3)⟩
   ·subst g
    have hb:h.objs.size = b:=by simpa using hj
    subst hb
    exact ⟨x,y,by rw [hal]; exact hx,by rw [hal]; exact hy,up _ _ (Nat.ne_of_gt hSl) ht⟩
   ·have hnone:(as ++ [h.objs.size])[j]? = none:=List.getElem?_eq_none (by rw [List.length_append,List.length_singleton]; omega)
    rw [hnone] at hj; cases hj
end
end L2
namespace L2
open PySem PySem.Spec PyProof.Rows
theorem zip_no_len:typeLookup (.type "zip") "__len__" = pure none:=by rw [typeLookup_type,builtinLookup_eq_fast]; kernel_rfl
theorem zip_no_hint:typeLookup (.type "zip") "__length_hint__" = pure none:=by rw [typeLookup_type,builtinLookup_eq_fast]; kernel_rfl
section
variable {prog:Program} {w:World} {A:Around} {s:Shared} {R:Result -> Shared -> Prop}
theorem zip_extend {z TI TO S i1 i2 l1 l2:Addr} {k1 k2:Kd} {xs1 xs2:Array Value} {n:Nat} (hh:A.handled = none) (D:ZAp2 z TI TO i1 i2 l1 l2) (n1:z < S) (n2:TI < S) (n3:TO < S) (n4:i1 < S) (n5:i2 < S) (n6:l1 ≠ S) (n7:l2 ≠ S)
  (hn1:n <= xs1.size) (hn2:n <= xs2.size) (hend:xs1[n]? = none \/ xs2[n]? = none) (hn:n <= sizeLine) (res:Value) (c₀:Nat) {a1 a2:Value}
  (hz:IsZip s.heap z TI TO .none) (hTI:IsTup2 s.heap TI (.ref i1) (.ref i2)) (hTO:IsTup2 s.heap TO a1 a2) (h1:ItAt k1 s.heap i1 l1 0) (h2:ItAt k2 s.heap i2 l2 0) (hl1:SqAt k1 s.heap l1 xs1) (hl2:SqAt k2 s.heap l2 xs2)
  (hS:s.heap.get? S = some { cls:=.type "list",data:=.seq #[] c₀ })
  (hR:∀ h' tk acc c as,(∀ b o,b ≠ S -> b ≠ z -> b ≠ TO -> b ≠ i1 -> b ≠ i2 -> s.heap.get? b = some o -> h'.get? b = some o) -> h'.get? S = some { cls:=.type "list",dict:=none,data:=.seq acc c,slots:=#[] } -> as.length = n -> ZG xs1 xs2 S h' as ->
    acc.toList = as.map Value.ref -> R (.ok (.ret res)) { s with heap:=h',toks:=tk }) :
  wpAny (model prog w) A.in1 (Builtin.List.listExtendWith (.ref S) (.ref z) res)
   (fun fin s'=>match fin with | .done f=>R (.ok f) s' | .again c'=>c'.quiet = true /\ codeAny (model prog w) A c' R s') (fun e s'=>R (.error e) s') s:=by
 have m1:z ≠ S:=Nat.ne_of_lt n1
 have hTy:s.TypeIs (.ref z) "zip":=⟨_,hz,rfl⟩
 unfold Builtin.List.listExtendWith
 refine wpAny_bind (wpAny_typeOf hTy ?_)
 have e1:Builtin.List.listSameRef (.ref S) (.ref z) = false:=by simp [Builtin.List.listSameRef,Ne.symm m1]
 have e2:(Value.type "zip" == Value.type "list") = false:=by decide
 have e3:(Value.type "zip" == Value.type "tuple") = false:=by decide
 simp only [e1,e2,e3,Bool.or_false,Bool.false_eq_true,if_false]
 refine wpAny_bind (wpAny_pyIter_zip hz ?_)
 refine wpAny_bind (wpAny_holding ?_)
 unfold Builtin.List.listLengthHint
 refine wpAny_bind (wpAny_specialOf hTy zip_no_len ?_)
 show wpAny _ A.in1 (specialOf (Value.ref z) (Str.ofString "__length_hint__") >>= _) _ _ _
 refine wpAny_bind (wpAny_specialOf hTy zip_no_hint ?_)
 refine wpAny_pure ?_
 show wpAny _ A.in1 (rule "list.extend.makes-room" >>= fun _=>Builtin.List.listTouch (.ref S) >>= fun _ =>
   again (.builtin "list.extend.loop" ⟨[.ref S,.ref z,res],[]⟩)) _ _ _
 refine wpAny_bind (wpAny_rule ?_)
 refine wpAny_bind ?_
 show wpAny _ A.in1 (updateSeq S (·.push .none) >>= fun _=>updateSeq S (·.pop)) _ _ _
 refine wpAny_bind (wpAny_updateSeq hS rfl ?_)
 have hS₂:=Heap.get?_update_self (Obj.mapSeq (·.push Value.none)) hS rfl
 refine wpAny_updateSeq (hz:=by seq_fits) hS₂ rfl ?_
 have hS₃:=Heap.get?_update_self (Obj.mapSeq (·.pop)) hS₂ rfl
 have oth:∀ b o,b ≠ S -> s.heap.get? b = some o -> ((s.heap.update S (Obj.mapSeq (·.push Value.none))).update S (Obj.mapSeq (·.pop))).get? b = some o :=
  fun b o hb e=>(Heap.get?_update_other _ _ (Ne.symm hb)).trans ((Heap.get?_update_other _ _ (Ne.symm hb)).trans e)
 refine wpAny_pure ⟨plainId_quiet F.plain_extend_loop _,zip_loop (s:=s) (h₁:=s.heap) hh D n1 n2 n3 n4 n5 n6 n7 hn1 hn2 hend hn res hR n 0 _ s.toks _ #[] [] rfl (Nat.zero_le _)
   ⟨oth _ _ (Nat.ne_of_lt n2) hTI,h1.at fun o e=>oth _ _ (Nat.ne_of_lt n4) e,h2.at fun o e=>oth _ _ (Nat.ne_of_lt n5) e,.inl ⟨oth _ _ m1 hz,a1,a2,oth _ _ (Nat.ne_of_lt n3) hTO⟩⟩
   (hl1.at fun o e=>oth _ _ n6 e) (hl2.at fun o e=>oth _ _ n7 e) (fun b o c1 _ _ _ _ e=>oth b o c1 e) hS₃ rfl rfl ⟨List.Pairwise.nil,(fun _ ha=>nomatch ha),(fun j a hj=>by simp at hj)⟩⟩
end
section
variable {prog:Program} {w:World} {A:Around} {E:Value -> Shared -> Prop} {s:Shared}
theorem call_list_zip2 {z TI TO i1 i2 l1 l2:Addr} {k1 k2:Kd} {xs1 xs2:Array Value} {n:Nat} {Q:Value -> Shared -> Prop} (hh:A.handled = none) (D:ZAp2 z TI TO i1 i2 l1 l2)
  (hn1:n <= xs1.size) (hn2:n <= xs2.size) (hend:xs1[n]? = none \/ xs2[n]? = none) (hn:n <= sizeLine) {a1 a2:Value}
  (hz:IsZip s.heap z TI TO .none) (hTI:IsTup2 s.heap TI (.ref i1) (.ref i2)) (hTO:IsTup2 s.heap TO a1 a2) (h1:ItAt k1 s.heap i1 l1 0) (h2:ItAt k2 s.heap i2 l2 0) (hl1:SqAt k1 s.heap l1 xs1) (hl2:SqAt k2 s.heap l2 xs2)
  (b1:l1 < s.heap.objs.size) (b2:l2 < s.heap.objs.size)
  (hQ:∀ h' tk acc c as,(∀ b o,b ≠ z -> b ≠ TO -> b ≠ i1 -> b ≠ i2 -> s.heap.get? b = some o -> h'.get? b = some o) -> h'.get? s.heap.objs.size = some { cls:=.type "list",dict:=none,data:=.seq acc c,slots:=#[] } -> as.length = n -> ZG xs1 xs2 s.heap.objs.size h' as ->
    acc.toList = as.map Value.ref -> Q (.ref s.heap.objs.size) { s with heap:=h',toks:=tk }) :
  wpAny (model prog w) A (call (.type "list") [.ref z]) Q E s:=by
 refine callType_codes (Q₁:=fun obj s₁=>obj = .ref s.heap.objs.size /\ s₁ = { s with heap:=s.heap.push { cls:=.type "list",data:=.seq #[] } }) PySem.F.called_list (PySem.F.typeCall_list_1 _) PySem.F.entry_list_init
  (code_list_new _ ⟨rfl,rfl⟩) fun obj s₁ h₁=>?_
 obtain ⟨rfl,rfl⟩:=h₁
 have hS:(s.heap.push { cls:=.type "list",data:=.seq #[] }).get? s.heap.objs.size = some { cls:=.type "list",data:=.seq #[] }:=Heap.get?_push_size _ rfl
 refine ⟨⟨_,hS,rfl⟩,PySem.F.args_list_init_2 _ _,?_⟩
 show wpAny _ _ (do let old <- Builtin.List.listItems (.ref s.heap.objs.size); Builtin.List.listUpdate (.ref s.heap.objs.size) (fun _=>#[]); letGo old.toList.reverse; Builtin.List.listExtendWith (.ref s.heap.objs.size) (.ref z) .none) _ _ _
 refine wpAny_bind ?_
 unfold Builtin.List.listItems
 refine wpAny_bind (wpAny_seqItems hS rfl (wpAny_pure ?_))
 show wpAny _ _ (updateSeq s.heap.objs.size (fun _=>#[]) >>= fun _=>letGo (#[]:Array Value).toList.reverse >>= fun _=>Builtin.List.listExtendWith (.ref s.heap.objs.size) (.ref z) .none) _ _ _
 refine wpAny_bind (wpAny_updateSeq hS rfl ?_)
 have hS₂:=Heap.get?_update_self (Obj.mapSeq (fun _=>(#[]:Array Value))) hS rfl
 have oth:∀ b o,s.heap.get? b = some o -> ((s.heap.push { cls:=.type "list",data:=.seq #[] }).update s.heap.objs.size (Obj.mapSeq (fun _=>(#[]:Array Value)))).get? b = some o :=
  fun b o e=>(Heap.get?_update_other _ _ (Nat.ne_of_gt (Heap.lt_size e))).trans (Heap.get?_push_of_some _ e)
 refine wpAny_bind (wpAny_letGo ?_)
 obtain ⟨o1,g1,_⟩:=h1.obj
 obtain ⟨o2,g2,_⟩:=h2.obj
 refine zip_extend (A:=A.in1) hh D (Heap.lt_size hz) (Heap.lt_size hTI) (Heap.lt_size hTO) (Heap.lt_size g1) (Heap.lt_size g2) (Nat.ne_of_lt b1) (Nat.ne_of_lt b2) hn1 hn2 hend hn .none _ (oth _ _ hz) (oth _ _ hTI) (oth _ _ hTO) (h1.at fun o e=>oth _ _ e) (h2.at fun o e=>oth _ _ e) (hl1.at fun o e=>oth _ _ e) (hl2.at fun o e=>oth _ _ e) hS₂ fun h' tk acc c as hk hS' hl hG hacc=>?_
 exact ⟨rfl,hQ h' tk acc c as (fun b o c2 c3 c4 c5 e=>hk b o (Nat.ne_of_lt (Heap.lt_size e)) c2 c3 c4 c5 (oth b o e)) hS' hl hG hacc⟩
end
end L2
namespace L2
open PySem PySem.Spec PyProof.Rows
noncomputable def layT:Hp -> List (Addr × List V) -> Hp
 | H,[]=>H
 | H,(a,xs) :: r=>layT (upd H a (.tup xs)) r
theorem layT_sub:∀ {ps:List (Addr × List V)} {H:Hp} {b:Addr} {o:HO},(ps.map (·.1)).Nodup -> (∀ p ∈ ps,H p.1 = none) -> H b = some o -> layT H ps b = some o
 | [],_,_,_,_,_,e=>e
 | (a,xs) :: r,H,b,o,nd,hn,e=>by
  have nd:=List.nodup_cons.mp nd
  show layT (upd H a (.tup xs)) r b = some o
  refine layT_sub nd.2 (fun p hp=>?_) ?_
  ·rw [upd_ne (fun q=>nd.1 (List.mem_map.mpr ⟨p,hp,q⟩))]
   exact hn p (List.mem_cons_of_mem _ hp)
  ·rw [upd_ne (ne_of_none e (hn _ (.head _)))]; exact e
theorem layT_inv:∀ {ps:List (Addr × List V)} {H:Hp} {b:Addr} {o:HO},layT H ps b = some o -> H b = some o \/ ∃ xs,(b,xs) ∈ ps /\ o = .tup xs
 | [],_,_,_,e=>.inl e
 | (a,xs) :: r,H,b,o,e=>by
  rcases layT_inv (ps:=r) e with e | ⟨ys,m,q⟩
  ·by_cases hb:b = a
   ·subst hb
    rw [upd_same] at e
    cases e
    exact .inr ⟨xs,.head _,rfl⟩
   ·rw [upd_ne hb] at e
    exact .inl e
  ·exact .inr ⟨ys,List.mem_cons_of_mem _ m,q⟩
section
variable {X:Cx} {pins:List (Addr × Obj)} {σ:St} {H H':Hp} {s:Shared} {h':Heap}
theorem Inv.lays {t':Nat} (I:Inv X pins σ H s) (k:∀ b u,s.heap.get? b = some u -> h'.get? b = some u) (sub:∀ b o,H b = some o -> H' b = some o)
  (new:∀ b o,H' b = some o -> H b = some o \/ (s.heap.objs.size <= b /\ ObjOk X.prog X.w H' h' b o)):Inv X pins σ H' { s with heap:=h',toks:=t' }:=by
 refine I.un ⟨fun b u q _ _ _=>k b u q,fun b u q _ _ _=>⟨u.slots,k b u q⟩,fun b u q n _=>?_,fun b u q _=>⟨u,k b u q⟩,fun b xs q=>sub _ _ q,fun b u xs q=>sub _ _ q,fun b ps q=>⟨#[],by rw [sub _ _ q]; simp⟩⟩ fun b o e=>?_
 ·cases e:H' b with
  | none=>rfl
  | some o =>
   rcases new b o e with z | ⟨z,_⟩
   ·rw [n] at z; cases z
   ·exact absurd (Nat.lt_of_lt_of_le (Heap.lt_size q) z) (Nat.lt_irrefl _)
 ·rcases new b o e with z | ⟨_,z⟩
  ·exact (I.hok b o z).stay (fun c v _ q=>k c v q) (fun c q=>sub _ _ q) fun c xs q=>sub _ _ q
  ·exact z
end
noncomputable def pair2:List V -> List V -> List (List V)
 | x :: xs,y :: ys=>[x,y] :: pair2 xs ys
 | _,_=>[]
theorem pair2_len:∀ (xs ys:List V),(pair2 xs ys).length = min xs.length ys.length
 | [],_=>by simp [pair2]
 | _ :: _,[]=>by simp [pair2]
 | _ :: xs,_ :: ys=>by simp only [pair2,List.length_cons,pair2_len xs ys]; omega
theorem pair2_get:∀ {xs ys:List V} {j:Nat} {x y:V},xs[j]? = some x -> ys[j]? = some y -> (pair2 xs ys)[j]? = some [x,y]
 | _ :: _,_ :: _,0,_,_,e,q=>by cases e; cases q; rfl
 | _ :: xs,_ :: ys,j + 1,_,_,e,q=>pair2_get (xs:=xs) (ys:=ys) (j:=j) e q
 | [],_,_,_,_,e,_=>by simp at e
 | _ :: _,[],_,_,_,_,q=>by simp at q
noncomputable def tLZ (K:PySem.W.Frag) (ta:TA):TE:=fun σ H Q=>ta σ H fun vs H1=>∃ (k1:Kd) (l1:Addr) (ys1:List V) (k2:Kd) (l2:Addr) (ys2:List V),vs = [.ref l1,.ref l2] /\ Sq k1 K H1 l1 ys1 /\ Sq k2 K H1 l2 ys2 /\
 ∀ (ps:List (Addr × List V)) (S:Addr),(ps.map (·.1)).Nodup -> (∀ p ∈ ps,H1 p.1 = none) -> H1 S = none -> S ∉ ps.map (·.1) -> ps.map (·.2) = pair2 ys1 ys2 -> Q (.ref S) (upd (layT H1 ps) S (.lst (ps.map fun p=>V.ref p.1)))
end L2
namespace L2
open PySem PySem.Spec PyProof.Rows
theorem pe_LZ {X:Cx} {a b:Expr} {ta:TA} {p pos p0 pos0:Pos} (hcm:X.calm = true) (hg0:Gl X "list") (hm0:X.mg "list" = none) (hg:Gl X "zip") (hm:X.mg "zip" = none) (ha:PA X [a,b] ta)
  (hs:starEach [a,b] X.env = (false,eval a X.env) :: starEach [b] X.env:=by rfl) (hpl:(backTo pos (starEach [b] X.env)).any (·.1) = false:=by rfl)
  (hs0:starEach [.Call (.Name "zip" p) [a,b] [] pos] X.env = (false,eval (.Call (.Name "zip" p) [a,b] [] pos) X.env) :: starEach [] X.env:=by rfl) (hpl0:(backTo pos0 (starEach [] X.env)).any (·.1) = false:=by rfl) :
  PE X (.Call (.Name "list" p0) [.Call (.Name "zip" p) [a,b] [] pos] [] pos0) (tLZ X.K ta):=by
 intro pins s σ H Q I h
 refine wpAny_Call_Name_kw (ld_blt I hg0 hm0 boot_list ?_ (by decide) (by decide))
 refine PyProof.Rows.callWith_type1 ?_ hs0 hpl0
 rw [hs0]
 show wpAny _ _ (spliced ((false,eval (.Call (.Name "zip" p) [a,b] [] pos) X.env) :: backTo pos0 (starEach [] X.env))) _ _ s
 refine Calls.spliced_cons ?_
 refine Call_ (ld_blt I hg hm boot_zip (PyProof.Rows.callWith_type1 (thn (ha pos pins s σ H _ I h) fun us s1 ⟨vs,H1,I1,r1,q1⟩=>?_) hs hpl))
 obtain ⟨k1,l1,ys1,k2,l2,ys2,e,q1,q2,q⟩:=q1
 subst e
 obtain rfl:us = [.ref l1,.ref l2]:=by
  cases r1 with | cons r rr=>cases r; cases rr with | cons r rr=>cases r; cases rr; rfl
 obtain ⟨its1,rv1,p1,z1⟩:=I1.sq q1
 obtain ⟨its2,rv2,p2,z2⟩:=I1.sq q2
 have lt:∀ {k:Kd} {l:Addr} {xs:Array Value},SqAt k s1.heap l xs -> l < s1.heap.objs.size:=fun {k l xs} p=>by
  cases k with
  | l=>obtain ⟨o,e,_⟩:=p; exact Heap.lt_size e
  | t=>obtain ⟨o,e,_⟩:=p; exact Heap.lt_size e
 refine callType_new F.called_zip (by decide) (F.typeCall_zip_2 _ _) (F.newCall_zip_2 _ _) (fun obj=>F.args_object_init_3 obj _ _) F.entry_zip_new (zip_new2 k1 k2 l1 l2 its1.toArray its2.toArray) ⟨p1,p2,?_⟩
 have zI:(zh2I s1.heap k1 k2 l1 l2).objs.size = s1.heap.objs.size + 2:=by simp [Heap.size_push]
 have zT:(zh2T s1.heap k1 k2 l1 l2).objs.size = s1.heap.objs.size + 3:=by simp [Heap.size_push]
 have zO:(zh2O s1.heap k1 k2 l1 l2).objs.size = s1.heap.objs.size + 4:=by simp [Heap.size_push]
 have zZ:(zh2Z s1.heap k1 k2 l1 l2).objs.size = s1.heap.objs.size + 5:=by simp [Heap.size_push]
 have gZ:(zh2Z s1.heap k1 k2 l1 l2).get? (zh2O s1.heap k1 k2 l1 l2).objs.size = some _:=Heap.get?_push_size _ rfl
 have gO:(zh2Z s1.heap k1 k2 l1 l2).get? (zh2T s1.heap k1 k2 l1 l2).objs.size = some _:=Heap.get?_push_of_some _ (Heap.get?_push_size _ rfl)
 have gT:(zh2Z s1.heap k1 k2 l1 l2).get? (zh2I s1.heap k1 k2 l1 l2).objs.size = some _:=Heap.get?_push_of_some _ (Heap.get?_push_of_some _ (Heap.get?_push_size _ rfl))
 have g1:(zh2Z s1.heap k1 k2 l1 l2).get? s1.heap.objs.size = some (itObj k1 l1):=Heap.get?_push_of_some _ (Heap.get?_push_of_some _ (Heap.get?_push_of_some _ (Heap.get?_push_of_some _ (Heap.get?_push_size _ (by cases k1 <;> rfl)))))
 have g2:(zh2Z s1.heap k1 k2 l1 l2).get? (s1.heap.push (itObj k1 l1)).objs.size = some (itObj k2 l2):=Heap.get?_push_of_some _ (Heap.get?_push_of_some _ (Heap.get?_push_of_some _ (Heap.get?_push_size _ (by cases k2 <;> rfl))))
 have zz2:(s1.heap.push (itObj k1 l1)).objs.size = s1.heap.objs.size + 1:=by simp [Heap.size_push]
 rw [zO,zT,zI] at gZ
 rw [zI,zz2] at gT
 rw [zT] at gO
 rw [zz2] at g2
 show _ /\ _
 rw [zO]
 have kp:∀ b o,s1.heap.get? b = some o -> (zh2Z s1.heap k1 k2 l1 l2).get? b = some o:=fun b o e=>Heap.get?_push_of_some _ (Heap.get?_push_of_some _ (Heap.get?_push_of_some _ (Heap.get?_push_of_some _ (Heap.get?_push_of_some _ (e)))))
 refine ⟨⟨_,gZ,rfl⟩,Calls.spliced_nil ?_⟩
 have len1:=rv1.length
 have len2:=rv2.length
 have D:=zap2 s1.heap.objs.size l1 l2 (lt p1) (lt p2)
 refine call_list_zip2 (s:={ s1 with heap:=zh2Z s1.heap k1 k2 l1 l2 }) (xs1:=its1.toArray) (xs2:=its2.toArray) (n:=min ys1.length ys2.length) (I1.ok.hd hcm) D (by simp only [List.size_toArray]; omega) (by simp only [List.size_toArray]; omega) ?_ (by omega) gZ gT gO (ItAt.new k1 g1) (ItAt.new k2 g2)
  (p1.at fun o e=>kp _ _ e) (p2.at fun o e=>kp _ _ e) (by show l1 < (zh2Z s1.heap k1 k2 l1 l2).objs.size; rw [zZ]; exact Nat.lt_of_lt_of_le (lt p1) (Nat.le_add_right _ _)) (by show l2 < (zh2Z s1.heap k1 k2 l1 l2).objs.size; rw [zZ]; exact Nat.lt_of_lt_of_le (lt p2) (Nat.le_add_right _ _)) ?_
 ·rcases Nat.le_total ys1.length ys2.length with g | g
  ·exact .inl (by rw [Nat.min_eq_left g]; simp; omega)
  ·exact .inr (by rw [Nat.min_eq_right g]; simp; omega)
 intro h' tk acc c as hk hS hl hG hacc
 dsimp only at hk hS hG ⊢
 rw [zZ] at hS hG ⊢
 have hk':∀ b o,s1.heap.get? b = some o -> h'.get? b = some o:=fun b o e=>by
  have hb:=Heap.lt_size e
  exact hk b o (Nat.ne_of_lt (Nat.lt_of_lt_of_le hb (Nat.le_add_right _ _))) (Nat.ne_of_lt (Nat.lt_of_lt_of_le hb (Nat.le_add_right _ _))) (Nat.ne_of_lt hb) (Nat.ne_of_lt (Nat.lt_of_lt_of_le hb (Nat.le_add_right _ _))) (kp b o e)
 have hps:as.length = (pair2 ys1 ys2).length:=by rw [pair2_len]; exact hl
 have ps1:(as.zip (pair2 ys1 ys2)).map (·.1) = as:=List.map_fst_zip (by omega)
 have ps2:(as.zip (pair2 ys1 ys2)).map (·.2) = pair2 ys1 ys2:=List.map_snd_zip (by omega)
 have nd:as.Nodup:=hG.rise.imp fun h=>Nat.ne_of_lt h
 have ab:∀ a ∈ as,s1.heap.objs.size <= a:=fun a m=>Nat.le_of_lt (Nat.lt_of_le_of_lt (Nat.le_add_right _ 5) (hG.above a m))
 have hn:∀ p ∈ as.zip (pair2 ys1 ys2),H1 p.1 = none:=fun p m=>I1.hok.fresh (ab _ (List.of_mem_zip (a:=p.1) (b:=p.2) m).1)
 have nd':((as.zip (pair2 ys1 ys2)).map (·.1)).Nodup:=by rw [ps1]; exact nd
 have hSn:H1 (s1.heap.objs.size + 5) = none:=I1.hok.fresh (Nat.le_add_right _ _)
 have hSa:s1.heap.objs.size + 5 ∉ (as.zip (pair2 ys1 ys2)).map (·.1):=by rw [ps1]; exact fun m=>Nat.lt_irrefl _ (hG.above _ m)
 refine ⟨.ref (s1.heap.objs.size + 5),_,?_,rfl,q (as.zip (pair2 ys1 ys2)) _ nd' hn hSn hSa ps2⟩
 have hLS:layT H1 (as.zip (pair2 ys1 ys2)) (s1.heap.objs.size + 5) = none:=by
  cases e:layT H1 (as.zip (pair2 ys1 ys2)) (s1.heap.objs.size + 5) with
  | none=>rfl
  | some o =>
   rcases layT_inv e with z | ⟨xs,m,_⟩
   ·rw [hSn] at z; cases z
   ·exact absurd (List.mem_map.mpr ⟨_,m,rfl⟩) hSa
 have sub:∀ b o,H1 b = some o -> upd (layT H1 (as.zip (pair2 ys1 ys2))) (s1.heap.objs.size + 5) (.lst ((as.zip (pair2 ys1 ys2)).map fun p=>V.ref p.1)) b = some o:=fun b o e=>by
  rw [upd_ne (ne_of_none e hSn)]
  exact layT_sub nd' hn e
 refine I1.lays (t':=tk) hk' sub fun b o e=>?_
 by_cases hb:b = s1.heap.objs.size + 5
 ·subst hb
  rw [upd_same] at e
  cases e
  refine .inr ⟨Nat.le_add_right _ _,?_,acc.toList,c,?_,by simpa using hS⟩
  ·rw [List.length_map,<- List.length_map (f:=(·.1)),ps1]; omega
  ·have hV:((as.zip (pair2 ys1 ys2)).map fun p=>V.ref p.1) = as.map V.ref:=by
    have e:((as.zip (pair2 ys1 ys2)).map fun p=>V.ref p.1) = ((as.zip (pair2 ys1 ys2)).map (·.1)).map V.ref:=by rw [List.map_map]; rfl
    rw [e,ps1]
   rw [hacc,hV]
   have:∀ l:List Addr,Vals (l.map V.ref) (l.map Value.ref):=fun l=>by
    induction l with
    | nil=>exact .nil
    | cons a l ih=>exact .cons rfl ih
   exact this as
 ·rw [upd_ne hb] at e
  rcases layT_inv e with z | ⟨xs,m,rfl⟩
  ·exact .inl z
  ·obtain ⟨j,hj⟩:=List.mem_iff_getElem?.mp m
   obtain ⟨ha',hp'⟩:=List.getElem?_zip_eq_some.mp hj
   obtain ⟨x,y,e1,e2,e3⟩:=hG.pairs j b ha'
   obtain ⟨x',f1,r1'⟩:=rv1.getV (by simpa using e1)
   obtain ⟨y',f2,r2'⟩:=rv2.getV (by simpa using e2)
   have:=pair2_get f1 f2
   rw [hp'] at this
   cases this
   exact .inr ⟨ab _ (List.mem_of_getElem? ha'),by show 2 <= sizeLine; decide,[x,y],.cons r1' (.cons r2' .nil),_,e3,rfl,_,rfl,rfl⟩
end L2
namespace L3
open PySem PySem.Spec L2
noncomputable def sqD:D -> Option (List D)
 | .list ds=>some ds
 | .tuple ds=>some ds
 | _=>none
section
variable {K:Fg} {F H:Hp}
theorem At.seq {v:V} {d:D} {ds:List D} (s:Sub F H) (h:At K F H v d) (e:sqD d = some ds):∃ k a xs,v = .ref a /\ Sq k K H a xs /\ DaAll K F xs ds:=by
 cases d <;> first | cases e | skip
 ·obtain ⟨a,xs,rfl,e1,d1⟩:=h.list s
  exact ⟨.l,a,xs,rfl,SqL.of e1,d1⟩
 ·obtain ⟨a,xs,rfl,_,e1,d1⟩:=h.tuple s
  exact ⟨.t,a,xs,rfl,SqT.of e1,d1⟩
theorem layT_rel {G:Gh} {σ:St} {ρ:Ev}:∀ {ps:List (Addr × List V)} {ys1 ys2:List V} {ds es:List D} {F H:Hp},Rel K G F σ H ρ -> (ps.map (·.1)).Nodup -> (∀ p ∈ ps,H p.1 = none) -> ps.map (·.2) = pair2 ys1 ys2 -> DaAll K F ys1 ds -> DaAll K F ys2 es ->
  ∃ F',Sub F F' /\ Rel K G F' σ (layT H ps) ρ /\ DaAll K F' (ps.map fun p=>V.ref p.1) ((ds.zip es).map fun p=>PyData.tuple [p.1,p.2])
 | [],ys1,ys2,ds,es,F,H,R,_,_,e,d1,d2=>by
  refine ⟨F,Sub.refl _,R,?_⟩
  have:(ds.zip es) = []:=by
   cases d1 with
   | nil=>rfl
   | cons _ _=>cases d2 with
    | nil=>simp
    | cons _ _=>simp [pair2] at e
  rw [this]
  exact .nil
 | (a,xs) :: r,ys1,ys2,ds,es,F,H,R,nd,hn,e,d1,d2=>by
  cases d1 with
  | nil=>simp [pair2] at e
  | @cons x ys1 d ds h1 t1 =>
   cases d2 with
   | nil=>simp [pair2] at e
   | @cons y ys2 d' es h2 t2 =>
    simp only [pair2,List.map_cons,List.cons.injEq] at e
    obtain ⟨e0,e⟩:=e
    have e0:xs = [x,y]:=e0
    subst e0
    have nd:=List.nodup_cons.mp nd
    obtain ⟨sb,R1,da⟩:=R.newTup (a:=a) (xs:=[x,y]) (ds:=[d,d']) (hn _ (.head _)) (.cons h1 (.cons h2 .nil))
    obtain ⟨F',sb',R',da'⟩:=layT_rel (ps:=r) R1 nd.2 (fun p hp=>by
      rw [upd_ne (fun q=>nd.1 (List.mem_map.mpr ⟨p,hp,q⟩))]
      exact hn p (List.mem_cons_of_mem _ hp)) e (t1.mono sb) (t2.mono sb)
    exact ⟨F',sb.trans sb',R',.cons (da.mono sb') da'⟩
end
noncomputable def rLZ (K:Fg):List V -> Hp -> VK -> Prop:=fun vs H1 Q=>∃ (k1:Kd) (l1:Addr) (ys1:List V) (k2:Kd) (l2:Addr) (ys2:List V),vs = [.ref l1,.ref l2] /\ Sq k1 K H1 l1 ys1 /\ Sq k2 K H1 l2 ys2 /\
 ∀ (ps:List (Addr × List V)) (S:Addr),(ps.map (·.1)).Nodup -> (∀ p ∈ ps,H1 p.1 = none) -> H1 S = none -> S ∉ ps.map (·.1) -> ps.map (·.2) = pair2 ys1 ys2 -> Q (.ref S) (upd (layT H1 ps) S (.lst (ps.map fun p=>V.ref p.1)))
noncomputable def fLZ:D -> D -> (Sl -> Prop) -> Prop:=fun d e Q=>∃ ds es,sqD d = some ds /\ sqD e = some es /\ Q (.ow (.list ((ds.zip es).map fun p=>PyData.tuple [p.1,p.2])))
theorem ok_LZ {K:Fg}:OpOk K (rLZ K) (o2 fLZ):=by
 intro G F σ H ρ vs ds Q Qd R ha w k
 rcases ds with _ | ⟨d,_ | ⟨e,_ | ⟨e3,ds⟩⟩⟩ <;> first | exact w.elim | skip
 ·obtain ⟨v1,v2,rfl,h1,h2⟩:=ha.two
  obtain ⟨ds,es,e1,e2,w⟩:=w
  obtain ⟨k1,l1,ys1,rfl,q1,d1⟩:=h1.seq R.sub e1
  obtain ⟨k2,l2,ys2,rfl,q2,d2⟩:=h2.seq R.sub e2
  refine ⟨k1,l1,ys1,k2,l2,ys2,rfl,q1,q2,fun ps S nd hn hS hSp hp=>?_⟩
  obtain ⟨F',sb,R',da⟩:=layT_rel R nd hn hp d1 d2
  have hS':layT H ps S = none:=by
   cases e:layT H ps S with
   | none=>rfl
   | some o =>
    rcases layT_inv e with z | ⟨xs,m,_⟩
    ·rw [hS] at z; cases z
    ·exact absurd (List.mem_map.mpr ⟨_,m,rfl⟩) hSp
  obtain ⟨R2,r2⟩:=R'.newOw (o:=.lst _) (d:=.list _) hS' da
  exact k _ _ F' _ sb R2 r2 w
section
variable {X:Cx} {K:Fg} {e e1 e2:Expr} {a b:AD} {p pos pos' p2:Pos}
theorem w_LZ (hK:X.K = K) (hc:X.calm = true) (hm:X.mg "list" = none) (hm2:X.mg "zip" = none) (ha:WA X [e1,e2] (tArgs ([a,b].map (argT K)))) (hg:Gl X "list":=by rfl) (hg2:Gl X "zip":=by rfl) (he:notStar e1 = true:=by rfl) (he2:notStar e2 = true:=by rfl) :
  WE X (.Call (.Name "list" p) [.Call (.Name "zip" p2) [e1,e2] [] pos'] [] pos) (lift K (dOp [a,b] (o2 fLZ))):=by
 subst hK
 exact ⟨peM (pe_LZ hc hg hm hg2 hm2 ha.h (starEach_of he) (plain_of (by simp [he2])) (starEach_of rfl) (plain_of rfl)) fun q=>l_op ok_LZ q⟩
end
end L3
namespace L3
open PySem PySem.Spec L2
mutual
theorem noMix_self:∀ d:D,plainD d = true -> SeqAt.noMix d d = true
 | .none,_=>by simp [SeqAt.noMix]
 | .bool _,_=>by simp [SeqAt.noMix]
 | .int _,_=>by simp [SeqAt.noMix]
 | .str _,_=>by simp [SeqAt.noMix]
 | .list xs,h=>by simp [SeqAt.noMix]; exact noMixAll_self xs (by simpa [plainD] using h)
 | .tuple xs,h=>by simp [SeqAt.noMix]; exact noMixAll_self xs (by simpa [plainD] using h)
 | .dict _,h=>by simp [plainD] at h
theorem noMixAll_self:∀ xs:List D,plainAll xs = true -> SeqAt.noMixAll xs xs = true
 | [],_=>by simp [SeqAt.noMixAll]
 | x :: xs,h=>by
  simp [plainAll] at h
  simp [SeqAt.noMixAll]
  exact ⟨noMix_self x h.1,noMixAll_self xs h.2⟩
end
structure Nice (n:Nat) (d:D):Prop where
 p:plainD d = true
 c:d.canLay0 = true
 d:d.depth <= n
theorem Nice.mono {n m:Nat} {d:D} (h:Nice n d) (k:n <= m):Nice m d:=⟨h.p,h.c,Nat.le_trans h.d k⟩
theorem Nice.int (n:Nat) (i:Int):Nice n (.int i):=⟨rfl,by simp [PyData.canLay0],by simp [PyData.depth]⟩
theorem Nice.none (n:Nat):Nice n .none:=⟨rfl,by simp [PyData.canLay0],by simp [PyData.depth]⟩
theorem nice_all {n:Nat}:∀ {l:List D},(∀ d ∈ l,Nice n d) -> plainAll l = true /\ PyData.canLayAll0 l = true /\ PyData.depthAll l <= n
 | [],_=>⟨rfl,by simp [PyData.canLayAll0],by simp [PyData.depthAll]⟩
 | x :: l,h=>by
  have h1:=h x List.mem_cons_self
  have h2:=nice_all (l:=l) fun d hd=>h d (List.mem_cons_of_mem _ hd)
  refine ⟨by simp [plainAll,h1.p,h2.1],by simp [PyData.canLayAll0,h1.c,h2.2.1],?_⟩
  have:=h1.d
  have:=h2.2.2
  simp [PyData.depthAll]
  omega
theorem Nice.list {n:Nat} {l:List D} (h:∀ d ∈ l,Nice n d):Nice (n + 1) (.list l):=by
 obtain ⟨a,b,c⟩:=nice_all h
 exact ⟨by simp [plainD,a],by simp [PyData.canLay0,b],by simp [PyData.depth]; omega⟩
theorem Nice.tuple {n:Nat} {l:List D} (h:∀ d ∈ l,Nice n d):Nice (n + 1) (.tuple l):=by
 obtain ⟨a,b,c⟩:=nice_all h
 exact ⟨by simp [plainD,a],by simp [PyData.canLay0,b],by simp [PyData.depth]; omega⟩
theorem Nice.ints (l:List Int):Nice 1 (.list (l.map PyData.int)):=.list fun d hd=>by
 obtain ⟨i,_,rfl⟩:=List.mem_map.mp hd
 exact .int 0 i
theorem Nice.tup (l:List Int):Nice 1 (.tuple (l.map PyData.int)):=.tuple fun d hd=>by
 obtain ⟨i,_,rfl⟩:=List.mem_map.mp hd
 exact .int 0 i
theorem Nice.sh {n:Nat} {d:D} (h:Nice n d) (k:n <= 64):SeqAt.shaped d = true:=by
 have:=h.d
 unfold SeqAt.shaped
 rw [h.c]
 simp
 omega
end L3
namespace L2
open PySem PySem.Spec PyProof.Rows
noncomputable def rIsi2 (K:PySem.W.Frag):List V -> Hp -> VK -> Prop:=fun xs H Q=>∃ (x:V) (k:Ki) (T:Ki),xs = [x,.ty T.nm] /\ (KiOf K H x k \/ ∃ a,x = .ref a /\ k = .dct /\ IsD H a) /\ Q (.bl (k.sub T)) H
theorem call_isi2 {X:Cx}:CallR X (.builtin "isinstance") (rIsi2 X.K):=by
 intro pins s σ H xs us Q I r h
 obtain ⟨x,k,T,rfl,hk,q⟩:=h
 rcases hk with hk | ⟨a,rfl,rfl,hd⟩
 ·exact call_isi pins s σ H _ us Q I r ⟨x,k,T,rfl,hk,q⟩
 ·obtain ⟨u,w',rfl,ru,rw'⟩:=vals2 r
  obtain rfl:w' = .type T.nm:=rw'
  cases ru
  have ht:s.TypeIs (.ref a) Ki.dct.nm:=(isD_at I hd).1
  cases hs:Ki.dct.sub T with
  | true =>
   rw [hs] at q
   exact call_isinstance (isinstance_true (Tx:=Ki.dct.nm) (ki_meta T) (by rw [ki_sub,hs])) ⟨ht,.bl true,H,I,rfl,q⟩
  | false =>
   rw [hs] at q
   have hsub:isSubtype (.type Ki.dct.nm) (.type T.nm) = pure false:=by rw [ki_sub,hs]
   have hne:=ki_ne Ki.dct T hs
   have fin:EP X pins σ Q (.bool false) { s with toks:=s.toks + 1 }:=⟨.bl false,H,I.tok _,rfl,q⟩
   exact call_isinstance (isinstance_false_dict hne (ki_meta T) hsub) ⟨ht,fin⟩
inductive PrsT (H:Hp):List (V × V) -> List (List Key × V) -> Prop
 | nil:PrsT H [] []
 | cons {b ks v ps kvs}:H b = some (.tup (ks.map kV)) -> PrsT H ps kvs -> PrsT H ((.ref b,v) :: ps) ((ks,v) :: kvs)
section
variable {X:Cx} {pins:List (Addr × Obj)} {σ:St} {a:Addr} {E:Value -> Shared -> Prop}
end
end L2
namespace L3
open PySem PySem.Spec PyProof.Rows L2
noncomputable def notScr:List (D × D) -> Bool
 | (.none,_) :: _=>false
 | (.bool _,_) :: _=>false
 | _=>true
noncomputable def dNever:TDS:=fun _ _=>False
noncomputable def fIsiA (T:Ki):D -> (Sl -> Prop) -> Prop
 | .dict es,Q=>notScr es = true /\ Q (.fz (.bool (Ki.dct.sub T)))
 | d,Q=>Q (.fz (.bool ((kiD d).sub T)))
theorem At.isD {K:Fg} {F H:Hp} {v:V} {es:List (D × D)} (s:Sub F H) (h:At K F H v (.dict es)) (hn:notScr es = true):∃ a,v = .ref a /\ IsD H a:=by
 rcases h with h | ⟨a,o,rfl,_,e,h⟩
 ·cases h with
  | dk r t=>exact ⟨_,rfl,.inl ⟨_,s.rd r⟩⟩
  | dt r t=>exact ⟨_,rfl,.inr ⟨_,s.rd r⟩⟩
  | scr q=>simp [notScr] at hn
  | exc q=>simp [notScr] at hn
  | opq q=>simp [notScr] at hn
  | pd q t=>simp [notScr] at hn
  | bd q t=>simp [notScr] at hn
 ·cases o with
  | ext φ=>obtain ⟨a',ep,xs,ps,z,z2,t⟩:=h.ext; injection z2 with z2; rw [z2] at hn; simp [notScr] at hn
  | _=>first | exact h.elim | exact ⟨_,rfl,.inl ⟨_,.inl e⟩⟩ | exact ⟨_,rfl,.inr ⟨_,.inl e⟩⟩
theorem ok_isiA {K:Fg} {T:Ki}:OpOk K (fun vs H Q=>∃ x,vs = [x] /\ rIsi2 K [x,.ty T.nm] H Q) (o1 (fIsiA T)):=ok1 fun G F σ H ρ x d Q Qd R h1 w k=>by
 have go:∀ (ki:Ki),KiOf K H x ki -> Qd (.fz (.bool (ki.sub T))) -> ∃ x',[x] = [x'] /\ rIsi2 K [x',.ty T.nm] H Q:=fun ki h w=>⟨x,rfl,x,ki,T,rfl,.inl h,k _ H F (.fz _) (Sub.refl _) R (Da.bl _) w⟩
 match d,h1,w with
 | .none,h1,w=>cases h1.none; exact go .non rfl w
 | .bool b,h1,w=>cases h1.bool; exact go .bl rfl w
 | .int i,h1,w=>cases h1.int; exact go .int rfl w
 | .str z,h1,w=>cases h1.str; exact go .str rfl w
 | .list ds,h1,w =>
  obtain ⟨a,us,rfl,e1,d1⟩:=h1.list R.sub
  exact go .lst (.inl ⟨rfl,us,SqL.of e1⟩) w
 | .tuple ds,h1,w =>
  obtain ⟨a,us,rfl,_,e1,d1⟩:=h1.tuple R.sub
  exact go .tup (.inr (.inl ⟨rfl,us,SqT.of e1⟩)) w
 | .dict es,h1,w =>
  obtain ⟨a,rfl,hd⟩:=h1.isD R.sub w.1
  exact ⟨_,rfl,_,.dct,T,rfl,.inr ⟨a,rfl,rfl,hd⟩,k _ H F (.fz _) (Sub.refl _) R (Da.bl _) w.2⟩
noncomputable def rSlHi (K:Fg):R2:=fun x y H Q=>∃ j,y = .int j /\ rSlT K x none (some j) H Q
noncomputable def fSlHi:D -> D -> (Sl -> Prop) -> Prop
 | .tuple ds,.int j,Q=>(if j < 0 then 1 <= ds.length else j < ds.length) /\ Q (.fz (.tuple (ds.take (if j < 0 then (j + ds.length).toNat else j.toNat))))
 | _,_,_=>False
theorem ok_slHi {K:Fg}:OpOk K (r2L (rSlHi K)) (o2 fSlHi):=ok2 fun G F σ H ρ x y d e Q Qd R h1 h2 w k=>by
 match d,e,h1,h2,w with
 | .tuple ds,.int j,h1,h2,w =>
  cases h2.int
  obtain ⟨a,us,rfl,f1,e1,d1⟩:=h1.tuple R.sub
  have hl:=d1.length
  have hs:HT.sIx us.length us.length (some j) = if j < 0 then (j + ds.length).toNat else j.toNat:=by
   show (if j < 0 then (j + (us.length:Int)).toNat else min j.toNat us.length) = _
   have:=w.1
   split at this <;> split <;> omega
  refine ⟨j,rfl,a,us,rfl,SqT.of e1,fun z=>?_,fun p hp=>?_⟩
  ·have z2:=z.2
   rw [hs] at z2
   have:=w.1
   split at this <;> split at z2 <;> omega
  ·have e3:cutV us none (some j) = us.take (if j < 0 then (j + ds.length).toNat else j.toNat):=by
    unfold cutV
    rw [hs]
    rfl
   rw [e3]
   obtain ⟨sb,R',dd⟩:=R.newTup hp (d1.take (if j < 0 then (j + ds.length).toNat else j.toNat))
   exact k _ _ _ (.fz _) sb R' dd w.2
noncomputable def dDNew:TD:=fun ρ Q=>Q (.ow (.dict [])) ρ
theorem l_dnew {K:Fg} {σ:L2.St} {H:Hp} {Q:VK} (h:lift K dDNew σ H Q):tDNewT σ H Q:=by
 obtain ⟨G,F,ρ,Qd,R,w,k⟩:=h
 intro p hp
 obtain ⟨R',r'⟩:=R.newOw (o:=.dT []) (d:=.dict []) hp DaKT.nil
 exact k _ _ F _ ρ (Sub.refl _) R' r' w
section
variable {X:Cx} {K:Fg} {e e1 e2:Expr} {a b:AD} {ta tb:TD} {st:Stmt} {p pos p2 pos' px py pt:Pos} {x y:Str}
theorem s_never:WS X st (liftS K dNever):=⟨fun pins s σ H D I h=>by obtain ⟨G,F,ρ,E,R,w,_⟩:=h; exact w.elim⟩
theorem w_isiA (T:Ki) (hK:X.K = K) (hm:X.mg "isinstance" = none) {y:Str} (hm2:X.mg y = none) (hv2:bootBuiltins y = some (.type T.nm)) (ha:WE X e1 (argT K a)) (hg:Gl X "isinstance":=by rfl) (hg2:Gl X y:=by rfl) (hy:y ≠ "__name__":=by decide) (hy2:(y == ("__debug__":Str)) = false:=by decide) (he:notStar e1 = true:=by rfl) :
  WE X (.Call (.Name "isinstance" p) [e1,.Name y p2] [] pos) (lift K (dOp [a] (o1 (fIsiA T)))):=by
 subst hK
 exact ⟨peM (pe_callB call_isi2 hg hm boot_isinstance (pa_cons ha.h (pa_cons (pe_bltn hg2 hm2 hv2 (v:=.ty T.nm) rfl hy hy2) pa_nil (starEach_of rfl)) (starEach_of he)) (by decide) (by decide) (starEach_of he) (plain_of rfl)) fun q=>arg1 (P:=fun x H1=>rIsi2 X.K [x,.ty T.nm] H1 _) (l_op ok_isiA q)⟩
theorem w_slHi (hK:X.K = K) (ha:WE X e1 (argT K a)) (hb:WE X e2 (argT K b)):WE X (.Subscript e1 (.Slice none (some e2) none p2) pos) (lift K (dOp [a,b] (o2 fSlHi))):=by
 subst hK
 exact ⟨peM (pe_slice sl_tup ha.h po_none (po_some hb.h)) fun q=>arg2 (P:=fun x y H=>rSlHi X.K x y H _) (l_op ok_slHi q)⟩
theorem w_dnew:WE X (.Dict [] [] pos) (lift K dDNew):=⟨peM pe_dnewT fun q=>l_dnew q⟩
end
end L3
namespace L2
open PySem PySem.Spec PyProof.Rows
section
variable {X:Cx}
theorem op_isnotB:OpR X (compareOp .IsNot) (fun x y H Q=>∃ c d,x = .bl c /\ y = .bl d /\ Q (.bl (!(c == d))) H):=by
 intro pins s σ H x y v u Q I rx ry h
 obtain ⟨c,d,rfl,rfl,q⟩:=h
 cases rx
 cases ry
 exact isnot_bool ⟨.bl _,H,I,rfl,q⟩
end
end L2
namespace L3
open PySem PySem.Spec PyProof.Rows L2
noncomputable def fIsB:D -> D -> (Sl -> Prop) -> Prop
 | .bool c,.bool d,Q=>Q (.fz (.bool (c == d)))
 | _,_,_=>False
noncomputable def fIsnB:D -> D -> (Sl -> Prop) -> Prop
 | .bool c,.bool d,Q=>Q (.fz (.bool (!(c == d))))
 | _,_,_=>False
theorem ok_isnB {K:Fg}:OpOk K (r2L fun x y H Q=>∃ c d,x = .bl c /\ y = .bl d /\ Q (.bl (!(c == d))) H) (o2 fIsnB):=ok2 fun G F σ H ρ x y d e Q Qd R h1 h2 w k=>by
 cases d <;> first | exact w.elim | skip
 cases e <;> first | exact w.elim | skip
 case bool.bool c d =>
  cases h1.bool
  cases h2.bool
  exact ⟨c,d,rfl,rfl,k _ H F (.fz _) (Sub.refl _) R (Da.bl _) w⟩
section
variable {X:Cx} {K:Fg} {x:Str} {pos:Pos}
theorem w_gint {n:Int} (hm:∃ t,X.mg x = some (.int n t)) (hg:Gl X x:=by rfl) (hd:(x == ("__debug__":Str)) = false:=by decide):WE X (.Name x pos) (lift K (dC (.int n))):=by
 obtain ⟨t,hm⟩:=hm
 exact ⟨cv_c (fun _=>.int _) (pe_glob hg hm ⟨t,rfl⟩ hd)⟩
end
end L3
namespace L2
open PySem PySem.Spec PyProof.Rows
noncomputable def tyLT:Obj:={ cls:=.type "tuple",data:=.seq #[.type "list",.type "tuple"] }
noncomputable def tTyT:TE:=fun _ H Q=>∀ p,H p = none -> Q (.ref p) (upd H p (.frz tyLT (.tup [.ty "list",.ty "tuple"])))
theorem pe_tyT {X:Cx} {p2 p3 pos:Pos} {k:Nat} (hm1:X.mg "list" = none) (hm2:X.mg "tuple" = none) (hg1:Gl X "list") (hg2:Gl X "tuple"):PE X (.Tuple [.Name "list" p2,.Name "tuple" p3] k pos) tTyT:=by
 intro pins s σ H Q I hq
 have h:PA X [.Name "list" p2,.Name "tuple" p3] (tCons (tC (.ty "list")) (tCons (tC (.ty "tuple")) tNil)) :=
  pa_cons (pe_bltn hg1 hm1 boot_list (v:=.ty "list") rfl) (pa_cons (pe_bltn hg2 hm2 boot_tuple (v:=.ty "tuple") rfl) pa_nil (L3.starEach_of rfl)) (L3.starEach_of rfl)
 refine wpAny_Tuple_spliced (thn (h pos pins s σ H (fun xs H1=>xs = [.ty "list",.ty "tuple"] /\ H1 = H) I ⟨rfl,rfl⟩) fun us s1 ⟨xs,H1,I1,r,ex,eH⟩=>?_)
 subst ex eH
 have r0:=r
 obtain ⟨u1,u2,rfl,r1,r2⟩:=vals2 r
 obtain rfl:u1 = .type "list":=r1
 obtain rfl:u2 = .type "tuple":=r2
 have z:([V.ty "list",V.ty "tuple"]:List V).length <= sizeLine:=by show 2 <= sizeLine; decide
 refine ⟨by show 2 <= sizeLine; decide,?_⟩
 have hf:=I1.hok.fresh (Nat.le_refl s1.heap.objs.size)
 exact ⟨.ref s1.heap.objs.size,upd H1 s1.heap.objs.size (.frz tyLT (.tup [.ty "list",.ty "tuple"])),I1.laid (t':=s1.toks) (fun b u e=>Heap.get?_push_of_some _ e) (Nat.le_refl _) ⟨Heap.get?_push_size _ rfl,z,_,r0,⟨_,Heap.get?_push_size _ rfl,rfl,_,rfl,rfl⟩⟩,rfl,hq _ hf⟩
end L2
namespace L3
open PySem PySem.Spec PyProof.Rows L2
section
variable {X:Cx} {K:Fg} {e1:Expr} {a:AD} {p pos p2 p3 p4:Pos}
end
end L3
namespace L3
open PySem PySem.Spec PyProof.Rows L2
theorem len_ofString (s:String):(Str.ofString s).length = s.length:=by
 rw [Str.ofString_eq_toList]
 simp only [Str.length,List.size_toArray,List.length_map]
 first | rfl | exact String.length_toList | exact String.length_toList _ | simp
theorem shown_int {i:Int} {k:Nat} (hk:0 < k) (h:i.natAbs < 10 ^ k):(PyData.int i).shown.length <= k + 1:=by
 show (Str.ofString (toString i)).length <= k + 1
 rw [len_ofString]
 cases i with
 | ofNat n =>
  show (Nat.repr n).length <= k + 1
  have:=(Nat.length_repr_le_iff (n:=n) hk).mpr h
  omega
 | negSucc m =>
  show ("-" ++ Nat.repr (m + 1)).length <= k + 1
  have h1:m + 1 < 10 ^ k:=by simpa using h
  have:=(Nat.length_repr_le_iff (n:=m + 1) hk).mpr h1
  rw [String.length_append]
  have e:("-":String).length = 1:=by decide
  omega
theorem join_len (sep:Str) (b:Nat):∀ ts:List Str,(∀ t ∈ ts,t.length <= b) -> (Str.join sep ts).length <= ts.length * (b + sep.length)
 | [],_=>by simp [Str.join,Str.length,Str.empty]
 | [x],h=>by
  have:=h x List.mem_cons_self
  show x.length <= _
  simp
  omega
 | x :: y :: r,h=>by
  have h1:=h x List.mem_cons_self
  have h2:=join_len sep b (y :: r) fun t ht=>h t (List.mem_cons_of_mem _ ht)
  show (x ++ sep ++ Str.join sep (y :: r)).length <= _
  rw [Str.length_append,Str.length_append,List.length_cons,Nat.succ_mul]
  omega
theorem shownAll_map:∀ l:List D,PyData.shownAll l = l.map PyData.shown
 | []=>rfl
 | x :: l=>by simp [PyData.shownAll,shownAll_map l]
theorem shown_tuple {b:Nat} {l:List D} (h:∀ d ∈ l,d.shown.length <= b):(PyData.tuple l).shown.length <= l.length * (b + 2) + 3:=by
 show (tupleText (PyData.shownAll l)).length <= _
 rw [shownAll_map]
 have hj:=join_len (Str.ofString ", ") b (l.map PyData.shown) fun t ht=>by
  obtain ⟨d,hd,rfl⟩:=List.mem_map.mp ht
  exact h d hd
 rw [List.length_map,len_ofString] at hj
 have e2:(", ":String).length = 2:=by decide
 rw [e2] at hj
 unfold tupleText
 rw [Str.length_append,Str.length_append,len_ofString,len_ofString]
 have e1:("(":String).length = 1:=by decide
 have e3:(if (((l.map PyData.shown).length == 1) = true) then ",)" else ")":String).length <= 2:=by split <;> decide
 omega
theorem shown_list {b:Nat} {l:List D} (h:∀ d ∈ l,d.shown.length <= b):(PyData.list l).shown.length <= l.length * (b + 2) + 3:=by
 have gen:∀ (ts:List Str) (k:Nat) (acc:Str),(∀ t ∈ ts,t.length <= b) -> (textFrom k acc ts).length <= acc.length + ts.length * (b + 2):=by
  intro ts
  induction ts with
  | nil=>intro k acc _; simp [textFrom]
  | cons t ts ih =>
   intro k acc ht
   have h1:=ht t List.mem_cons_self
   have h2:=ih (k + 1) (acc ++ Str.ofString (if k > 0 then ", " else "") ++ t) fun x hx=>ht x (List.mem_cons_of_mem _ hx)
   rw [Str.length_append,Str.length_append,len_ofString] at h2
   have e3:(if k > 0 then ", " else "":String).length <= 2:=by split <;> decide
   show (textFrom (k + 1) (acc ++ Str.ofString (if k > 0 then ", " else "") ++ t) ts).length <= _
   rw [List.length_cons,Nat.succ_mul]
   omega
 show (listText (PyData.shownAll l)).length <= _
 rw [shownAll_map]
 have hg:=gen (l.map PyData.shown) 0 (Str.ofString "[") fun t ht=>by
  obtain ⟨d,hd,rfl⟩:=List.mem_map.mp ht
  exact h d hd
 unfold listText
 rw [Str.length_append,len_ofString]
 rw [len_ofString,List.length_map] at hg
 have e1:("[":String).length = 1:=by decide
 have e2:("]":String).length = 1:=by decide
 omega
theorem showableAll_of:∀ {l:List D},(∀ d ∈ l,d.showable = true) -> PyData.showableAll l = true
 | [],_=>rfl
 | x :: l,h=>by
  simp [PyData.showableAll,h x List.mem_cons_self]
  exact showableAll_of fun d hd=>h d (List.mem_cons_of_mem _ hd)
theorem showable_int {i:Int} {k:Nat} (h:i.natAbs < 2 ^ k) (hk:k <= 1920):(PyData.int i).showable = true:=by
 show decide (i.natAbs.log2 < 1920) = true
 refine decide_eq_true ?_
 by_cases h0:i.natAbs = 0
 ·rw [h0]; decide
 ·exact Nat.lt_of_lt_of_le ((Nat.log2_lt h0).mpr h) hk
end L3
namespace L2
open PySem PySem.Spec PyProof.Rows
noncomputable def evT (H:Hp) (p:List Int) (y:Value):Bool:=@decide (∃ c,y = .ref c /\ H c = some (.tup (p.map V.int))) (Classical.propDecidable _)
end L2
namespace L3
open PySem PySem.Spec PyProof.Rows L2
theorem DaAll.ints_of {K:Fg} {F:Hp} {ys:List V} {p:List Int} (h:DaAll K F ys (p.map PyData.int)):ys = p.map V.int:=by
 have e:p.map PyData.int = (p.map fun n=>(.inl n:Key)).map keyD:=by rw [List.map_map]; rfl
 rw [e] at h
 have:=h.keys
 rw [this,List.map_map]; rfl
end L3
namespace L3
open PySem PySem.Spec PyProof.Rows L2
noncomputable def fSlHiL:D -> D -> (Sl -> Prop) -> Prop
 | .list ds,.int j,Q=>Q (.ow (.list (ds.take (if j < 0 then (j + ds.length).toNat else j.toNat))))
 | _,_,_=>False
noncomputable def fStr:D -> (Sl -> Prop) -> Prop
 | .int i,Q=>i.natAbs.log2 < 1920 /\ Q (.fz (.str (toString i)))
 | _,_=>False
theorem ok_strI {K:Fg}:OpOk K (fun xs H Q=>∃ i,xs = [V.int i] /\ i.natAbs.log2 < 1920 /\ Q (V.str (toString i)) H) (o1 fStr):=ok1 fun G F σ H ρ x d Q Qd R h1 w k=>by
 match d,h1,w with
 | .int i,h1,w=>cases h1.int; exact ⟨i,rfl,w.1,k _ H F (.fz _) (Sub.refl _) R (Da.str _) w.2⟩
section
variable {X:Cx} {K:Fg} {e1 e2:Expr} {a b:AD} {pos p2:Pos}
end
end L3
namespace L2
open PySem PySem.Spec PyProof.Rows
noncomputable def rSortI (K:PySem.W.Frag):List V -> Hp -> VK -> Prop:=fun xs H Q=>∃ (a:Addr) (ns:List Int),xs = [.ref a] /\ SqL K H a (ns.map V.int) /\ ns.length < 64 /\
 ∀ (p:Addr) (ns':List Int),H p = none -> ns'.Perm ns -> ns'.Pairwise (· <= ·) -> Q (.ref p) (upd H p (.lst (ns'.map V.int)))
theorem vals_of_ints:∀ {vs:List Value} {ns:List Int},IntsAre vs ns -> Vals (ns.map V.int) vs
 | _,_,.nil=>.nil
 | _,_,.cons n t r=>.cons ⟨t,rfl⟩ (vals_of_ints r)
theorem call_sortI {X:Cx}:CallR X (.builtin "sorted") (rSortI X.K):=by
 intro pins s σ H xs us Q I r h
 obtain ⟨a,ns,rfl,hs,h64,q⟩:=h
 obtain ⟨u,rfl,ru⟩:=vals1 r
 cases ru
 obtain ⟨its,rv,⟨o,n,e,c,d1,d2⟩,hz⟩:=I.list hs
 have hl:=rv.length
 rw [List.length_map] at hl
 refine sorted_ints (vs:=its) (ns:=ns) ⟨o,e,c,n,by first | exact d2 | exact d1⟩ (intsAre_of rv) (by omega) fun out ns' hI hp hw=>?_
 obtain ⟨ep,he⟩:=sortedAll_at s.heap its out
 have hn:H (s.heap.objs.size + 1) = none:=I.hok.fresh (Nat.le_succ _)
 have hl2:ns'.length = ns.length:=hp.length_eq
 refine ⟨.ref (s.heap.objs.size + 1),upd H (s.heap.objs.size + 1) (.lst (ns'.map V.int)),I.laid (t':=s.toks) (fun b u e=>sortedAll_old e) (Nat.le_succ _) ?_,rfl,q _ ns' hn hp hw⟩
 exact ⟨by rw [List.length_map,sizeLine_eq]; omega,out.toList,ep,vals_of_ints hI,by rw [he]⟩
end L2
namespace L3
open PySem PySem.Spec PyProof.Rows L2
noncomputable def fSortI:D -> (Sl -> Prop) -> Prop
 | .list ds,Q=>∃ ns:List Int,ds = ns.map PyData.int /\ ns.length < 64 /\ ∀ ns':List Int,ns'.Perm ns -> ns'.Pairwise (· <= ·) -> Q (.ow (.list (ns'.map PyData.int)))
 | _,_=>False
theorem ok_sortI {K:Fg}:OpOk K (rSortI K) (o1 fSortI):=ok1 fun G F σ H ρ x d Q Qd R h1 w k=>by
 match d,h1,w with
 | .list ds,h1,⟨ns,e,h64,w⟩ =>
  subst e
  obtain ⟨a,us,rfl,e1,d1⟩:=h1.list R.sub
  have:=d1.ints_of
  subst this
  refine ⟨a,ns,rfl,SqL.of e1,h64,fun p ns' hp h2 h3=>?_⟩
  obtain ⟨R',r'⟩:=R.newOw (o:=.lst (ns'.map V.int)) (d:=.list (ns'.map PyData.int)) hp (DaAll.ints ns')
  exact k _ _ F _ (Sub.refl _) R' r' (w ns' h2 h3)
theorem call_sortIK {X:Cx} {K:Fg} (h:X.K = K):CallR X (.builtin "sorted") (rSortI K):=by subst h; exact call_sortI
end L3
namespace L2
open PySem PySem.Spec PyProof.Rows
section
variable {prog:Program} {w:World} {A:Around} {E:Value -> Shared -> Prop} {s:Shared}
theorem min_tupD {l:Addr} {xs:Array (Int × Tok)} {Q:Value -> Shared -> Prop} (hh:A.handled = none) (ht:s.heap.IsTuple l (intItems xs)) (hne:0 < xs.size)
  (h:∀ v h' tk,(intItems xs)[argBest (fun i j=>decide (numAt xs i < numAt xs j)) (xs.size - 1)]? = some v -> (∀ b o,s.heap.get? b = some o -> h'.get? b = some o) -> Q v { s with heap:=h',toks:=tk }) :
  wpAny (model prog w) A (call (.builtin "min") [.ref l]) Q E s:=by
 obtain ⟨o,ho,hc,n,hd⟩:=id ht
 have hn:l ≠ s.heap.objs.size:=Nat.ne_of_lt (Heap.lt_size ho)
 refine call_min_walk (wpAny_pyIter_tuple ht ?_)
 refine ⟨s.heap.objs.size,_,_,_,_,_,_,rfl,Walks.tuple (A:=A.in1) hh _ l hn (intItems xs),⟨⟨_,Heap.get?_push_size _ rfl,rfl,rfl⟩,ht.push _⟩,fun b hb=>?_,by simpa [intItems] using hne,CmpOf.ints_lt (numAt xs) (fun _ _=>intItems_at),fun v h' tk hP hk=>?_⟩
 ·rcases List.mem_cons.mp hb with rfl | hb
  ·exact Heap.lt_size (Heap.get?_push_size _ rfl)
  ·obtain rfl:=List.mem_singleton.mp hb
   exact Heap.lt_size (Heap.get?_push_of_some _ ho)
 ·exact h v h' tk (by simpa [intItems] using hP) fun b o e=>hk b o (fun hb=>absurd (Heap.lt_size e) ((List.mem_singleton.mp hb) ▸ Nat.lt_irrefl _)) (Heap.get?_push_of_some _ e)
theorem max_tupD {l:Addr} {xs:Array (Int × Tok)} {Q:Value -> Shared -> Prop} (hh:A.handled = none) (ht:s.heap.IsTuple l (intItems xs)) (hne:0 < xs.size)
  (h:∀ v h' tk,(intItems xs)[argBest (fun i j=>decide (numAt xs i > numAt xs j)) (xs.size - 1)]? = some v -> (∀ b o,s.heap.get? b = some o -> h'.get? b = some o) -> Q v { s with heap:=h',toks:=tk }) :
  wpAny (model prog w) A (call (.builtin "max") [.ref l]) Q E s:=by
 obtain ⟨o,ho,hc,n,hd⟩:=id ht
 have hn:l ≠ s.heap.objs.size:=Nat.ne_of_lt (Heap.lt_size ho)
 refine call_max_walk (wpAny_pyIter_tuple ht ?_)
 refine ⟨s.heap.objs.size,_,_,_,_,_,_,rfl,Walks.tuple (A:=A.in1) hh _ l hn (intItems xs),⟨⟨_,Heap.get?_push_size _ rfl,rfl,rfl⟩,ht.push _⟩,fun b hb=>?_,by simpa [intItems] using hne,CmpOf.ints_gt (numAt xs) (fun _ _=>intItems_at),fun v h' tk hP hk=>?_⟩
 ·rcases List.mem_cons.mp hb with rfl | hb
  ·exact Heap.lt_size (Heap.get?_push_size _ rfl)
  ·obtain rfl:=List.mem_singleton.mp hb
   exact Heap.lt_size (Heap.get?_push_of_some _ ho)
 ·exact h v h' tk (by simpa [intItems] using hP) fun b o e=>hk b o (fun hb=>absurd (Heap.lt_size e) ((List.mem_singleton.mp hb) ▸ Nat.lt_irrefl _)) (Heap.get?_push_of_some _ e)
end
noncomputable def rMnI (K:PySem.W.Frag):List V -> Hp -> VK -> Prop:=fun xs H Q=>∃ (a:Addr) (ns:List Int),xs = [.ref a] /\ (SqL K H a (ns.map V.int) \/ SqT K H a (ns.map V.int)) /\ 0 < ns.length /\ ∀ M,M ∈ ns -> (∀ y ∈ ns,M <= y) -> Q (.int M) H
noncomputable def rMxI (K:PySem.W.Frag):List V -> Hp -> VK -> Prop:=fun xs H Q=>∃ (a:Addr) (ns:List Int),xs = [.ref a] /\ (SqL K H a (ns.map V.int) \/ SqT K H a (ns.map V.int)) /\ 0 < ns.length /\ ∀ M,M ∈ ns -> (∀ y ∈ ns,y <= M) -> Q (.int M) H
theorem call_mnI {X:Cx} {K:PySem.W.Frag} (hK:X.K = K) (hc:X.calm = true):CallR X (.builtin "min") (rMnI K):=by
 subst hK
 intro pins s σ H xs us Q I r h
 obtain ⟨a,ns,rfl,hq,hp,q⟩:=h
 obtain ⟨u,rfl,ru⟩:=vals1 r
 cases ru
 have hh:=I.ok.hd hc
 have fin:∀ {its:List Value} {zs:Array (Int × Tok)},Vals (ns.map V.int) its -> its.toArray = intItems zs -> 0 < zs.size /\ ∀ (v:Value) (h':Heap) (tk:Nat),(intItems zs)[argBest (fun i j=>decide (numAt zs i < numAt zs j)) (zs.size - 1)]? = some v -> (∀ b o,s.heap.get? b = some o -> h'.get? b = some o) -> EP X pins σ Q v { s with heap:=h',toks:=tk }:=by
  intro its zs rv e
  have hi:IntsAre its ns:=intsAre_of rv
  have hns:ns = zs.toList.map (·.1):=by rw [<- nums_intItems,<- e]; exact (show numsOf its.toArray.toList = ns from hi.numsOf).symm
  have hsz:0 < zs.size:=by have h3:=hp; rw [hns,List.length_map,Array.length_toList] at h3; exact h3
  refine ⟨hsz,fun v h' tk hv hk=>?_⟩
  obtain ⟨t,rfl⟩:=intItems_at hv
  obtain ⟨h1,h2⟩:=argBest_lt (numAt zs) (zs.size - 1)
  refine ⟨.int _,H,I.kept hk,⟨t,rfl⟩,q _ ?_ fun y hy=>?_⟩
  ·rw [hns,numAt_eq]; exact getD_mem (by rw [List.length_map,Array.length_toList]; omega)
  ·rw [hns] at hy
   obtain ⟨j,hj,rfl⟩:=mem_getD hy
   rw [List.length_map,Array.length_toList] at hj
   rw [<- numAt_eq]; exact h2 j (by omega)
 rcases hq with hq | hq
 ·obtain ⟨its,rv,p,hz⟩:=I.list hq
  obtain ⟨zs,hx⟩:=(intsAre_of rv).allInts.items
  obtain ⟨hs,f⟩:=fin rv hx
  exact min_intList hh (hx ▸ p.isList) hs f
 ·obtain ⟨its,rv,p,hz⟩:=I.tuple hq
  obtain ⟨zs,hx⟩:=(intsAre_of rv).allInts.items
  obtain ⟨hs,f⟩:=fin rv hx
  exact min_tupD hh (show s.heap.IsTuple a (intItems zs) from hx ▸ p) hs f
theorem call_mxI {X:Cx} {K:PySem.W.Frag} (hK:X.K = K) (hc:X.calm = true):CallR X (.builtin "max") (rMxI K):=by
 subst hK
 intro pins s σ H xs us Q I r h
 obtain ⟨a,ns,rfl,hq,hp,q⟩:=h
 obtain ⟨u,rfl,ru⟩:=vals1 r
 cases ru
 have hh:=I.ok.hd hc
 have fin:∀ {its:List Value} {zs:Array (Int × Tok)},Vals (ns.map V.int) its -> its.toArray = intItems zs -> 0 < zs.size /\ ∀ (v:Value) (h':Heap) (tk:Nat),(intItems zs)[argBest (fun i j=>decide (numAt zs i > numAt zs j)) (zs.size - 1)]? = some v -> (∀ b o,s.heap.get? b = some o -> h'.get? b = some o) -> EP X pins σ Q v { s with heap:=h',toks:=tk }:=by
  intro its zs rv e
  have hi:IntsAre its ns:=intsAre_of rv
  have hns:ns = zs.toList.map (·.1):=by rw [<- nums_intItems,<- e]; exact (show numsOf its.toArray.toList = ns from hi.numsOf).symm
  have hsz:0 < zs.size:=by have h3:=hp; rw [hns,List.length_map,Array.length_toList] at h3; exact h3
  refine ⟨hsz,fun v h' tk hv hk=>?_⟩
  obtain ⟨t,rfl⟩:=intItems_at hv
  obtain ⟨h1,h2⟩:=argBest_gt (numAt zs) (zs.size - 1)
  refine ⟨.int _,H,I.kept hk,⟨t,rfl⟩,q _ ?_ fun y hy=>?_⟩
  ·rw [hns,numAt_eq]; exact getD_mem (by rw [List.length_map,Array.length_toList]; omega)
  ·rw [hns] at hy
   obtain ⟨j,hj,rfl⟩:=mem_getD hy
   rw [List.length_map,Array.length_toList] at hj
   rw [<- numAt_eq]; exact h2 j (by omega)
 rcases hq with hq | hq
 ·obtain ⟨its,rv,p,hz⟩:=I.list hq
  obtain ⟨zs,hx⟩:=(intsAre_of rv).allInts.items
  obtain ⟨hs,f⟩:=fin rv hx
  exact max_intList hh (hx ▸ p.isList) hs f
 ·obtain ⟨its,rv,p,hz⟩:=I.tuple hq
  obtain ⟨zs,hx⟩:=(intsAre_of rv).allInts.items
  obtain ⟨hs,f⟩:=fin rv hx
  exact max_tupD hh (show s.heap.IsTuple a (intItems zs) from hx ▸ p) hs f
end L2
namespace L3
open PySem PySem.Spec PyProof.Rows L2
section
variable {K:Fg} {σ:L2.St} {H:Hp} {v:V} {Q:L2.St -> Hp -> Prop}
end
noncomputable def fMnI:D -> (Sl -> Prop) -> Prop
 | .list ds,Q=>∃ ns:List Int,ds = ns.map PyData.int /\ 0 < ns.length /\ ∀ M,M ∈ ns -> (∀ y ∈ ns,M <= y) -> Q (.fz (.int M))
 | .tuple ds,Q=>∃ ns:List Int,ds = ns.map PyData.int /\ 0 < ns.length /\ ∀ M,M ∈ ns -> (∀ y ∈ ns,M <= y) -> Q (.fz (.int M))
 | _,_=>False
noncomputable def fMxI:D -> (Sl -> Prop) -> Prop
 | .list ds,Q=>∃ ns:List Int,ds = ns.map PyData.int /\ 0 < ns.length /\ ∀ M,M ∈ ns -> (∀ y ∈ ns,y <= M) -> Q (.fz (.int M))
 | .tuple ds,Q=>∃ ns:List Int,ds = ns.map PyData.int /\ 0 < ns.length /\ ∀ M,M ∈ ns -> (∀ y ∈ ns,y <= M) -> Q (.fz (.int M))
 | _,_=>False
theorem ok_mnI {K:Fg}:OpOk K (rMnI K) (o1 fMnI):=ok1 fun G F σ H ρ x d Q Qd R h1 w k=>by
 match d,h1,w with
 | .list ds,h1,⟨ns,e,hp,w⟩ =>
  subst e
  obtain ⟨a,us,rfl,e1,d1⟩:=h1.list R.sub
  have:=d1.intsV
  subst this
  exact ⟨a,ns,rfl,.inl (SqL.of e1),hp,fun M m1 m2=>k _ H F (.fz _) (Sub.refl _) R (Da.int _) (w M m1 m2)⟩
 | .tuple ds,h1,⟨ns,e,hp,w⟩ =>
  subst e
  obtain ⟨a,us,rfl,_,e1,d1⟩:=h1.tuple R.sub
  have:=d1.intsV
  subst this
  exact ⟨a,ns,rfl,.inr (SqT.of e1),hp,fun M m1 m2=>k _ H F (.fz _) (Sub.refl _) R (Da.int _) (w M m1 m2)⟩
theorem ok_mxI {K:Fg}:OpOk K (rMxI K) (o1 fMxI):=ok1 fun G F σ H ρ x d Q Qd R h1 w k=>by
 match d,h1,w with
 | .list ds,h1,⟨ns,e,hp,w⟩ =>
  subst e
  obtain ⟨a,us,rfl,e1,d1⟩:=h1.list R.sub
  have:=d1.intsV
  subst this
  exact ⟨a,ns,rfl,.inl (SqL.of e1),hp,fun M m1 m2=>k _ H F (.fz _) (Sub.refl _) R (Da.int _) (w M m1 m2)⟩
 | .tuple ds,h1,⟨ns,e,hp,w⟩ =>
  subst e
  obtain ⟨a,us,rfl,_,e1,d1⟩:=h1.tuple R.sub
  have:=d1.intsV
  subst this
  exact ⟨a,ns,rfl,.inr (SqT.of e1),hp,fun M m1 m2=>k _ H F (.fz _) (Sub.refl _) R (Da.int _) (w M m1 m2)⟩
end L3
namespace SG
structure Wk {α:Type} (lt:α -> α -> Bool):Prop where
 irr:∀ a,lt a a = false
 tr:∀ a b c,lt a b = true -> lt b c = true -> lt a c = true
 nt:∀ a b c,lt a b = false -> lt b c = false -> lt a c = false
theorem lex_wk:Wk HT.lexLt:=by
 refine ⟨fun a=>?_,fun a=>?_,fun a=>?_⟩
 ·induction a with
  | nil=>rfl
  | cons x a ih=>rw [HT.lexLt_cons,if_pos rfl]; exact ih
 ·induction a with
  | nil =>
   intro b c h1 h2
   cases c with
   | nil=>cases b <;> cases h2
   | cons z c=>rfl
  | cons x a ih =>
   intro b c h1 h2
   cases b with
   | nil=>cases h1
   | cons y b =>
    cases c with
    | nil=>cases h2
    | cons z c =>
     rw [HT.lexLt_cons] at h1 h2 ⊢
     by_cases e1:x = y
     ·subst e1
      rw [if_pos rfl] at h1
      by_cases e2:x = z
      ·subst e2
       rw [if_pos rfl] at h2 ⊢
       exact ih b c h1 h2
      ·rw [if_neg e2] at h2 ⊢; exact h2
     ·rw [if_neg e1] at h1
      have h1:=of_decide_eq_true h1
      by_cases e2:y = z
      ·subst e2
       rw [if_neg e1]
       exact decide_eq_true h1
      ·rw [if_neg e2] at h2
       have h2:=of_decide_eq_true h2
       rw [if_neg (by omega)]
       exact decide_eq_true (by omega)
 ·induction a with
  | nil =>
   intro b c h1 h2
   cases b with
   | nil=>exact h2
   | cons y b=>cases h1
  | cons x a ih =>
   intro b c h1 h2
   cases c with
   | nil=>rfl
   | cons z c =>
    cases b with
    | nil=>cases h2
    | cons y b =>
     rw [HT.lexLt_cons] at h1 h2 ⊢
     by_cases e1:x = y
     ·subst e1
      rw [if_pos rfl] at h1
      by_cases e2:x = z
      ·subst e2
       rw [if_pos rfl] at h2 ⊢
       exact ih b c h1 h2
      ·rw [if_neg e2] at h2 ⊢; exact h2
     ·rw [if_neg e1] at h1
      have h1:=of_decide_eq_false h1
      by_cases e2:y = z
      ·subst e2
       rw [if_neg e1]
       exact decide_eq_false h1
      ·rw [if_neg e2] at h2
       have h2:=of_decide_eq_false h2
       rw [if_neg (by omega)]
       exact decide_eq_false (by omega)
theorem lex_eq:∀ {a b:List Int},HT.lexLt a b = false -> HT.lexLt b a = false -> a = b
 | [],[],_,_=>rfl
 | [],_ :: _,h,_=>by cases h
 | _ :: _,[],_,h=>by cases h
 | x :: a,y :: b,h1,h2=>by
  rw [HT.lexLt_cons] at h1 h2
  by_cases e:x = y
  ·subst e
   rw [if_pos rfl] at h1 h2
   rw [lex_eq h1 h2]
  ·rw [if_neg e] at h1
   rw [if_neg (fun z=>e z.symm)] at h2
   have h1:=of_decide_eq_false h1
   have h2:=of_decide_eq_false h2
   omega
theorem sorted_uniq {α:Type} {lt:α -> α -> Bool} (an:∀ a b,lt a b = false -> lt b a = false -> a = b):∀ {l m:List α},l.Perm m -> l.Pairwise (fun a b=>lt b a = false) -> m.Pairwise (fun a b=>lt b a = false) -> l = m
 | [],m,p,_,_=>by rw [List.nil_perm.mp p]
 | x :: l,[],p,_,_=>by simp at p
 | x :: l,y :: m,p,h1,h2=>by
  have e:x = y:=by
   have hx:x ∈ y :: m:=p.mem_iff.mp List.mem_cons_self
   have hy:y ∈ x :: l:=p.mem_iff.mpr List.mem_cons_self
   rcases List.mem_cons.mp hx with e | hx
   ·exact e
   ·rcases List.mem_cons.mp hy with e | hy
    ·exact e.symm
    ·exact an x y ((List.pairwise_cons.mp h2).1 x hx) ((List.pairwise_cons.mp h1).1 y hy)
  subst e
  rw [sorted_uniq an (List.perm_cons x |>.mp p) (List.pairwise_cons.mp h1).2 (List.pairwise_cons.mp h2).2]
end SG
namespace L2
open PySem PySem.Spec PyProof.Rows PySem.W
section
variable {X:Cx} {α:Type} [Inhabited α]
end
end L2
namespace L2
open PySem PySem.Spec PyProof.Rows
noncomputable def rIsiLA (K:PySem.W.Frag):List V -> Hp -> VK -> Prop:=fun xs H Q=>∃ (x:V) (p:Addr),xs = [x,.ref p] /\ (∃ u,H p = some (.frz tyLT u)) /\
 ((∃ a ys,x = .ref a /\ SqL K H a ys /\ Q (.bl true) H) \/ (∃ a ys,x = .ref a /\ SqT K H a ys /\ Q (.bl true) H) \/ (((∃ i,x = .int i) \/ (∃ b,x = .bl b) \/ ∃ t,x = .str t) /\ Q (.bl false) H))
theorem call_isiLA {X:Cx}:CallR X (.builtin "isinstance") (rIsiLA X.K):=by
 intro pins s σ H xs us Q I r h
 obtain ⟨x,p,rfl,⟨u,hp⟩,h⟩:=h
 obtain ⟨u1,u2,rfl,r1,r2⟩:=vals2 r
 cases r2
 have hpt:s.heap.get? p = some tyLT:=(show ObjOk X.prog X.w H s.heap p (.frz tyLT u) from I.hok p _ hp).1
 rcases h with ⟨a,ys,rfl,hs,q⟩ | ⟨a,ys,rfl,hs,q⟩ | ⟨h,q⟩
 ·cases r1
  obtain ⟨its,rv,⟨o,n,e,c,d1,d2⟩,hz⟩:=I.list hs
  have ht:s.TypeIs (.ref a) "list":=⟨o,e,c⟩
  exact call_isinstance (isinstance_tuple (Tx:="list") (tp:=p) (cs:=[.type "list",.type "tuple"]) (vs:=[true,false])
    ⟨Answers.of_true (ki_meta .lst) (ki_sub .lst .lst),Answers.of_false_list (ki_ne .lst .tup (by decide)) (ki_meta .tup) (ki_sub .lst .tup),trivial⟩) ⟨ht,hpt,fun tk=>⟨.bl true,H,I.tok _,rfl,q⟩⟩
 ·cases r1
  obtain ⟨its,_,⟨o,e,c,_⟩,_⟩:=I.tuple hs
  have ht:s.TypeIs (.ref a) "tuple":=⟨o,e,c⟩
  exact call_isinstance (isinstance_tuple (Tx:="tuple") (tp:=p) (cs:=[.type "list",.type "tuple"]) (vs:=[false,true])
    ⟨Answers.of_false_tuple (ki_ne .tup .lst (by decide)) (ki_meta .lst) (ki_sub .tup .lst),Answers.of_true (ki_meta .tup) (ki_sub .tup .tup),trivial⟩) ⟨ht,hpt,fun tk=>⟨.bl true,H,I.tok _,rfl,q⟩⟩
 ·rcases h with ⟨i,rfl⟩ | ⟨b,rfl⟩ | ⟨t,rfl⟩
  ·obtain ⟨t,rfl⟩:=r1
   exact call_isinstance (isinstance_tuple (Tx:="int") (tp:=p) (cs:=[.type "list",.type "tuple"]) (vs:=[false,false])
     ⟨Answers.of_false_int (ki_ne .int .lst (by decide)) (ki_meta .lst) (ki_sub .int .lst),Answers.of_false_int (ki_ne .int .tup (by decide)) (ki_meta .tup) (ki_sub .int .tup),trivial⟩) ⟨typeIs_int _ _ _,hpt,fun tk=>⟨.bl false,H,I.tok _,rfl,q⟩⟩
  ·cases r1
   exact call_isinstance (isinstance_tuple (Tx:="bool") (tp:=p) (cs:=[.type "list",.type "tuple"]) (vs:=[false,false])
     ⟨Answers.of_false_bool (ki_ne .bl .lst (by decide)) (ki_meta .lst) (ki_sub .bl .lst),Answers.of_false_bool (ki_ne .bl .tup (by decide)) (ki_meta .tup) (ki_sub .bl .tup),trivial⟩) ⟨PySem.typeIs_bool _ _,hpt,fun tk=>⟨.bl false,H,I.tok _,rfl,q⟩⟩
  ·obtain ⟨t',rfl⟩:=r1
   exact call_isinstance (isinstance_tuple (Tx:="str") (tp:=p) (cs:=[.type "list",.type "tuple"]) (vs:=[false,false])
     ⟨Answers.of_false_str (ki_ne .str .lst (by decide)) (ki_meta .lst) (ki_sub .str .lst),Answers.of_false_str (ki_ne .str .tup (by decide)) (ki_meta .tup) (ki_sub .str .tup),trivial⟩) ⟨PySem.typeIs_str _ _ _,hpt,fun tk=>⟨.bl false,H,I.tok _,rfl,q⟩⟩
end L2
namespace L3
open PySem PySem.Spec PyProof.Rows L2
noncomputable def fIsiLA:D -> (Sl -> Prop) -> Prop
 | .list _,Q=>Q (.fz (.bool true))
 | .tuple _,Q=>Q (.fz (.bool true))
 | .int _,Q=>Q (.fz (.bool false))
 | .bool _,Q=>Q (.fz (.bool false))
 | .str _,Q=>Q (.fz (.bool false))
 | _,_=>False
theorem ok_isiLA {K:Fg}:OpOk K (fun vs H Q=>∃ x,vs = [x] /\ ∀ p,H p = none -> rIsiLA K [x,.ref p] (upd H p (.frz tyLT (.tup [.ty "list",.ty "tuple"]))) Q) (o1 fIsiLA):=ok1 fun G F σ H ρ x d Q Qd R h1 w k=>by
 have fin:∀ (b:Bool) (p:Addr),H p = none -> Qd (.fz (.bool b)) -> Q (.bl b) (upd H p (.frz tyLT (.tup [.ty "list",.ty "tuple"]))):=fun b p hp w=>k _ _ F (.fz _) (Sub.refl _) (R.laid hp) (Da.bl _) w
 cases d <;> first | exact w.elim | skip
 case bool b =>
  cases h1.bool
  exact ⟨_,rfl,fun p hp=>⟨_,p,rfl,⟨_,upd_same⟩,.inr (.inr ⟨.inr (.inl ⟨_,rfl⟩),fin _ p hp w⟩)⟩⟩
 case int b =>
  cases h1.int
  exact ⟨_,rfl,fun p hp=>⟨_,p,rfl,⟨_,upd_same⟩,.inr (.inr ⟨.inl ⟨_,rfl⟩,fin _ p hp w⟩)⟩⟩
 case str b =>
  cases h1.str
  exact ⟨_,rfl,fun p hp=>⟨_,p,rfl,⟨_,upd_same⟩,.inr (.inr ⟨.inr (.inr ⟨_,rfl⟩),fin _ p hp w⟩)⟩⟩
 case list ds =>
  obtain ⟨a,us,rfl,e1,d1⟩:=h1.list R.sub
  exact ⟨_,rfl,fun p hp=>⟨_,p,rfl,⟨_,upd_same⟩,.inl ⟨a,us,rfl,SqL.of (by rw [upd_ne (ne_of_none e1 hp)]; exact e1),fin _ p hp w⟩⟩⟩
 case tuple ds =>
  obtain ⟨a,us,rfl,_,e1,d1⟩:=h1.tuple R.sub
  exact ⟨_,rfl,fun p hp=>⟨_,p,rfl,⟨_,upd_same⟩,.inr (.inl ⟨a,us,rfl,SqT.of (by rw [upd_ne (ne_of_none e1 hp)]; exact e1),fin _ p hp w⟩)⟩⟩
section
variable {X:Cx} {K:Fg} {e1:Expr} {a:AD} {p pos p2 p3 p4:Pos}
theorem w_isiLA {k:Nat} (hK:X.K = K) (hm:X.mg "isinstance" = none) (hm1:X.mg "list" = none) (hm2:X.mg "tuple" = none) (ha:WE X e1 (argT K a)) (hg:Gl X "isinstance":=by rfl) (hg1:Gl X "list":=by rfl) (hg2:Gl X "tuple":=by rfl) (he:notStar e1 = true:=by rfl) :
  WE X (.Call (.Name "isinstance" p) [e1,.Tuple [.Name "list" p2,.Name "tuple" p3] k p4] [] pos) (lift K (dOp [a] (o1 fIsiLA))):=by
 subst hK
 exact ⟨peM (pe_callB call_isiLA hg hm boot_isinstance (pa_cons ha.h (pa_cons (pe_tyT hm1 hm2 hg1 hg2) pa_nil (starEach_of rfl)) (starEach_of he)) (by decide) (by decide) (starEach_of he) (plain_of rfl)) fun q=>arg1 (P:=fun x H1=>∀ p,H1 p = none -> rIsiLA X.K [x,.ref p] (upd H1 p (.frz tyLT (.tup [.ty "list",.ty "tuple"]))) _) (l_op ok_isiLA q)⟩
end
end L3
namespace L3
open PySem PySem.Spec PyProof.Rows L2
noncomputable def fInI (neg:Bool):D -> D -> (Sl -> Prop) -> Prop
 | .int i,y,Q=>∃ ns:List Int,seqD y = some (ns.map PyData.int) /\ Q (.fz (.bool (if neg then !decide (i ∈ ns) else decide (i ∈ ns))))
 | _,_,_=>False
theorem inV_ints (i:Int):∀ ns:List Int,inV (.int i) (ns.map V.int) = decide (i ∈ ns)
 | []=>by simp [inV]
 | n :: ns=>by
  have:=inV_ints i ns
  simp only [inV,List.map_cons,List.any_cons] at this ⊢
  rw [this,Bool.eq_iff_iff]
  simp [eqV]
  constructor
  ·rintro (rfl | h)
   ·exact .inl rfl
   ·exact .inr h
  ·rintro (rfl | h)
   ·exact .inl rfl
   ·exact .inr h
theorem flat_ints (ns:List Int):(ns.map V.int).all flatV = true:=by
 rw [List.all_eq_true]
 intro x hx
 obtain ⟨n,_,rfl⟩:=List.mem_map.mp hx
 rfl
theorem ok_inI {K:Fg} (neg:Bool):OpOk K (r2L (rIn K neg)) (o2 (fInI neg)):=ok2 fun G F σ H ρ x y d e Q Qd R h1 h2 w k=>by
 cases d <;> first | exact w.elim | skip
 rename_i i
 obtain ⟨ns,p1,w⟩:=w
 cases h1.int
 have fin:∀ b,b = decide (i ∈ ns) -> Q (.bl (if neg then !b else b)) H:=fun b hb=>by
  subst hb
  exact k _ H F (.fz _) (Sub.refl _) R (Da.bl _) w
 cases e <;> first | cases p1 | skip
 ·obtain ⟨a,us,rfl,e1,d1⟩:=h2.list R.sub
  have:=d1.intsV
  subst this
  exact ⟨a,_,rfl,.inl (SqL.of e1),rfl,flat_ints ns,fin _ (inV_ints i ns)⟩
 ·obtain ⟨a,us,rfl,_,e1,d1⟩:=h2.tuple R.sub
  have:=d1.intsV
  subst this
  exact ⟨a,_,rfl,.inr (SqT.of e1),rfl,flat_ints ns,fin _ (inV_ints i ns)⟩
section
variable {X:Cx} {K:Fg} {e1 e2:Expr} {a b:AD} {pos:Pos}
theorem op_inK (hK:X.K = K):OpR X (compareOp .In) (rIn K false):=by subst hK; exact op_in_seq
theorem t_inI (hK:X.K = K) (ha:WE X e1 (argT K a)) (hb:WE X e2 (argT K b)) (hm:behindInMarks .In e2 = false:=by rfl):WT X (.Compare e1 [.In] [e2] pos) (liftT K (dTst (dOp [a,b] (o2 (fInI false))))):=⟨ct2 (ok_inI false) (pt_cmpR (op_inK hK) ha.h hb.h hm)⟩
end
end L3
namespace L2
open PySem PySem.Spec PyProof.Rows
section
variable {P:Program} {w:World} {H:Hp} {h:Heap} {a:Addr} {o:HO}
theorem ObjOk.ob (x:ObjOk P w H h a o):∃ u,h.get? a = some u:=by
 cases o with
 | lst xs=>obtain ⟨_,_,_,_,e⟩:=x; exact ⟨_,e⟩
 | tup xs=>obtain ⟨_,_,_,_,e,_⟩:=x; exact ⟨_,e⟩
 | dK kvs=>obtain ⟨_,_,_,_,o,_,_,e,_⟩:=x; exact ⟨_,e⟩
 | dT kvs=>obtain ⟨_,_,_,_,o,_,_,e,_⟩:=x; exact ⟨_,e⟩
 | set S n=>obtain ⟨o,_,_,_,e,_⟩:=x; exact ⟨_,e⟩
 | ins C dx fs=>obtain ⟨_,_,_,e,_⟩:=x; exact ⟨_,e⟩
 | own y=>exact x
 | xd fs=>obtain ⟨_,⟨_,_,_,e,_⟩,_⟩:=x; exact ⟨_,e⟩
 | rng lo hi=>obtain ⟨_,_,_,e⟩:=x; exact ⟨_,e⟩
 | frz ob u=>obtain ⟨e,_⟩:=x; exact ⟨_,e⟩
 | tbl ps=>exact ⟨_,(show h.get? a = some _ from x)⟩
 | met f y=>exact ⟨_,(show h.get? a = some _ from x)⟩
 | ext φ=>exact x.2.1
theorem HOk.gone (x:HOk P w H h) (e:h.get? a = none):H a = none:=by
 cases q:H a with
 | none=>rfl
 | some u=>obtain ⟨ob,z⟩:=(x a u q).ob; rw [e] at z; cases z
end
section
variable {X:Cx} {pins:List (Addr × Obj)} {σ:St} {H:Hp} {s:Shared}
end
end L2
namespace L2
open PySem PySem.Spec PyProof.Rows
end L2
namespace L3
open PySem PySem.Spec PyProof.Rows L2
theorem cutS {t u:TDS} {E:DE} {ρ:Ev} (J:Ev -> Prop) (h1:∀ N:Ev -> Prop,(∀ ρ',J ρ' -> N ρ') -> t { nx:=N,rt:=E.rt,bk:=E.bk,ct:=E.ct } ρ) (h2:∀ ρ',J ρ' -> u E ρ'):dSeq t u E ρ:=h1 _ h2
theorem gnC {i:Nat} {d:D} {ρ:Ev} {Q:Ev -> Prop} (h:dGN i d ρ Q = Q (ρ.set i (some (.fz d)))) (w:Q (ρ.set i (some (.fz d)))):dGN i d ρ Q:=by rw [h]; exact w
end L3
namespace HT
open PySem PyProof.Rows
section
open PySem.SeqAt
open PySem.AutoSeq1 (wpAny_loadPart')
open PySem.MeetsSeq PySem.MeetsSeq2 PySem.MeetsSeq3
variable {prog:Program} {w:World} {A:Around} {E:Value -> Shared -> Prop} {s:Shared}
theorem whole_tup {t sl:Addr} {items:Array Value} {vl vu:Value} {lo hi:Option Int} {Q:Value -> Shared -> Prop} (hT:IsTup s.heap t items) (hS:s.heap.IsSliceOf sl vl vu .none) (p1:IsPart vl lo) (p2:IsPart vu hi)
  (z1:sIx items.size 0 lo = 0) (z2:sIx items.size items.size hi = items.size) (q:Q (.ref t) s):wpAny (model prog w) A (getItem (.ref t) (.ref sl)) Q E s:=by
 obtain ⟨os,g1,g2,g3⟩:=id hS
 have tS:s.TypeIs (.ref sl) "slice":=⟨os,g1,g2⟩
 unfold getItem
 try with_reducible refine wpAny_holding ?_
 first | refine wpAny_bind (wpAny_pure ?_) | skip
 refine wpAny_bind (wpAny_sequenceKey hT.typeIs (by decide) ?_)
 refine wpAny_bind (wpAny_callSpecial?_slot (name:=Str.ofString "__getitem__") hT.typeIs PyProof.Rows.slot_tuple_getitem (wpAny_call_entry PyProof.Rows.slot_tuple_getitem hT.typeIs entry_tuple_getitem ?_ (args_tuple_getitem _ _)))
 show wpAny _ _ (Builtin.Tuple.tupleItemsOf (.ref t) >>= _) _ _ s
 refine wpAny_bind (tupleItemsOf_ hT (wpAny_bind (wpAny_typeOf tS ?_)))
 rw [if_pos (by decide)]
 refine wpAny_bind (sliceApplied_gen hS p1 p2 ?_)
 have yes:((((sIx items.size 0 lo:Nat):Int) == 0 && (1:Int) == 1 && (sIx items.size items.size hi - sIx items.size 0 lo) == items.size) = true):=by
  rw [z1,z2]
  simp
 show wpAny _ _ (if (((sIx items.size 0 lo:Nat):Int) == 0 && (1:Int) == 1 && (sIx items.size items.size hi - sIx items.size 0 lo) == items.size) = true then _ else _) _ _ s
 rw [if_pos yes]
 refine wpAny_bind (m:=Builtin.Tuple.tupleIsExact _) (wpAny_bind (wpAny_typeOf hT.typeIs (wpAny_pure ?_)))
 rw [if_pos (by decide)]
 exact wpAny_bind (wpAny_rule (wpAny_pure ⟨_,rfl,wpAny_pure q⟩))
end
end HT
namespace L2
open PySem PySem.Spec PyProof.Rows
noncomputable def rSlA (K:PySem.W.Frag):V -> Option Int -> Option Int -> Hp -> VK -> Prop:=fun x lo hi H Q=>∃ a xs,x = .ref a /\ SqT K H a xs /\
 (cutV xs lo hi = xs -> Q (.ref a) H) /\ ∀ p,H p = none -> Q (.ref p) (upd H p (.tup (cutV xs lo hi)))
theorem sl_tupA {X:Cx}:SlR X (rSlA X.K):=by
 intro pins s σ H x v vl vu lo hi sl Q I rx hS p1 p2 h
 obtain ⟨a,xs,rfl,hx,q1,q2⟩:=h
 by_cases z:HT.sIx xs.length 0 lo = 0 /\ HT.sIx xs.length xs.length hi = xs.length
 ·cases rx
  obtain ⟨its,r,hT,hz⟩:=I.tuple hx
  have hl:its.toArray.size = xs.length:=by rw [List.size_toArray]; exact r.length.symm
  refine ⟨"tuple",_,PyProof.Rows.slot_tuple_getitem.lookup,hT.typeIs,HT.whole_tup hT hS p1 p2 (by rw [hl]; exact z.1) (by rw [hl]; exact z.2) ⟨.ref a,H,I,rfl,q1 ?_⟩⟩
  unfold cutV
  rw [z.1,z.2]
  simp
 ·exact sl_tup pins s σ H (.ref a) v vl vu lo hi sl Q I rx hS p1 p2 ⟨a,xs,rfl,hx,z,q2⟩
theorem cutV_hi (xs:List V) {j:Int} (hj:0 <= j):cutV xs none (some j) = xs.take j.toNat:=by
 unfold cutV
 have e2:HT.sIx xs.length xs.length (some j) = min j.toNat xs.length:=by
  show (if j < 0 then (j + (xs.length:Int)).toNat else min j.toNat xs.length) = _
  rw [if_neg (by omega)]
 rw [e2]
 show (xs.drop 0).take (min j.toNat xs.length - 0) = _
 rw [List.drop_zero,Nat.sub_zero]
 by_cases h2:j.toNat <= xs.length
 ·rw [Nat.min_eq_left h2]
 ·rw [Nat.min_eq_right (by omega),List.take_of_length_le (by omega),List.take_of_length_le (by omega)]
end L2
namespace L3
open PySem PySem.Spec PyProof.Rows L2
noncomputable def dSl3 (a b c:AD) (f:D -> Int -> Int -> (Sl -> Prop) -> Prop):TD:=fun ρ Q=>dArgs [a,b] ρ fun xs ρ1=>looksQ ρ1 xs fun ds=>match ds with
 | [_,.int i]=>dArgs [c] ρ1 fun zs ρ2=>looksQ ρ2 (xs.take 1 ++ zs) fun es=>match es with
  | [d,.int j]=>f d i j fun r=>Q r ρ2
  | _=>False
 | _=>False
noncomputable def rSl2 (r:V -> Option Int -> Option Int -> Hp -> VK -> Prop):R2:=fun x z H Q=>∃ j,z = .int j /\ r x none (some j) H Q
noncomputable def fSl3T:D -> Int -> Int -> (Sl -> Prop) -> Prop
 | .tuple ds,i,j,Q=>0 <= i /\ 0 <= j /\ Q (.fz (.tuple ((ds.take j.toNat).drop i.toNat)))
 | _,_,_,_=>False
noncomputable def fSl2T:D -> D -> (Sl -> Prop) -> Prop
 | .tuple ds,.int j,Q=>0 <= j /\ Q (.fz (.tuple (ds.take j.toNat)))
 | _,_,_=>False
theorem ok_sl2T {K:Fg}:OpOk K (r2L (rSl2 (rSlA K))) (o2 fSl2T):=ok2 fun G F σ H ρ x y d e Q Qd R h1 h2 w k=>by
 cases d <;> first | exact w.elim | (cases e <;> first | exact w.elim | skip)
 rename_i ds j
 obtain ⟨w1,w⟩:=w
 cases h2.int
 obtain ⟨a,us,rfl,f1,e1,d1⟩:=h1.tuple R.sub
 have dc:=d1.take j.toNat
 refine ⟨j,rfl,a,us,rfl,SqT.of e1,fun z=>?_,fun p hp=>?_⟩
 ·rw [cutV_hi us w1] at z
  refine k _ H F (.fz _) (Sub.refl _) R (Da.tup f1 ?_) w
  rw [z] at dc
  exact dc
 ·rw [cutV_hi us w1]
  obtain ⟨sb,R',dd⟩:=R.newTup hp dc
  exact k _ _ _ (.fz _) sb R' dd w
section
variable {X:Cx} {K:Fg} {e1 e2 e3:Expr} {a b c:AD} {p pos p2 apos cpos:Pos} {x:Str}
theorem w_sl2T (hK:X.K = K) (ha:WE X e1 (argT K a)) (hb:WE X e2 (argT K b)):WE X (.Subscript e1 (.Slice none (some e2) none p2) pos) (lift K (dOp [a,b] (o2 fSl2T))):=by
 subst hK
 exact ⟨peM (pe_slice sl_tupA ha.h po_none (po_some hb.h)) fun q=>arg2 (P:=fun x z H=>rSl2 (rSlA X.K) x z H _) (l_op ok_sl2T q)⟩
end
end L3
namespace L3
open PySem PySem.Spec PyProof.Rows L2
theorem cutV_lo (us:List V) {i:Int} (h:0 <= i):cutV us (some i) none = us.drop i.toNat:=by
 unfold cutV
 have e1:HT.sIx us.length 0 (some i) = min i.toNat us.length:=by
  show (if i < 0 then (i + (us.length:Int)).toNat else min i.toNat us.length) = _
  rw [if_neg (by omega)]
 rw [e1]
 show (us.drop (min i.toNat us.length)).take (us.length - min i.toNat us.length) = _
 rw [List.take_of_length_le (by rw [List.length_drop]; exact Nat.le_refl _)]
 by_cases z:i.toNat <= us.length
 ·rw [Nat.min_eq_left z]
 ·rw [Nat.min_eq_right (by omega),List.drop_of_length_le (Nat.le_refl _),List.drop_of_length_le (by omega)]
noncomputable def rSl1 (r:V -> Option Int -> Option Int -> Hp -> VK -> Prop):R2:=fun x z H Q=>∃ j,z = .int j /\ r x (some j) none H Q
noncomputable def fSl1T:D -> D -> (Sl -> Prop) -> Prop
 | .tuple ds,.int j,Q=>0 <= j /\ Q (.fz (.tuple (ds.drop j.toNat)))
 | _,_,_=>False
theorem ok_sl1T {K:Fg}:OpOk K (r2L (rSl1 (rSlA K))) (o2 fSl1T):=ok2 fun G F σ H ρ x y d e Q Qd R h1 h2 w k=>by
 cases d <;> first | exact w.elim | (cases e <;> first | exact w.elim | skip)
 rename_i ds j
 obtain ⟨w1,w⟩:=w
 cases h2.int
 obtain ⟨a,us,rfl,f1,e1,d1⟩:=h1.tuple R.sub
 have dc:=d1.drop j.toNat
 refine ⟨j,rfl,a,us,rfl,SqT.of e1,fun z=>?_,fun p hp=>?_⟩
 ·rw [cutV_lo us w1] at z
  refine k _ H F (.fz _) (Sub.refl _) R (Da.tup f1 ?_) w
  rw [z] at dc
  exact dc
 ·rw [cutV_lo us w1]
  obtain ⟨sb,R',dd⟩:=R.newTup hp dc
  exact k _ _ _ (.fz _) sb R' dd w
theorem w_sl1T {X:Cx} {K:Fg} {e1 e2:Expr} {a b:AD} {pos p2:Pos} (hK:X.K = K) (ha:WE X e1 (argT K a)) (hb:WE X e2 (argT K b)):WE X (.Subscript e1 (.Slice (some e2) none none p2) pos) (lift K (dOp [a,b] (o2 fSl1T))):=by
 subst hK
 exact ⟨peM (pe_slice sl_tupA ha.h (po_some hb.h) po_none) fun q=>arg2 (P:=fun x z H=>rSl1 (rSlA X.K) x z H _) (l_op ok_sl1T q)⟩
end L3
namespace L2
open PySem PySem.Spec PyProof.Rows
theorem noFill_tup:fillsNumberSlot (.type "tuple") "mul" = pure false :=
 PySem.fillsNumberSlot_seq (id:="tuple.__mul__") (r:=some (.builtin "tuple.__rmul__")) PySem.F.slot_tuple_mul.lookup (by decide +kernel) PySem.F.slot_tuple_rmul.lookup (by decide +kernel)
theorem rep_tup:seqRepeat? (.type "tuple") = pure (some (.builtin "tuple.__mul__")):=by
 unfold seqRepeat?
 rw [PySem.seqSlot_of (T:="tuple") (name:="__mul__") (id:="tuple.__mul__") PySem.F.slot_tuple_mul.lookup (by decide +kernel),PySem.seqSlot_of (T:="tuple") (name:="__rmul__") (id:="tuple.__rmul__") PySem.F.slot_tuple_rmul.lookup (by decide +kernel)]
 rfl
theorem int_rmul_tup (a:Int) (t:Tok) (l:Addr) (items:Array Value) (n:Nat) (sl:Array (Option Value)) :
  Meets (Builtin.«int.__rmul__» ⟨[.int a t,.ref l],[]⟩) (fun _ R s=>s.heap.get? l = some { cls:=.type "tuple",dict:=none,data:=.seq items n,slots:=sl } /\ R (.ok (.ret Value.notImplemented)) s) :=
 .of_wp fun prog w A R s h=>by
  obtain ⟨hp,g,d,tk,os⟩:=s
  obtain ⟨hl,h⟩:=h
  wp_walk
  exact ⟨_,rfl,h⟩
theorem tup_mul (l:Addr) (items:Array Value) (n:Nat) (sl:Array (Option Value)) (k:Int) (t:Tok) (h1:2 <= k) (h2:k < 2 ^ 63) (h3:items.isEmpty = false) (h4:items.size * k.toNat <= sizeLine) :
  Meets (Builtin.«tuple.__mul__» ⟨[.ref l,.int k t],[]⟩) (fun _ R s=>s.heap.get? l = some { cls:=.type "tuple",dict:=none,data:=.seq items n,slots:=sl } /\
    R (.ok (.ret (.ref s.heap.objs.size))) { s with heap:=s.heap.push { cls:=.type "tuple",data:=.seq (List.foldl (fun x1 x2=>x1 ++ x2) #[] (List.replicate k.toNat items)) } }) :=
 .of_wp fun prog w A R s h=>by
  obtain ⟨hp,g,d,tk,os⟩:=s
  obtain ⟨hl,h⟩:=h
  have c1:(decide (k < -2 ^ 63) || decide (k ≥ 2 ^ 63)) = false:=by simp; omega
  have c2:(items.isEmpty || k == 1) = false:=by rw [h3]; simp; omega
  have c3:(decide (k <= 0) || items.isEmpty) = false:=by rw [h3]; simp; omega
  have hk:((k.toNat:Nat):Int) = k:=by omega
  have hm:(items.size:Int) * k <= (sizeLine:Nat):=by rw [<- hk]; exact_mod_cast h4
  have hs:(sizeLine:Nat) <= (2 ^ 63 - 1) / 8:=by decide
  have c4:¬ ((items.size:Int) * k > (2 ^ 63 - 1) / 8):=by omega
  wp_walk
  refine wpAny_ite_false (decide_eq_false (by rw [c1]; exact Bool.false_ne_true)) ?_
  wp_walk
  refine wpAny_ite_false (decide_eq_false (by rw [c2]; exact Bool.false_ne_true)) ?_
  wp_walk
  refine wpAny_ite_false (decide_eq_false (by rw [c3]; exact Bool.false_ne_true)) ?_
  wp_walk
  rw [if_neg c4]
  wp_walk
  have c5:Builtin.Tuple.tupleTooMany ((items.size:Int) * k) = false:=decide_eq_false (by omega)
  refine wpAny_ite_false (decide_eq_false (by rw [c5]; exact Bool.false_ne_true)) ?_
  have hsz:(List.foldl (fun x1 x2=>x1 ++ x2) #[] (List.replicate k.toNat items)).size <= sizeLine:=by
   have f0:∀ (m:Nat) (acc:Array Value),(List.foldl (fun x1 x2=>x1 ++ x2) acc (List.replicate m items)).size = acc.size + m * items.size:=by
    intro m
    induction m with
    | zero=>intro acc; simp
    | succ m ih=>intro acc; rw [List.replicate_succ,List.foldl_cons,ih,Array.size_append,Nat.succ_mul]; omega
   rw [f0,Nat.mul_comm]
   simpa using h4
  wp_walk
  exact ⟨_,rfl,h⟩
noncomputable def rRepT:R2:=fun x y H Q=>∃ l k xs,x = .ref l /\ y = .int k /\ H l = some (.tup xs) /\ xs ≠ [] /\ 2 <= k /\ k < 2 ^ 63 /\ xs.length * k.toNat <= sizeLine /\ ∀ p,H p = none -> Q (.ref p) (upd H p (.tup (List.replicate k.toNat xs).flatten))
theorem op_repT {X:Cx}:OpR X (binaryOp .Mult) rRepT:=by
 intro pins s σ H x y v u Q I rx ry h
 obtain ⟨l,k,xs,rfl,rfl,hH,hne,h1,h2,hz,q⟩:=h
 cases rx
 obtain ⟨t,rfl⟩:=ry
 obtain ⟨z,its,r,⟨cls,dd,data,sl⟩,e,c,m,d,dn⟩:=(show ObjOk X.prog X.w H s.heap l (.tup xs) from I.hok l _ hH)
 simp only at c d dn
 subst c d dn
 have hl:=r.length
 have hem:its.toArray.isEmpty = false:=by
  cases its with
  | nil=>exact absurd (List.length_eq_zero_iff.mp hl) hne
  | cons=>rfl
 refine wpAny_binaryOp_repeat_ref (T:="tuple") (U:="int") (by decide) ⟨_,e,rfl⟩ (fun s'=>typeIs_int s' k t) noFill_tup PySem.F.fills_int_mul PySem.F.slot_int_rmul rep_tup PySem.F.slot_int_index.lookup
  (call_meets PySem.F.slot_int_rmul (typeIs_int s k t) PySem.F.entry_int_rmul (PySem.F.args_int_rmul_2 _ _) (int_rmul_tup k t l its.toArray m sl)
    ⟨e,rfl,⟨_,e,rfl⟩,call_meets PySem.F.slot_tuple_mul ⟨_,e,rfl⟩ PySem.F.entry_tuple_mul (PySem.F.args_tuple_mul_2 _ _) (tup_mul l its.toArray m sl k t h1 h2 hem (by rw [List.size_toArray,<- hl]; exact hz)) ⟨e,?_⟩⟩)
 have f0:List.foldl (fun x1 x2=>x1 ++ x2) #[] (List.replicate k.toNat its.toArray) = (List.replicate k.toNat its).flatten.toArray:=by
  have:=foldl_rep its k.toNat []
  rw [List.nil_append] at this
  exact this
 rw [f0]
 exact ⟨.ref _,_,I.laid (t':=s.toks) (fun b o e=>Heap.get?_push_of_some _ e) (Nat.le_refl _) (show ObjOk X.prog X.w _ _ _ (.tup (List.replicate k.toNat xs).flatten) from ⟨by rw [len_rep,Nat.mul_comm]; exact hz,_,r.rep k.toNat,IsTupD.new _ _⟩),rfl,q _ I.fresh⟩
end L2
namespace L3
open PySem PySem.Spec PyProof.Rows L2
end L3
namespace L2
open PySem PySem.Spec PyProof.Rows
theorem args_sumTwo (a b:Value):argsOk "sum" ⟨[a,b],[]⟩:=by unfold argsOk; kernel_rfl
theorem subL_str:isSubtype (.type "list") (.type "str") = pure false:=by rw [isSubtype_type]; kernel_rfl
theorem subL_bytes:isSubtype (.type "list") (.type "bytes") = pure false:=by rw [isSubtype_type]; kernel_rfl
theorem subL_barr:isSubtype (.type "list") (.type "bytearray") = pure false:=by rw [isSubtype_type]; kernel_rfl
noncomputable abbrev LsAt (h:Heap) (a:Addr) (its:List Value):Prop:=∃ n,h.get? a = some { cls:=.type "list",data:=.seq its.toArray n }
section
variable {prog:Program} {w:World} {A:Around} {I:Addr} {fp wr:List Addr} {n:Nat} {P:Nat -> Value -> Prop} {St:Nat -> Heap -> Prop}
theorem sumcat_loop {R:Result -> Shared -> Prop} {h0:Heap} (W:Walks prog w A.in1 I fp wr n P St) (S:Addr) (hS:S ∉ fp) (ls:List (Addr × List Value)) (hn:ls.length = n) (hP:∀ i v,P i v -> ∃ p,ls[i]? = some p /\ v = .ref p.1) (hw:∀ b ∈ wr,h0.get? b = none) (hS0:h0.get? S = none) (hl:∀ p ∈ ls,LsAt h0 p.1 p.2) (hx:∀ i h,St i h -> ∀ b ∈ wr,∃ o,h.get? b = some o) :
  ∀ (k i:Nat) (s:Shared) (acc:Addr) (its:List Value) (c:Nat),n - i = k -> i <= n -> St i s.heap -> s.heap.get? S = some { cls:=.type "list",data:=.seq #[.ref acc] c } -> LsAt s.heap acc its ->
  acc ∉ wr -> its.length + ((ls.drop i).map (·.2)).flatten.length <= sizeLine -> (∀ b o,h0.get? b = some o -> s.heap.get? b = some o) -> (0 < i -> h0.get? acc = none) ->
  (∀ h' tk a',(∀ b o,h0.get? b = some o -> h'.get? b = some o) -> LsAt h' a' (its ++ ((ls.drop i).map (·.2)).flatten) -> (0 < n -> h0.get? a' = none) -> R (.ok (.ret (.ref a'))) { s with heap:=h',toks:=tk }) ->
  codeAny (model prog w) A (.builtin "sum.loop" ⟨[.ref I,.ref S,rawInt 2,rawInt 0],[]⟩) R s:=by
 have nw:S ∉ wr:=fun h=>hS (W.sub _ h)
 have n0:∀ {b:Addr} {o:Obj},h0.get? b = some o -> b ∉ wr:=fun e z=>by rw [hw _ z] at e; cases e
 intro k
 induction k with
 | zero =>
  intro i s acc its c hk hi st eS ea na hz kb ka q
  have e:i = n:=by omega
  subst e
  refine codeAny_builtin F.entry_sum_loop ?_; rw [Around.under_plainId F.plain_sum_loop _]
  refine (?_:wpAny _ A.in1 (seqItems? (.ref S) >>= _) _ _ s)
  refine wpAny_bind (wpAny_seqItems eS rfl ?_)
  refine (?_:wpAny _ A.in1 (tryCatch (pyNext (.ref I)) _ >>= _) _ _ s)
  refine wpAny_bind (wpAny_tryCatch (W.done s _ _ st fun h' tk kp=>?_))
  refine wpAny_pure (q h' tk acc (fun b o e=>kp b o (n0 e) (kb b o e)) ?_ ka)
  obtain ⟨m,e⟩:=ea
  rw [List.drop_of_length_le (by omega)]
  simp only [List.map_nil,List.flatten_nil,List.append_nil]
  exact ⟨m,kp _ _ na e⟩
 | succ k ih =>
  intro i s acc its c hk hi st eS ea na hz kb ka q
  have lt:i < n:=by omega
  refine codeAny_builtin F.entry_sum_loop ?_; rw [Around.under_plainId F.plain_sum_loop _]
  refine (?_:wpAny _ A.in1 (seqItems? (.ref S) >>= _) _ _ s)
  refine wpAny_bind (wpAny_seqItems eS rfl ?_)
  refine (?_:wpAny _ A.in1 (tryCatch (pyNext (.ref I)) _ >>= _) _ _ s)
  refine wpAny_bind (wpAny_tryCatch (W.item i s _ _ lt st fun v h1 tk pv st1 kp=>?_))
  obtain ⟨p,ep,rfl⟩:=hP i v pv
  obtain ⟨m1,e1⟩:=hl p (List.mem_of_getElem? ep)
  obtain ⟨m2,e2⟩:=ea
  have f1:=kp _ _ (n0 e1) (kb _ _ e1)
  have f2:=kp _ _ na e2
  have f3:=kp _ _ nw eS
  have kb1:∀ b o,h0.get? b = some o -> h1.get? b = some o:=fun b o e=>kp b o (n0 e) (kb b o e)
  have hd:ls.drop i = p :: ls.drop (i + 1):=by
   obtain ⟨hlt,e⟩:=List.getElem?_eq_some_iff.mp ep
   rw [List.drop_eq_getElem_cons hlt,e]
  have hz2:its.length + p.2.length + ((ls.drop (i + 1)).map (·.2)).flatten.length <= sizeLine:=by
   rw [hd] at hz
   simp only [List.map_cons,List.flatten_cons,List.length_append] at hz
   omega
  have hnew:h0.get? h1.objs.size = none:=by
   cases e:h0.get? h1.objs.size with
   | none=>rfl
   | some o=>exact absurd (Heap.lt_size (kb1 _ _ e)) (Nat.lt_irrefl _)
  have nS1:S ≠ h1.objs.size:=Nat.ne_of_lt (Heap.lt_size f3)
  have hin:∀ b ∈ fp,b ≠ S:=fun b hb z=>hS (z ▸ hb)
  show wpAny _ A.in1 ((holding [Value.ref p.1] (binaryOp .Add (.ref acc) (.ref p.1))).attempt >>= _) _ _ _
  refine wpAny_bind (wpAny_attempt (wpAny_holding (PySem.P.add_list f2 f1 ?_ (by rw [List.size_toArray,List.size_toArray]; omega))))
  show wpAny _ A.in1 (updateSeq S (fun _=>#[.ref h1.objs.size]) >>= _) _ _ _
  refine wpAny_bind ?_
  have g3:=Heap.get?_push_of_some { cls:=.type "list",data:=.seq (its.toArray ++ p.2.toArray) } f3
  refine wpAny_updateSeq g3 rfl ?_
  have g4:=Heap.get?_update_self (Obj.mapSeq fun _=>#[Value.ref h1.objs.size]) g3 rfl
  refine wpAny_bind (wpAny_letGo ?_)
  refine wpAny_bind ?_
  refine wpAny_updateSeq g4 rfl ?_
  have up:∀ b o,b ≠ S -> h1.get? b = some o -> (((h1.push { cls:=.type "list",data:=.seq (its.toArray ++ p.2.toArray) }).update S (Obj.mapSeq fun _=>#[Value.ref h1.objs.size])).update S (Obj.mapSeq fun _=>#[Value.ref h1.objs.size])).get? b = some o:=fun b o hb e=>by
   rw [Heap.get?_update_other _ _ (Ne.symm hb),Heap.get?_update_other _ _ (Ne.symm hb)]
   exact Heap.get?_push_of_some _ e
  have nwr:h1.objs.size ∉ wr:=fun z=>by
   obtain ⟨o,e⟩:=hx _ _ st1 _ z
   exact absurd (Heap.lt_size e) (Nat.lt_irrefl _)
  refine wpAny_pure ⟨plainId_quiet F.plain_sum_loop _,ih (i + 1) _ h1.objs.size (its ++ p.2) _ (by omega) lt (W.frame _ _ _ st1 fun b hb o e=>up b o (hin b hb) e) (Heap.get?_update_self _ g4 rfl) ⟨0,?_⟩ nwr (by rw [List.length_append]; exact hz2)
    (fun b o e=>up b o (fun z=>by rw [z,hS0] at e; cases e) (kb1 b o e)) (fun _=>hnew) fun h' tk' a' kp' la hx=>?_⟩
  ·rw [Heap.get?_update_other _ _ nS1,Heap.get?_update_other _ _ nS1,Heap.get?_push_size _ rfl]
   simp
  ·refine q h' tk' a' kp' ?_ hx
   rw [hd]
   simp only [List.map_cons,List.flatten_cons]
   rw [<- List.append_assoc]
   exact la
theorem call_sumcat {E:Value -> Shared -> Prop} {s:Shared} {a b:Addr} {ls:List (Addr × List Value)} {Q:Value -> Shared -> Prop} (hh:A.handled = none) (ha:LsAt s.heap a (ls.map fun p=>.ref p.1)) (hb:LsAt s.heap b []) (hl:∀ p ∈ ls,LsAt s.heap p.1 p.2) (hz:((ls.map (·.2)).flatten.length) <= sizeLine) (hne:ls ≠ [])
  (q:∀ h' tk a',(∀ b o,s.heap.get? b = some o -> h'.get? b = some o) -> LsAt h' a' (ls.map (·.2)).flatten -> s.heap.get? a' = none -> Q (.ref a') { s with heap:=h',toks:=tk }):wpAny (model prog w) A (call (.builtin "sum") [.ref a,.ref b]) Q E s:=by
 obtain ⟨na,ea⟩:=ha
 obtain ⟨nb,eb⟩:=hb
 have hlt:=Heap.lt_size ea
 refine call_function_tree F.kind_sum F.plain_sum F.entry_sum (args_sumTwo _ _) ?_
 unfold Builtin.«sum»
 simp only [List.length_cons,List.length_nil]; rw [if_neg (by decide)]
 refine wpAny_bind (wpAny_of_eq (show Builtin.Builtins.bindParams "sum" ["start"] 0 ⟨[.ref b],[]⟩ = pure [some (.ref b)] from rfl) ?_)
 have il:s.heap.IsList a (ls.map fun p=>Value.ref p.1).toArray:=⟨_,ea,rfl,na,rfl⟩
 refine wpAny_bind (wpAny_pyIter_list il ?_)
 refine wpAny_bind (wpAny_pure ?_)
 simp only [List.forIn_cons,List.forIn_nil]
 have tb:∀ tk g d os (o:Obj),(⟨s.heap.push o,g,d,tk,os⟩:Shared).TypeIs (.ref b) "list":=fun _ _ _ _ _=>⟨_,Heap.get?_push_of_some _ eb,rfl⟩
 refine wpAny_bind (wpAny_bind (wpAny_bind (wpAny_isInstance (T:="list") (b:=false) (tb _ _ _ _ _) subL_str ?_)))
 simp only [Bool.false_eq_true,if_false]
 refine wpAny_pure (wpAny_bind (wpAny_bind (wpAny_isInstance (T:="list") (b:=false) (tb _ _ _ _ _) subL_bytes ?_)))
 simp only [Bool.false_eq_true,if_false]
 refine wpAny_pure (wpAny_bind (wpAny_bind (wpAny_isInstance (T:="list") (b:=false) (tb _ _ _ _ _) subL_barr ?_)))
 simp only [Bool.false_eq_true,if_false]
 refine wpAny_pure (wpAny_pure ?_)
 refine wpAny_bind (wpAny_newObj_type ?_)
 have W:=Walks.list (prog:=prog) (w:=w) (A:=A.in1) hh s.heap.objs.size a (Nat.ne_of_lt hlt) (ls.map fun p=>Value.ref p.1).toArray
 have e0:(s.heap.push { cls:=.type "list_iterator",data:=.fields #[.ref a,.int 0 0] }).objs.size = s.heap.objs.size + 1:=Heap.size_push _ _
 have fr:∀ {c:Addr},s.heap.objs.size <= c -> s.heap.get? c = none:=fun {c} hc=>Heap.get?_none_of_le hc
 refine wpAny_pure ⟨plainId_quiet F.plain_sum_loop _,sumcat_loop (h0:=s.heap) W (s.heap.push { cls:=.type "list_iterator",data:=.fields #[.ref a,.int 0 0] }).objs.size (fun hm=>?_) ls (by simp) (fun i v hv=>?_) (fun c hc=>fr ?_) (fr (by rw [e0]; omega)) hl (fun i h st c hc=>?_)
   ls.length 0 _ b [] 0 (by simp) (Nat.zero_le _) ⟨⟨_,Heap.get?_push_of_some _ (Heap.get?_push_size _ rfl),rfl,rfl⟩,(il.push _).push _⟩ (Heap.get?_push_size _ rfl) ⟨nb,Heap.get?_push_of_some _ (Heap.get?_push_of_some _ eb)⟩ (fun hc=>?_) (by simpa using hz)
   (fun c o e=>Heap.get?_push_of_some _ (Heap.get?_push_of_some _ e)) (fun z=>absurd z (Nat.lt_irrefl _)) fun h' tk a' kp la hx=>?_⟩
 ·rw [e0] at hm
  simp only [List.mem_cons,List.not_mem_nil,or_false] at hm
  rcases hm with hm | hm
  ·exact absurd hm (Nat.ne_of_gt (Nat.lt_succ_self _))
  ·exact absurd hm (Nat.ne_of_gt (Nat.lt_succ_of_lt hlt))
 ·have hv:(ls.map fun p=>Value.ref p.1).toArray[i]? = some v:=hv
  rw [List.getElem?_toArray,List.getElem?_map] at hv
  cases e:ls[i]? with
  | none=>rw [e] at hv; cases hv
  | some p=>rw [e] at hv; cases hv; exact ⟨p,rfl,rfl⟩
 ·have hc:c = s.heap.objs.size:=by simpa using hc
  exact Nat.le_of_eq hc.symm
 ·have hc:c = s.heap.objs.size:=by simpa using hc
  subst hc
  obtain ⟨⟨o,e,_⟩,_⟩:=st
  exact ⟨o,e⟩
 ·have hc:b = s.heap.objs.size:=by simpa using hc
  exact absurd hc (Nat.ne_of_lt (Heap.lt_size eb))
 ·refine q h' tk a' kp (by simpa using la) (hx ?_)
  cases ls with
  | nil=>exact absurd rfl hne
  | cons p r=>simp
end
noncomputable def rSumL:List V -> Hp -> VK -> Prop:=fun xs H Q=>∃ (a b:Addr) (ls:List (Addr × List V)),xs = [.ref a,.ref b] /\ H a = some (.lst (ls.map fun p=>.ref p.1)) /\ H b = some (.lst []) /\ (∀ p ∈ ls,H p.1 = some (.lst p.2)) /\ ls ≠ [] /\ (ls.map (·.2)).flatten.length <= sizeLine /\ ∀ p,H p = none -> Q (.ref p) (upd H p (.lst (ls.map (·.2)).flatten))
theorem refsL:∀ {ls:List (Addr × List V)} {us:List Value},Vals (ls.map fun p=>V.ref p.1) us -> us = ls.map fun p=>Value.ref p.1
 | [],_,r=>by cases r; rfl
 | p :: ls,_,r=>by
  cases r with
  | cons r1 r2=>cases r1; rw [refsL r2]; rfl
theorem valsL {P:Program} {w:World} {H:Hp} {h:Heap} (ok:HOk P w H h):∀ {ls:List (Addr × List V)},(∀ p ∈ ls,H p.1 = some (.lst p.2)) -> ∃ us:List (Addr × List Value),us.map (·.1) = ls.map (·.1) /\ (∀ p ∈ us,LsAt h p.1 p.2) /\ Vals (ls.map (·.2)).flatten (us.map (·.2)).flatten
 | [],_=>⟨[],rfl,fun _ z=>(by cases z),.nil⟩
 | p :: ls,hp=>by
  obtain ⟨us,e1,e2,e3⟩:=valsL ok (ls:=ls) fun q hq=>hp q (List.mem_cons_of_mem _ hq)
  obtain ⟨z,its,n,r,e⟩:=ok p.1 _ (hp p List.mem_cons_self)
  refine ⟨(p.1,its) :: us,by simp [e1],fun q hq=>?_,?_⟩
  ·rcases List.mem_cons.mp hq with rfl | hq
   ·exact ⟨n,e⟩
   ·exact e2 q hq
  ·simp only [List.map_cons,List.flatten_cons]
   exact r.append e3
theorem Inv.laidN {X:Cx} {pins:List (Addr × Obj)} {σ:St} {H:Hp} {s:Shared} {h':Heap} {a:Addr} {o:HO} {t':Nat} (I:Inv X pins σ H s) (k:∀ b u,s.heap.get? b = some u -> h'.get? b = some u) (hp:s.heap.get? a = none) (new:ObjOk X.prog X.w (upd H a o) h' a o):Inv X pins σ (upd H a o) { s with heap:=h',toks:=t' }:=by
 have hn:=HOk.gone I.hok hp
 have ne:∀ {b u},s.heap.get? b = some u -> b ≠ a:=fun q z=>by rw [z,hp] at q; cases q
 refine I.un ⟨fun b u q _ _ _=>k b u q,fun b u q _ _ _=>⟨u.slots,k b u q⟩,fun b u q n _=>by rw [upd_ne (ne q)]; exact n,fun b u q _=>⟨u,k b u q⟩,fun b xs q=>by rw [upd_ne (ne_of_none q hn)]; exact q,fun b u v q=>by rw [upd_ne (ne_of_none q hn)]; exact q,fun b ps q=>⟨#[],by rw [upd_ne (ne_of_none q hn),q]; simp⟩⟩ fun b u e=>?_
 by_cases hb:b = a
 ·subst hb; rw [upd_same] at e; cases e; exact new
 ·rw [upd_ne hb] at e
  exact (I.hok b u e).stay (fun c v _ q=>k c v q) (fun c q=>by rw [upd_ne (ne_of_none q hn)]; exact q) fun c xs q=>by rw [upd_ne (ne_of_none q hn)]; exact q
theorem call_sumL {X:Cx} (hc:X.calm = true):CallR X (.builtin "sum") (L3.r2L fun x y H Q=>rSumL [x,y] H Q):=by
 intro pins s σ H xs us Q I r h
 obtain ⟨x,y,rfl,a,b,ls,e,ha,hb,hl,hne,hz,q⟩:=h
 cases e
 obtain ⟨u1,u2,rfl,r1,r2⟩:=vals2 r
 cases r1
 cases r2
 obtain ⟨z1,ia,n1,v1,_,e1⟩:=I.lstM ha
 obtain ⟨z2,ib,n2,v2,_,e2⟩:=I.lstM hb
 have:=refsL v1
 subst this
 cases v2
 obtain ⟨vs,m1,m2,m3⟩:=valsL I.hok hl
 have em:(ls.map fun p=>Value.ref p.1) = vs.map fun p=>Value.ref p.1:=by
  have:=congrArg (List.map Value.ref) m1
  simpa [List.map_map,Function.comp_def] using this.symm
 refine call_sumcat (I.ok.hd hc) (ls:=vs) (by rw [<- em]; exact ⟨n1,e1⟩) ⟨n2,e2⟩ m2 (by rw [<- m3.length]; exact hz) (fun z=>hne ?_) fun h' tk a' kp ⟨m,la⟩ hx=>?_
 ·subst z
  cases ls with
  | nil=>rfl
  | cons p r=>cases m1
 ·refine ⟨.ref a',_,?_,rfl,q a' (HOk.gone I.hok hx)⟩
  exact I.laidN kp hx ⟨hz,_,m,m3,la⟩
end L2
namespace L3
open PySem PySem.Spec PyProof.Rows L2
noncomputable def unL:D -> List D
 | .list l=>l
 | _=>[]
noncomputable def fSumL:D -> D -> (Sl -> Prop) -> Prop
 | .list ds,.list [],Q=>∃ lss:List (List D),ds = lss.map PyData.list /\ lss ≠ [] /\ lss.flatten.length <= sizeLine /\ Q (.ow (.list lss.flatten))
 | _,_,_=>False
theorem sum_parts {K:Fg} {F H:Hp} (s:Sub F H):∀ {xs:List V} {lss:List (List D)},DaAll K F xs (lss.map PyData.list) -> ∃ ls:List (Addr × List V),xs = ls.map (fun p=>V.ref p.1) /\ (∀ p ∈ ls,H p.1 = some (.lst p.2)) /\ ls.length = lss.length /\ DaAll K F (ls.map (·.2)).flatten lss.flatten
 | [],[],_=>⟨[],rfl,fun _ z=>(by cases z),rfl,.nil⟩
 | x :: xs,l :: lss,.cons h t=>by
  obtain ⟨ls,e1,e2,e3,e4⟩:=sum_parts s t
  cases h with
  | @lst a us _ e d =>
   refine ⟨(a,us) :: ls,by rw [e1]; rfl,fun p hp=>?_,by simp [e3],?_⟩
   ·rcases List.mem_cons.mp hp with rfl | hp
    ·exact s _ _ e
    ·exact e2 p hp
   ·simp only [List.map_cons,List.flatten_cons]
    exact d.append e4
theorem ok_sumL {K:Fg}:OpOk K (r2L fun x y H Q=>rSumL [x,y] H Q) (o2 fSumL):=ok2 fun G F σ H ρ x y d e Q Qd R h1 h2 w k=>by
 cases d <;> first | exact w.elim | skip
 cases e <;> first | exact w.elim | skip
 rename_i ds es
 cases es with
 | cons _ _=>exact w.elim
 | nil =>
  obtain ⟨lss,rfl,hne,hz,w⟩:=w
  obtain ⟨a,us,rfl,e1,d1⟩:=h1.list R.sub
  obtain ⟨b,vs,rfl,e2,d2⟩:=h2.list R.sub
  cases d2
  obtain ⟨ls,rfl,g2,g3,g4⟩:=sum_parts R.sub d1
  refine ⟨a,b,ls,rfl,e1,e2,g2,fun z=>hne ?_,by rw [g4.length]; exact hz,fun p hp=>?_⟩
  ·subst z
   exact List.eq_nil_of_length_eq_zero g3.symm
  ·obtain ⟨R',r'⟩:=R.newOw (o:=.lst (ls.map fun q:Addr × List V=>q.2).flatten) (d:=.list lss.flatten) hp g4
   exact k _ _ F _ (Sub.refl _) R' r' w
noncomputable def GT (K:Fg) (mg:Str -> Option Value) (x:Str) (ns:List Int):Prop:=∃ a,mg x = some (.ref a) /\ ∃ (o:Obj) (its:Array Value) (n:Nat),K.lookup a = some o /\ o.cls = .type "tuple" /\ o.data = .seq its n /\ its.size <= sizeLine /\ Vals (ns.map V.int) its.toList
noncomputable def dIG (ns:List Int):TDI:=fun ρ Q=>Q (ns.map PyData.int) ρ
theorem i_gtup {X:Cx} {K:Fg} {tg:Expr} {x:Str} {p:Pos} {ns:List Int} (hK:X.K = K) (hm:GT X.K X.mg x ns) (hg:Gl X x:=by rfl) (hd:(x == ("__debug__":Str)) = false:=by decide):WI X tg (.Name x p) (liftI K (dIG ns)):=by
 subst hK
 obtain ⟨a,hm,hk⟩:=hm
 refine ⟨piM (pi_seqD rfl (pe_glob hg hm (v:=.ref a) rfl hd)) fun {σ H R} h=>?_⟩
 obtain ⟨G,F,ρ,Qd,Rl,w,k⟩:=h
 have sq:∀ H:Hp,SqT X.K H a (ns.map V.int):=fun _=>.inr hk
 refine ⟨a,rfl,.inr ⟨⟨_,sq _⟩,k _ H F _ ρ (Sub.refl _) Rl (fun i H1 F1 s1 s2=>?_) w⟩⟩
 refine ⟨fun d ed=>?_,fun hl=>⟨_,sq _,by rw [List.length_map]; rw [List.length_map] at hl; omega⟩⟩
 rw [List.getElem?_map] at ed
 cases e:ns[i]? with
 | none=>rw [e] at ed; cases ed
 | some n =>
  rw [e] at ed
  cases ed
  have h1:(ns.map V.int)[i]? = some (.int n):=by rw [List.getElem?_map,e]; rfl
  refine ⟨⟨_,_,sq _,h1⟩,fun x H' ⟨e1,e2⟩=>?_⟩
  subst e1
  have:=e2 _ (sq _)
  rw [h1] at this
  cases this
  exact ⟨F1,Sub.refl _,fun _ _ z=>.inl z,s2,Sub.refl _,.int _⟩
end L3
namespace L2
open PySem PySem.Spec PyProof.Rows
theorem tup_mul1 (l:Addr) (items:Array Value) (n:Nat) (sl:Array (Option Value)) (k:Int) (t:Tok) (hk:k = 1) :
  Meets (Builtin.«tuple.__mul__» ⟨[.ref l,.int k t],[]⟩) (fun _ R s=>s.heap.get? l = some { cls:=.type "tuple",dict:=none,data:=.seq items n,slots:=sl } /\ R (.ok (.ret (.ref l))) s) :=
 .of_wp fun prog w A R s h=>by
  obtain ⟨hp,g,d,tk,os⟩:=s
  obtain ⟨hl,h⟩:=h
  have c1:(decide (k < -2 ^ 63) || decide (k ≥ 2 ^ 63)) = false:=by subst hk; decide
  have c2:(items.isEmpty || k == 1) = true:=by subst hk; simp
  clear hk
  wp_walk
  refine wpAny_ite_false (decide_eq_false (by rw [c1]; exact Bool.false_ne_true)) ?_
  wp_walk
  exact ⟨_,rfl,h⟩
noncomputable def rRep1:R2:=fun x y H Q=>∃ l xs,x = .ref l /\ y = .int 1 /\ H l = some (.tup xs) /\ Q (.ref l) H
theorem op_rep1 {X:Cx}:OpR X (binaryOp .Mult) rRep1:=by
 intro pins s σ H x y v u Q I rx ry h
 obtain ⟨l,xs,rfl,rfl,hH,q⟩:=h
 cases rx
 obtain ⟨t,rfl⟩:=ry
 obtain ⟨z,its,r,⟨cls,dd,data,sl⟩,e,c,m,d,dn⟩:=(show ObjOk X.prog X.w H s.heap l (.tup xs) from I.hok l _ hH)
 simp only at c d dn
 subst c d dn
 refine wpAny_binaryOp_repeat_ref (T:="tuple") (U:="int") (by decide) ⟨_,e,rfl⟩ (fun s'=>typeIs_int s' 1 t) noFill_tup PySem.F.fills_int_mul PySem.F.slot_int_rmul rep_tup PySem.F.slot_int_index.lookup
  (call_meets PySem.F.slot_int_rmul (typeIs_int s 1 t) PySem.F.entry_int_rmul (PySem.F.args_int_rmul_2 _ _) (int_rmul_tup 1 t l its.toArray m sl)
    ⟨e,rfl,⟨_,e,rfl⟩,call_meets PySem.F.slot_tuple_mul ⟨_,e,rfl⟩ PySem.F.entry_tuple_mul (PySem.F.args_tuple_mul_2 _ _) (tup_mul1 l its.toArray m sl 1 t rfl) ⟨e,?_⟩⟩)
 exact ⟨.ref l,H,I,rfl,q⟩
theorem op_repA {X:Cx}:OpR X (binaryOp .Mult) (L3.rAny rRepT rRep1):=by
 intro pins s σ H x y v u Q I rx ry h
 rcases h with h | h
 ·exact op_repT pins s σ H x y v u Q I rx ry h
 ·exact op_rep1 pins s σ H x y v u Q I rx ry h
end L2
namespace L3
open PySem PySem.Spec PyProof.Rows L2
noncomputable def fRepA:D -> D -> (Sl -> Prop) -> Prop
 | .tuple ds,.int k,Q=>ds ≠ [] /\ 1 <= k /\ k < 2 ^ 63 /\ ds.length * k.toNat <= sizeLine /\ Q (.fz (.tuple (List.replicate k.toNat ds).flatten))
 | _,_,_=>False
theorem ok_repA {K:Fg}:OpOk K (r2L (rAny rRepT rRep1)) (o2 fRepA):=ok2 fun G F σ H ρ x y d e Q Qd R h1 h2 w k=>by
 cases d <;> first | exact w.elim | (cases e <;> first | exact w.elim | skip)
 rename_i ds n
 obtain ⟨w0,w1,w2,w3,w⟩:=w
 cases h2.int
 obtain ⟨a,us,rfl,f1,e1,d1⟩:=h1.tuple R.sub
 have hl:=d1.length
 by_cases hn:n = 1
 ·subst hn
  have e:(List.replicate (1:Int).toNat ds).flatten = ds:=by simp
  rw [e] at w
  exact .inr ⟨a,us,rfl,rfl,e1,k _ H F (.fz _) (Sub.refl _) R (Da.tup f1 d1) w⟩
 ·refine .inl ⟨a,n,us,rfl,rfl,e1,fun z=>w0 (by rw [z] at hl; exact List.length_eq_zero_iff.mp hl.symm),by omega,w2,by rw [hl]; exact w3,fun p hp=>?_⟩
  obtain ⟨sb,R',dd⟩:=R.newTup hp (d1.rep n.toNat)
  exact k _ _ _ (.fz _) sb R' dd w
end L3
namespace L3
open PySem PySem.Spec PyProof.Rows L2
mutual
noncomputable def tupE:D -> Bool
 | .none=>true
 | .bool _=>true
 | .int _=>true
 | .str _=>true
 | .list _=>false
 | .tuple xs=>tupEs xs
 | .dict es=>es.isEmpty
noncomputable def tupEs:List D -> Bool
 | []=>true
 | x :: xs=>tupE x && tupEs xs
end
section
variable {X:Cx} {pins:List (Addr × Obj)} {σ:L2.St} {F H:Hp} {s:Shared}
theorem reads_e0 (I:Inv X pins σ H s) {a:Addr} (h:Rd H a (.dK []) \/ Rd H a (.dT [])):∃ as,Reads s.heap (.ref a) (.dict []) as /\ sysModules ∉ as:=by
 have get:∀ {u:HO},Rd H a u -> ObjOk X.prog X.w H s.heap a u:=fun {u} h=>h.ok I.hok
 obtain ⟨hsm,o,es,ep,e1,e2,e3,e4⟩:(a == sysModules) = false /\ ∃ o es ep,s.heap.get? a = some o /\ o.ExactDict /\ o.data = .dict es ep /\ es.toList = []:=by
  rcases h with h | h
  ·obtain ⟨_,hsm,vs,kv,o,es,ep,e1,e2,e3,_,e4,_⟩:=get h
   cases kv
   exact ⟨hsm,o,es,ep,e1,e2,e3,by cases h:es.toList with | nil=>rfl | cons _ _=>rw [h] at e4; cases e4⟩
  ·obtain ⟨_,hsm,xs,kt,o,es,ep,e1,e2,e3,e4,_⟩:=get h
   cases kt
   exact ⟨hsm,o,es,ep,e1,e2,e3,by simpa using e4⟩
 refine ⟨a :: [] ++ [],.dict (kvs:=[]) e1 e2.1 e3 (by rw [e4]; exact .nil) (by rw [e4]; exact .nil),fun z=>?_⟩
 have z:sysModules = a:=by simpa using z
 rw [z] at hsm
 simp at hsm
mutual
theorem Da.readsE (I:Inv X pins σ H s) (sb:Sub F H):∀ {v:V} {d:D} {u:Value},Da X.K F v d -> tupE d = true -> RelV v u -> ∃ as,Reads s.heap u d as /\ sysModules ∉ as
 | _,_,_,.non,_,r=>by cases r; exact ⟨_,.none,by simp⟩
 | _,_,_,.bl b,_,r=>by cases r; exact ⟨_,.bool b,by simp⟩
 | _,_,_,.int i,_,r=>by obtain ⟨t,rfl⟩:=r; exact ⟨_,.int i t,by simp⟩
 | _,_,_,.str x,_,r=>by obtain ⟨t,rfl⟩:=r; exact ⟨_,.str x t,by simp⟩
 | _,_,_,.lst e t,z,_=>by simp [tupE] at z
 | _,_,_,.tup e t,z,r=>by
  cases r
  obtain ⟨its,rv,⟨o,e,c,n,q⟩,_⟩:=I.tuple (SqT.of (sb _ _ e))
  obtain ⟨as,hr,ns⟩:=DaAll.readsE I sb t (by simpa [tupE] using z) rv
  exact ⟨_,.tuple e c q (by simpa using hr),ns⟩
 | _,_,_,.dk h t,z,r=>by
  cases r
  cases t with
  | nil=>exact reads_e0 I (.inl (sb.rd h))
  | cons _ _=>simp [tupE] at z
 | _,_,_,.dt h t,z,r=>by
  cases r
  cases t with
  | nil=>exact reads_e0 I (.inr (sb.rd h))
  | cons _ _=>simp [tupE] at z
 | _,_,_,.scr _,z,_=>by simp [tupE,scrD] at z
 | _,_,_,.exc _,z,_=>by simp [tupE,excD] at z
 | _,_,_,.opq _,z,_=>by simp [tupE,opqD] at z
 | _,_,_,.pd _ _,z,_=>by simp [tupE,pdD] at z
 | _,_,_,.bd _ _,z,_=>by simp [tupE,bdD] at z
theorem DaAll.readsE (I:Inv X pins σ H s) (sb:Sub F H):∀ {xs:List V} {ds:List D} {us:List Value},DaAll X.K F xs ds -> tupEs ds = true -> Vals xs us -> ∃ as,ReadsAll s.heap us ds as /\ sysModules ∉ as
 | _,_,_,.nil,_,.nil=>⟨_,.nil,by simp⟩
 | _,_,_,.cons h t,z,.cons r rr=>by
  simp [tupEs] at z
  obtain ⟨as,a,n1⟩:=Da.readsE I sb h z.1 r
  obtain ⟨bs,b,n2⟩:=DaAll.readsE I sb t z.2 rr
  exact ⟨_,.cons a b,fun z=>(List.mem_append.mp z).elim n1 n2⟩
end
end
noncomputable def rReprE (K:Fg):List V -> Hp -> VK -> Prop:=fun xs H Q=>∃ (x:V) (d:D) (F:Hp),xs = [x] /\ Sub F H /\ Da K F x d /\ tupE d = true /\ d.showable = true /\ d.depth + 1 <= 64 /\ d.shown.length <= sizeLine /\ Q (.str d.shown) H
theorem call_reprE0 {X:Cx} {K:Fg} {k:Nat} (hK:X.K = K) (hr:Room k X.A):CallR X (.builtin "repr") (rReprE K):=by
 subst hK
 intro pins s σ H xs us Q I r h
 obtain ⟨x,d,F,rfl,sb,hd,ht,hs,hz,hl,q⟩:=h
 obtain ⟨u,rfl,ru⟩:=vals1 r
 obtain ⟨as,ra,hsm⟩:=hd.readsE I sb ht ru
 have hu:=hr.units
 have fin:∀ {a:Addr},u = .ref a -> wpAny (model X.prog X.w) X.A (call (.builtin "repr") [u]) (EP X pins σ Q) X.xe s:=fun {a} e=>by
  subst e
  exact repr_of_reads' ra hs (fun _=>hsm) hr.gd (by omega) (fun _ _ e=>e) (fun h' u tk hk=>⟨.str _,H,I.kept hk,⟨u,rfl⟩,q⟩) hl
 cases ra with
 | none=>exact PySem.P.repr_of_none ⟨.str _,H,I.tok _,⟨_,rfl⟩,q⟩
 | bool b=>exact PySem.P.repr_of_bool ⟨.str _,H,I.tok _,⟨_,rfl⟩,by cases b <;> exact q⟩
 | int i t=>exact PySem.P.repr_of_int (by simpa [PyData.showable] using hs) ⟨.str _,H,I.tok _,⟨_,rfl⟩,q⟩
 | str x t=>exact PySem.P.repr_of_str ⟨.str _,H,I.tok _,⟨_,rfl⟩,q⟩ hl
 | list=>exact fin rfl
 | tuple=>exact fin rfl
 | dict=>exact fin rfl
noncomputable def rReprY (K:Fg):List V -> Hp -> VK -> Prop:=fun xs H Q=>rRepr K xs H Q \/ rReprE K xs H Q
theorem call_reprY {X:Cx} {K:Fg} {k:Nat} (hK:X.K = K) (hr:Room k X.A):CallR X (.builtin "repr") (rReprY K):=fun pins s σ H xs us Q I r h=>h.elim (call_reprK hK hr pins s σ H xs us Q I r) (call_reprE0 hK hr pins s σ H xs us Q I r)
noncomputable def shw (d:D):Bool:=plainD d || tupE d
noncomputable def fReprY (d:D) (Q:Sl -> Prop):Prop:=shw d = true /\ d.showable = true /\ d.depth + 1 <= 64 /\ d.shown.length <= sizeLine /\ Q (.fz (.str d.shown))
theorem At.daE {K:Fg} {F H:Hp} {v:V} {d:D} (sb:Sub F H) (h:At K F H v d) (p:tupE d = true):∃ F',Sub F' H /\ Da K F' v d:=by
 rcases h with h | ⟨a,o,rfl,n,e,h⟩
 ·exact ⟨F,sb,h⟩
 ·have s2:Sub F (upd F a o):=fun b u z=>by
   by_cases q:b = a
   ·subst q; rw [n] at z; cases z
   ·rw [upd_ne q]; exact z
  refine ⟨upd F a o,fun b u z=>?_,(h.mono s2).da upd_same⟩
  by_cases q:b = a
  ·subst q; rw [upd_same] at z; rw [e]; exact z
  ·rw [upd_ne q] at z; exact sb _ _ z
theorem ok_reprY {K:Fg}:OpOk K (rReprY K) (o1 fReprY):=ok1 fun G F σ H ρ x d Q Qd R h1 w k=>by
 obtain ⟨p1,p2,p3,p4,w⟩:=w
 rcases Bool.or_eq_true_iff.mp p1 with p1 | p1
 ·exact .inl ⟨x,d,rfl,h1.is R.sub p1,p2,plain_noDict p1,p3,p4,k _ H F (.fz _) (Sub.refl _) R (Da.str _) w⟩
 ·obtain ⟨F',sb,da⟩:=h1.daE R.sub p1
  exact .inr ⟨x,d,F',rfl,sb,da,p1,p2,p3,p4,k _ H F (.fz _) (Sub.refl _) R (Da.str _) w⟩
end L3
namespace R76
open PySem L2 L3 PyProof.Rows
noncomputable def top (i:Nat):Stmt:=PySem.Challenge.pw_boxsums_k76_papers_spoilt.main.body.getD i (.Pass ⟨0,0,0,0⟩)
structure Txt (mg:Str -> Option Value):Prop where
 len_:mg "len" = none
 max_:mg "max" = none
 min_:mg "min" = none
 all_:mg "all" = none
 isinstance_:mg "isinstance" = none
 tuple_:mg "tuple" = none
 list_:mg "list" = none
 int_:mg "int" = none
 bool_:mg "bool" = none
 str_:mg "str" = none
 range_:mg "range" = none
 zip_:mg "zip" = none
 repr_:mg "repr" = none
 sorted_:mg "sorted" = none
 sum_:mg "sum" = none
 MOST_WAYS_:∃ t,mg "MOST_WAYS" = some (.int 3 t)
 MOST_CELLS_:∃ t,mg "MOST_CELLS" = some (.int 120 t)
structure Cls (K:PySem.W.Frag) (mg:Str -> Option Value):Prop where
 PARTS_:GT K mg "PARTS" [4,5]
section
variable {P:Program} {w:World} {K:PySem.W.Frag} {mg:Str -> Option Value} {base:Heap}
noncomputable abbrev liD (l:List Int):PyData:=.list (l.map PyData.int)
noncomputable abbrev penD (a b c:Int):PyData:=.list [.int a,.int b,.int c]
noncomputable def cPen:Con:=fun args Q=>∃ (ns:List Int) (k:Int),args = [.fz (scrD ns),.fz (.int k)] /\ 0 <= k /\ k <= 1000 /\ ∀ (a b:Int) (o:Ev),0 <= a -> 0 <= b -> Q (.ow (penD a b 0)) o
theorem scPen:FnScope ["_law_script","_law_k","_law_cell_here"] ["_law_script","_law_k"] (defScope (top 34)):=⟨rfl,rfl,rfl,by decide +kernel,rfl,by decide +kernel,by decide +kernel⟩
theorem ok_pen {f:Addr} {fd:FuncData} (F:Fun K "_law_pen" "_law_pen" (top 34) f fd) (T:Txt mg):FnOk P w K mg base CX0 1 f fd ["_law_script","_law_k"] (conSp K cPen):=by
 have S:=scPen
 refine wfn F S (fun cdv A outer s H E hr=>(s_cons (s_set (i:=2) S.nd rfl (Or.inl rfl) w_int)
     (s_cons (s_if (t_cmp ok_gt op_gt (wx (w_callB ok_len (call_lenK (K:=K) rfl) T.len_ PySem.boot_len (wa_cons (wn 0) wa_nil))) (wx w_int)) (s_one (s_set (i:=2) S.nd rfl (Or.inl rfl) (w_ix rfl (wn 0) (wx (w_bin ok_mod op_mod (wn 1) (wx (w_callB ok_len (call_lenK (K:=K) rfl) T.len_ PySem.boot_len (wa_cons (wn 0) wa_nil)))))))) s_nil)
     (s_cons (s_if (t_w (t_and (t_cmp ok_lt op_lt (wn 1) (wx (w_callB ok_len (call_lenK (K:=K) rfl) T.len_ PySem.boot_len (wa_cons (wn 0) wa_nil)))) (t_and1 (t_cmp ok_ge op_ge (wn 2) (wx (w_bin ok_pow op_pow (wx w_int) (wx w_int))))))) (s_one (s_ret (w_lst (wa_cons (wx (wv 2)) (wa_cons (wx w_int) (wa_cons (wx w_int) wa_nil)))))) s_nil)
     (s_one (s_ret (w_lst (wa_cons (wx w_int) (wa_cons (wx (w_bin ok_add op_addD (wx (w_bin ok_mod op_mod (wn 2) (wx w_int))) (wx (w_bin ok_mul op_mulD (wx w_int) (wn 1))))) (wa_cons (wx w_int) wa_nil)))))))))) ?_ ?_
 ·rintro args Qd ⟨ns,k,rfl,_⟩; rfl
 ·rintro args Qd ⟨ns,k,rfl,k0,k1,q⟩
  have fin:∀ (c:Int) (o:Ev),Qd (.ow (penD 0 (c % 999999937 + 70001 * k) 0)) o:=fun c o=>by
   have:=Int.emod_nonneg c (show (999999937:Int) ≠ 0 by decide)
   exact q _ _ _ (by decide) (by omega)
  refine ⟨noOw_of rfl,?_⟩
  refine ⟨ns,rfl,?_⟩
  refine ite2 (fun h1=>?_) (fun h1=>?_)
  ·have hp:0 < ns.length:=by have:(0:Int) < (ns.length:Int):=of_decide_eq_true h1; omega
   have hb:=Int.emod_lt_of_pos k (show (0:Int) < ns.length by omega)
   have ha:=Int.emod_nonneg k (show (ns.length:Int) ≠ 0 by omega)
   obtain ⟨j,hj⟩:=Int.eq_ofNat_of_zero_le ha
   have hjl:j < ns.length:=by omega
   refine ⟨ns,rfl,by show (0:Int) < (ns.length:Int); omega,ns,ns[j],rfl,by rw [hj]; exact atI_nat (List.getElem?_eq_getElem hjl),?_⟩
   refine ⟨ns,rfl,?_⟩
   refine ite2 (fun h3=>?_) (fun h3=>?_)
   ·refine ⟨⟨by decide,by decide,by decide⟩,ite2 (fun h4=>?_) (fun h4=>?_)⟩
    ·have h4:(10:Int) ^ 18 <= ns[j]:=of_decide_eq_true h4
     exact q _ _ _ (by omega) (by decide)
    ·exact ⟨by show (0:Int) < 999999937; decide,.inl ⟨by decide,by decide⟩,fin _ _⟩
   ·exact ⟨by show (0:Int) < 999999937; decide,.inl ⟨by decide,by decide⟩,fin _ _⟩
  ·refine ⟨ns,rfl,?_⟩
   refine ite2 (fun h3=>?_) (fun h3=>?_)
   ·exfalso
    have h3:k < (ns.length:Int):=of_decide_eq_true h3
    exact h1 (decide_eq_true (by omega))
   ·exact ⟨by show (0:Int) < 999999937; decide,.inl ⟨by decide,by decide⟩,fin _ _⟩
noncomputable def cDraw:Con:=fun args Q=>∃ (a b c m:Int),args = [.io (penD a b c),.fz (.int m)] /\ 0 <= a /\ 0 <= b /\ 0 <= c /\ 0 < m /\ m < 1000000 /\
 ∀ (r a' b' c':Int) (o:Ev),0 <= r -> r < m -> 0 <= a' -> 0 <= b' -> 0 <= c' -> Q (.fz (.int r)) (some (.io (penD a' b' c')) :: o)
theorem scDraw:FnScope ["_law_pen_here","_law_many","_law_found","_law_number_here"] ["_law_pen_here","_law_many"] (defScope (top 35)):=⟨rfl,rfl,rfl,by decide +kernel,rfl,by decide +kernel,by decide +kernel⟩
theorem ok_draw {f:Addr} {fd:FuncData} (F:Fun K "_law_draw" "_law_draw" (top 35) f fd):FnOk P w K mg base CX0 1 f fd ["_law_pen_here","_law_many"] (conSp K cDraw):=by
 have S:=scDraw
 refine wfn F S (fun cdv A outer s H E hr=>(s_cons (s_if (t_cmp ok_gt op_gt (wx (w_ix rfl (wn 0) (wx w_int))) (wx w_int)) (s_cons (s_set (i:=2) S.nd rfl (Or.inl rfl) (w_bin ok_mod op_mod (wx (w_ix rfl (wn 0) (wx w_int))) (wn 1)))
     (s_cons (s_ix (w_bin ok_fdiv op_fdiv (wx (w_ix rfl (wn 0) (wx w_int))) (wn 1)) (wn 0) (wx w_int))
     (s_one (s_retV (wn 2))))) s_nil)
     (s_cons (s_ix (w_bin ok_add op_addD (wx (w_ix rfl (wn 0) (wx w_int))) (wx w_int)) (wn 0) (wx w_int))
     (s_cons (s_set (i:=3) S.nd rfl (Or.inl rfl) (w_bin ok_mod op_mod (wx (w_bin ok_add op_addD (wx (w_bin ok_add op_addD (wx (w_bin ok_mul op_mulD (wx (w_ix rfl (wn 0) (wx w_int))) (wx w_int))) (wx (w_bin ok_mul op_mulD (wx (w_ix rfl (wn 0) (wx w_int))) (wx w_int))))) (wx w_int))) (wx w_int)))
     (s_cons (s_set (i:=3) S.nd rfl (Or.inl rfl) (w_bin ok_mod op_mod (wx (w_bin ok_mul op_mulD (wn 3) (wx (w_bin ok_add op_addD (wx (w_bin ok_mod op_mod (wn 3) (wx w_int))) (wx (w_ix rfl (wn 0) (wx w_int))))))) (wx w_int)))
     (s_one (s_ret (w_bin ok_mod op_mod (wx (w_bin ok_fdiv op_fdiv (wn 3) (wx w_int))) (wn 1))))))))) ?_ ?_
 ·rintro args Qd ⟨a,b,c,m,rfl,_⟩; rfl
 ·rintro args Qd ⟨a,b,c,m,rfl,ha,hb,hc,m0,m1,q⟩
  have hmd:∀ x:Int,0 <= x % m /\ x % m < m:=fun x=>⟨Int.emod_nonneg _ (by omega),Int.emod_lt_of_pos _ m0⟩
  refine ⟨noOw_of rfl,?_⟩
  refine ⟨_,rfl,?_⟩
  refine ite2 (fun h1=>?_) (fun h1=>?_)
  ·refine ⟨_,rfl,m0,_,rfl,⟨m0,by omega⟩,0,rfl,?_⟩
   exact q _ _ _ _ _ (hmd _).1 (hmd _).2 (Int.ediv_nonneg ha (by omega)) hb hc
  refine ⟨_,rfl,2,rfl,?_⟩
  refine ⟨_,rfl,.inr ⟨by decide,by decide⟩,_,rfl,.inr ⟨by decide,by decide⟩,by show (0:Int) < 2147483647; decide,?_⟩
  have hx:∀ x:Int,0 <= x % 2147483647 /\ x % 2147483647 < 2147483647:=fun x=>⟨Int.emod_nonneg _ (by decide),Int.emod_lt_of_pos _ (by decide)⟩
  generalize ey:(b * 48271 + (c + 1) * 39373 + 11:Int) % 2147483647 = y
  have hy:=hx (b * 48271 + (c + 1) * 39373 + 11)
  rw [ey] at hy
  refine ⟨by show (0:Int) < 65521; decide,_,rfl,.inl ⟨by omega,by omega⟩,by show (0:Int) < 2147483629; decide,?_⟩
  exact ⟨⟨by decide,by decide⟩,m0,q _ _ _ _ _ (hmd _).1 (hmd _).2 ha hb (by omega)⟩
noncomputable def Big (c:Int):Prop:=-(10 ^ 27) < c /\ c < 10 ^ 27
structure CalsN (P:Program) (w:World) (K:PySem.W.Frag) (mg:Str -> Option Value) (base:Heap):Prop where
 law_draw:Cal P w K mg base 1 "_law_draw" ["_law_pen_here","_law_many"] (conSp K cDraw)
noncomputable def cNumber:Con:=fun args Q=>∃ (a b c:Int),args = [.io (penD a b c)] /\ 0 <= a /\ 0 <= b /\ 0 <= c /\
 ∀ (r a' b' c':Int) (o:Ev),Big r -> 0 <= a' -> 0 <= b' -> 0 <= c' -> Q (.fz (.int r)) (some (.io (penD a' b' c')) :: o)
theorem scNumber:FnScope ["_law_pen_here","_law_way"] ["_law_pen_here"] (defScope (top 36)):=⟨rfl,rfl,rfl,by decide +kernel,rfl,by decide +kernel,by decide +kernel⟩
theorem ok_number {f:Addr} {fd:FuncData} (F:Fun K "_law_number" "_law_number" (top 36) f fd) (C:CalsN P w K mg base):FnOk P w K mg base CX0 2 f fd ["_law_pen_here"] (conSp K cNumber):=by
 have S:=scNumber
 refine wfn F S (fun cdv A outer s H E hr=>(s_cons (s_set (i:=1) S.nd rfl (Or.inl rfl) (w_fnI C.law_draw (hr.mono (by first | decide | omega)) (wa_cons (wn 0) (wa_cons (wx w_int) wa_nil))))
     (s_cons (s_if (t_cmp ok_eq (op_eqE (K:=K) rfl hr.units) (wn 1) (wx w_int)) (s_one (s_ret (w_bin ok_mul op_mulD (wx (w_bin ok_add op_addD (wx (w_bin ok_pow op_pow (wx w_int) (wx w_int))) (wx (w_fnI C.law_draw (hr.mono (by first | decide | omega)) (wa_cons (wn 0) (wa_cons (wx w_int) wa_nil)))))) (wx (w_bin ok_sub op_sub (wx w_int) (wx (w_bin ok_mul op_mulD (wx w_int) (wx (w_fnI C.law_draw (hr.mono (by first | decide | omega)) (wa_cons (wn 0) (wa_cons (wx w_int) wa_nil))))))))))) s_nil)
     (s_cons (s_if (t_cmp ok_gt op_gt (wn 1) (wx w_int)) (s_one (s_ret (w_bin ok_sub op_sub (wx (w_fnI C.law_draw (hr.mono (by first | decide | omega)) (wa_cons (wn 0) (wa_cons (wx w_int) wa_nil)))) (wx w_int)))) s_nil)
     (s_one (s_ret (w_bin ok_sub op_sub (wx (w_fnI C.law_draw (hr.mono (by first | decide | omega)) (wa_cons (wn 0) (wa_cons (wx w_int) wa_nil)))) (wx w_int)))))))) ?_ ?_
 ·rintro args Qd ⟨a,b,c,rfl,_⟩; rfl
 ·rintro args Qd ⟨a,b,c,rfl,ha,hb,hc,q⟩
  refine ⟨noOw_of rfl,?_⟩
  refine ⟨a,b,c,_,rfl,ha,hb,hc,by decide,by decide,fun r a1 b1 c1 _ r0 r1 ha1 hb1 hc1=>?_⟩
  refine ite2 (fun h1=>?_) (fun h1=>?_)
  ·refine ⟨⟨by decide,by decide,by decide⟩,?_⟩
   refine ⟨a1,b1,c1,_,rfl,ha1,hb1,hc1,by decide,by decide,fun u a2 b2 c2 _ u0 u1 ha2 hb2 hc2=>?_⟩
   refine ⟨a2,b2,c2,_,rfl,ha2,hb2,hc2,by decide,by decide,fun v a3 b3 c3 _ v0 v1 ha3 hb3 hc3=>?_⟩
   refine ⟨.inl ⟨by decide,by decide⟩,.inr ⟨by omega,by omega⟩,?_⟩
   refine q _ _ _ _ _ ?_ ha3 hb3 hc3
   show Big ((10 ^ 26 + u) * (1 - 2 * v))
   have:v = 0 \/ v = 1:=by omega
   rcases this with rfl | rfl
   ·exact ⟨by omega,by omega⟩
   ·exact ⟨by omega,by omega⟩
  refine ite2 (fun h2=>?_) (fun h2=>?_)
  ·refine ⟨a1,b1,c1,_,rfl,ha1,hb1,hc1,by decide,by decide,fun u a2 b2 c2 _ u0 u1 ha2 hb2 hc2=>?_⟩
   exact q _ _ _ _ _ ⟨by omega,by omega⟩ ha2 hb2 hc2
  ·refine ⟨a1,b1,c1,_,rfl,ha1,hb1,hc1,by decide,by decide,fun u a2 b2 c2 _ u0 u1 ha2 hb2 hc2=>?_⟩
   exact q _ _ _ _ _ ⟨by omega,by omega⟩ ha2 hb2 hc2
end
end R76
namespace R76
open PySem PySem.Spec L2 L3 PyProof.Rows
noncomputable abbrev Bxx:=List Int × List Int
noncomputable def prodI:List Int -> Int
 | []=>1
 | a :: r=>a * prodI r
theorem prodI_pos:∀ {l:List Int},(∀ c ∈ l,1 <= c) -> 1 <= prodI l
 | [],_=>Int.le_refl _
 | a :: r,h=>by
  have h1:=h a List.mem_cons_self
  have h2:=prodI_pos (l:=r) fun c hc=>h c (List.mem_cons_of_mem _ hc)
  show 1 <= a * prodI r
  have:=Int.mul_le_mul h1 h2 (by decide) (by omega)
  omega
theorem prodI_append (l r:List Int):prodI (l ++ r) = prodI l * prodI r:=by
 induction l with
 | nil=>show prodI r = 1 * prodI r; rw [Int.one_mul]
 | cons a l ih=>show a * prodI (l ++ r) = a * prodI l * prodI r; rw [ih,Int.mul_assoc]
structure Sd (sd:List Int):Prop where
 l1:1 <= sd.length
 l3:sd.length <= 3
 p:∀ c ∈ sd,1 <= c
 m:prodI sd <= 120
noncomputable abbrev tupD (p:List Int):PyData:=.tuple (p.map PyData.int)
noncomputable def eachA {α:Type} (acc:List (List α)):List (List α) -> List (List α)
 | []=>acc
 | c :: cs=>eachA (acc.flatMap fun p=>c.map fun x=>p ++ [x]) cs
noncomputable def lenP {α:Type}:List (List α) -> Nat
 | []=>1
 | c :: cs=>c.length * lenP cs
theorem flat_len {α:Type} (c:List α):∀ acc:List (List α),(acc.flatMap fun p=>c.map fun x=>p ++ [x]).length = acc.length * c.length
 | []=>by simp
 | p :: acc=>by rw [List.flatMap_cons,List.length_append,flat_len c acc,List.length_map,List.length_cons,Nat.succ_mul,Nat.add_comm]
theorem eachA_len {α:Type}:∀ (cs acc:List (List α)),(eachA acc cs).length = acc.length * lenP cs
 | [],acc=>by simp [eachA,lenP]
 | c :: cs,acc=>by rw [eachA,eachA_len cs,flat_len,lenP,Nat.mul_assoc]
noncomputable def rng (s:Int):List Int:=(List.range s.toNat).map fun (n:Nat)=>(n:Int)
theorem rangeD_rng (s:Int):rangeD 0 s.toNat = (rng s).map PyData.int:=by simp [rangeD,rng,List.map_map,Function.comp_def]
theorem rng_len (s:Int):(rng s).length = s.toNat:=by simp [rng]
noncomputable def plc (sd:List Int):List (List Int):=eachA [[]] (sd.map rng)
theorem lenP_rng:∀ {sd:List Int},(∀ c ∈ sd,1 <= c) -> (lenP (sd.map rng):Int) = prodI sd
 | [],_=>rfl
 | a :: r,h=>by
  have h1:=h a List.mem_cons_self
  have h2:=lenP_rng (sd:=r) fun c hc=>h c (List.mem_cons_of_mem _ hc)
  show ((((rng a).length * lenP (r.map rng):Nat)):Int) = a * prodI r
  rw [rng_len,Int.natCast_mul,h2]
  congr 1
  omega
theorem zipD_ints (a b:List Int):zipD (a.map PyData.int) (b.map PyData.int) = (a.zip b).map fun p=>PyData.tuple [.int p.1,.int p.2]:=by
 rw [zipD,List.zip_map,List.map_map]; rfl
noncomputable def rng2 (a b:Int):List Int:=(List.range (b + 1 - a).toNat).map fun (n:Nat)=>a + (n:Int)
theorem rangeD_rng2 (a b:Int):rangeD a (b + 1 - a).toNat = (rng2 a b).map PyData.int:=by simp [rangeD,rng2,List.map_map,Function.comp_def]
theorem rng2_zero (s:Int):rng2 0 (s - 1) = rng s:=by
 unfold rng2 rng
 rw [show s - 1 + 1 - 0 = s by omega]
 simp
noncomputable def btw (low high:List Int):List (List Int):=eachA [[]] ((low.zip high).map fun p=>rng2 p.1 p.2)
theorem le_prodI:∀ {sd:List Int},(∀ c ∈ sd,1 <= c) -> ∀ c ∈ sd,c <= prodI sd
 | a :: r,h,c,hc=>by
  have h1:=h a List.mem_cons_self
  have hr:∀ c ∈ r,1 <= c:=fun c hc=>h c (List.mem_cons_of_mem _ hc)
  have h2:=prodI_pos hr
  show c <= a * prodI r
  rcases List.mem_cons.mp hc with rfl | hc
  ·have:=Int.mul_le_mul_of_nonneg_left h2 (show (0:Int) <= c by omega); omega
  ·have h3:=le_prodI hr c hc
   have:=Int.mul_le_mul_of_nonneg_right h1 (show (0:Int) <= prodI r by omega); omega
noncomputable def idx (sd pl:List Int):Int:=(sd.zip pl).foldl (fun i p=>i * p.1 + p.2) 0
noncomputable def InW {α:Type}:List α -> List (List α) -> Prop
 | [],[]=>True
 | x :: xs,c :: cs=>x ∈ c /\ InW xs cs
 | _,_=>False
theorem each_mem {α:Type}:∀ {cs acc:List (List α)} {p:List α},p ∈ eachA acc cs -> ∃ a ∈ acc,∃ q,p = a ++ q /\ InW q cs
 | [],acc,p,h=>⟨p,h,[],by simp,trivial⟩
 | c :: cs,acc,p,h=>by
  obtain ⟨a',ha',q,rfl,hq⟩:=each_mem (cs:=cs) h
  obtain ⟨a,ha,hb⟩:=List.mem_flatMap.mp ha'
  obtain ⟨x,hx,rfl⟩:=List.mem_map.mp hb
  exact ⟨a,ha,x :: q,by simp,hx,hq⟩
theorem each_mem0 {α:Type} {cs:List (List α)} {p:List α} (h:p ∈ eachA [[]] cs):InW p cs:=by
 obtain ⟨a,ha,q,rfl,hq⟩:=each_mem h
 simp at ha
 subst ha
 exact hq
theorem mem_rng {x s:Int} (h:x ∈ rng s):0 <= x /\ x < s:=by
 unfold rng at h
 obtain ⟨n,hn,rfl⟩:=List.mem_map.mp h
 have:=List.mem_range.mp hn
 omega
noncomputable def Wi:List Int -> List Int -> Prop
 | [],[]=>True
 | x :: xs,s :: ss=>(0 <= x /\ x < s) /\ Wi xs ss
 | _,_=>False
theorem plc_wi {sd p:List Int} (hm:p ∈ plc sd):Wi p sd:=by
 have h:=each_mem0 hm
 clear hm
 induction sd generalizing p with
 | nil=>cases p with
  | nil=>trivial
  | cons _ _=>exact h.elim
 | cons s ss ih=>cases p with
  | nil=>exact h.elim
  | cons x xs=>exact ⟨mem_rng h.1,ih h.2⟩
theorem plc_len {sd:List Int} (hp:∀ c ∈ sd,1 <= c):((plc sd).length:Int) = prodI sd:=by
 rw [plc,eachA_len,<- lenP_rng hp]
 simp
theorem wi_len:∀ {p sd:List Int},Wi p sd -> p.length = sd.length
 | [],[],_=>rfl
 | [],_ :: _,h=>h.elim
 | _ :: _,[],h=>h.elim
 | _ :: _,_ :: _,h=>by simp [wi_len h.2]
theorem idx_b:∀ {sd pl:List Int} {i m:Int},Wi pl sd -> 0 <= i -> i < m -> 0 <= (sd.zip pl).foldl (fun i p=>i * p.1 + p.2) i /\ (sd.zip pl).foldl (fun i p=>i * p.1 + p.2) i < m * prodI sd
 | [],[],i,m,_,h0,h1=>by simp [prodI]; omega
 | [],_ :: _,_,_,h,_,_=>h.elim
 | _ :: _,[],_,_,h,_,_=>h.elim
 | s :: ss,x :: xs,i,m,h,h0,h1=>by
  have hx:=h.1
  have hs:0 <= s:=by omega
  have e1:0 <= i * s:=Int.mul_nonneg h0 hs
  have e2:i * s <= (m - 1) * s:=Int.mul_le_mul_of_nonneg_right (by omega) hs
  rw [Int.sub_mul,Int.one_mul] at e2
  have:=idx_b (sd:=ss) (pl:=xs) (i:=i * s + x) (m:=m * s) h.2 (by omega) (by omega)
  rw [Int.mul_assoc] at this
  exact this
theorem rng_at {s:Int} {j:Nat} {x:Int} (h:(rng s)[j]? = some x):x = j /\ (j:Int) < s:=by
 unfold rng at h
 rw [List.getElem?_map,Option.map_eq_some_iff] at h
 obtain ⟨n,hn,rfl⟩:=h
 rw [List.getElem?_eq_some_iff] at hn
 obtain ⟨h1,h2⟩:=hn
 simp at h1 h2
 omega
theorem flat_at {s:Int} (hs:1 <= s):∀ {acc:List (List Int)} {j':Nat} {a':List Int},(acc.flatMap fun p=>(rng s).map fun x=>p ++ [x])[j']? = some a' ->
  ∃ (j:Nat) (a:List Int) (x:Int),acc[j]? = some a /\ a' = a ++ [x] /\ (0 <= x /\ x < s) /\ (j':Int) = j * s + x
 | [],j',a',h=>by simp at h
 | a :: acc,j',a',h=>by
  rw [List.flatMap_cons] at h
  rcases Nat.lt_or_ge j' ((rng s).map fun x=>a ++ [x]).length with g | g
  ·rw [List.getElem?_append_left g,List.getElem?_map,Option.map_eq_some_iff] at h
   obtain ⟨x,hx,rfl⟩:=h
   obtain ⟨rfl,h2⟩:=rng_at hx
   exact ⟨0,a,_,rfl,rfl,⟨by omega,h2⟩,by simp⟩
  ·rw [List.getElem?_append_right g] at h
   obtain ⟨j,b,x,h1,h2,h3,h4⟩:=flat_at hs h
   rw [List.length_map,rng_len] at g h4
   refine ⟨j + 1,b,x,h1,h2,h3,?_⟩
   rw [show ((j + 1:Nat):Int) = (j:Int) + 1 by omega,Int.add_mul,Int.one_mul]
   omega
theorem each_at:∀ {sd:List Int} {acc:List (List Int)} {k:Nat} {p:List Int},(∀ c ∈ sd,1 <= c) -> (eachA acc (sd.map rng))[k]? = some p ->
  ∃ (j:Nat) (a q:List Int),acc[j]? = some a /\ p = a ++ q /\ Wi q sd /\ (sd.zip q).foldl (fun i p=>i * p.1 + p.2) (j:Int) = k
 | [],acc,k,p,_,h=>⟨k,p,[],h,by simp,trivial,rfl⟩
 | s :: ss,acc,k,p,hp,h=>by
  obtain ⟨j',a',q',h1,h2,h3,h4⟩:=each_at (sd:=ss) (fun c hc=>hp c (List.mem_cons_of_mem _ hc)) h
  obtain ⟨j,a,x,g1,g2,g3,g4⟩:=flat_at (hp s List.mem_cons_self) h1
  refine ⟨j,a,x :: q',g1,by rw [h2,g2]; simp,⟨g3,h3⟩,?_⟩
  rw [g4] at h4
  exact h4
theorem plc_at {sd:List Int} (hp:∀ c ∈ sd,1 <= c) {k:Nat} {p:List Int} (h:(plc sd)[k]? = some p):Wi p sd /\ idx sd p = k:=by
 obtain ⟨j,a,q,h1,h2,h3,h4⟩:=each_at hp h
 have hj:j = 0:=by
  rcases j with _ | j
  ·rfl
  ·simp at h1
 subst hj
 simp at h1
 subst h1
 simp at h2
 subst h2
 exact ⟨h3,h4⟩
theorem at_ints {xs:List Int} {i:Nat} (h:i < xs.length):atI (xs.map PyData.int) (i:Int) = some (.int (xs.getD i 0)):=by
 refine atI_nat ?_
 rw [List.getElem?_map,List.getElem?_eq_getElem h,List.getD_eq_getElem?_getD,List.getElem?_eq_getElem h]
 rfl
theorem lex_app:∀ {a b:List Int} (x y:Int),a.length = b.length -> HT.lexLt a b = true -> HT.lexLt (a ++ [x]) (b ++ [y]) = true
 | [],[],x,y,_,h=>by cases h
 | [],_ :: _,x,y,e,_=>by simp at e
 | _ :: _,[],x,y,e,_=>by simp at e
 | u :: a,v :: b,x,y,e,h=>by
  rw [List.cons_append,List.cons_append,HT.lexLt_cons]
  rw [HT.lexLt_cons] at h
  by_cases q:u = v
  ·rw [if_pos q] at h ⊢
   exact lex_app x y (by simpa using e) h
  ·rw [if_neg q] at h ⊢
   exact h
theorem lex_end:∀ (a:List Int) {x y:Int},x < y -> HT.lexLt (a ++ [x]) (a ++ [y]) = true
 | [],x,y,h=>by
  show HT.lexLt [x] [y] = true
  rw [HT.lexLt_cons,if_neg (by omega)]
  exact decide_eq_true h
 | u :: a,x,y,h=>by
  rw [List.cons_append,List.cons_append,HT.lexLt_cons,if_pos rfl]
  exact lex_end a h
theorem eachA_sorted:∀ {cs acc:List (List Int)} {n:Nat},acc.Pairwise (fun a b=>HT.lexLt a b = true) -> (∀ p ∈ acc,p.length = n) -> (∀ c ∈ cs,c.Pairwise (· < ·)) -> (eachA acc cs).Pairwise (fun a b=>HT.lexLt a b = true)
 | [],_,_,h,_,_=>h
 | c :: cs,acc,n,h,hn,hc=>by
  refine eachA_sorted (cs:=cs) (n:=n + 1) ?_ ?_ fun d hd=>hc d (List.mem_cons_of_mem _ hd)
  ·rw [List.pairwise_flatMap]
   refine ⟨fun p hp=>?_,?_⟩
   ·rw [List.pairwise_map]
    exact (hc c List.mem_cons_self).imp fun h=>lex_end p h
   ·refine List.Pairwise.imp_of_mem (fun {a b} ha hb h=>?_) h
    intro x hx y hy
    obtain ⟨u,_,rfl⟩:=List.mem_map.mp hx
    obtain ⟨v,_,rfl⟩:=List.mem_map.mp hy
    exact lex_app u v (by rw [hn a ha,hn b hb]) h
  ·intro p hp
   obtain ⟨q,hq,hx⟩:=List.mem_flatMap.mp hp
   obtain ⟨x,_,rfl⟩:=List.mem_map.mp hx
   rw [List.length_append,hn q hq]
   rfl
theorem rng2_lt (a b:Int):(rng2 a b).Pairwise (· < ·):=by
 unfold rng2
 rw [List.pairwise_map]
 exact List.pairwise_lt_range.imp fun h=>by omega
theorem btw_sorted (lo hi:List Int):(btw lo hi).Pairwise (fun a b=>HT.lexLt b a = false):=by
 have h:=eachA_sorted (cs:=(lo.zip hi).map fun p=>rng2 p.1 p.2) (acc:=[[]]) (n:=0) (List.pairwise_singleton _ _) (by simp) fun c hc=>by
  obtain ⟨p,_,rfl⟩:=List.mem_map.mp hc
  exact rng2_lt _ _
 refine List.Pairwise.imp (fun {a b} h=>?_) h
 cases e:HT.lexLt b a
 ·rfl
 ·have:=SG.lex_wk.tr a b a h e
  rw [SG.lex_wk.irr] at this
  cases this
theorem rng2_len (a b:Int):(rng2 a b).length = (b + 1 - a).toNat:=by simp [rng2]
theorem each_in2 {α:Type}:∀ {cs acc:List (List α)} {a q:List α},a ∈ acc -> InW q cs -> a ++ q ∈ eachA acc cs
 | [],acc,a,[],ha,_=>by simpa [eachA] using ha
 | [],_,_,_ :: _,_,h=>h.elim
 | _ :: _,_,_,[],_,h=>h.elim
 | c :: cs,acc,a,x :: q,ha,h=>by
  have:=each_in2 (cs:=cs) (acc:=acc.flatMap fun p=>c.map fun x=>p ++ [x]) (a:=a ++ [x]) (q:=q) (List.mem_flatMap.mpr ⟨a,ha,List.mem_map.mpr ⟨x,h.1,rfl⟩⟩) h.2
  simpa [eachA] using this
theorem rng_mem {x s:Int} (h0:0 <= x) (h1:x < s):x ∈ rng s:=List.mem_map.mpr ⟨x.toNat,List.mem_range.mpr (by omega),by omega⟩
theorem wi_inW:∀ {p sd:List Int},Wi p sd -> InW p (sd.map rng)
 | [],[],_=>trivial
 | [],_ :: _,h=>h.elim
 | _ :: _,[],h=>h.elim
 | x :: p,s :: sd,h=>⟨rng_mem h.1.1 h.1.2,wi_inW h.2⟩
theorem wi_mem {p sd:List Int} (h:Wi p sd):p ∈ plc sd:=each_in2 (a:=[]) (by simp) (wi_inW h)
noncomputable abbrev fldD (sd cl:List Int):PyData:=.tuple [tupD sd,tupD cl]
noncomputable def cel (sd cl p:List Int):Int:=cl.getD (idx sd p).toNat 0
mutual
noncomputable def okD:PyData -> Bool
 | .dict es=>notScr es
 | .list xs=>okAll xs
 | .tuple xs=>okAll xs
 | .none=>true
 | .bool _=>true
 | .int _=>true
 | .str _=>true
noncomputable def okAll:List PyData -> Bool
 | []=>true
 | x :: xs=>okD x && okAll xs
end
theorem okAll_mem:∀ {xs:List PyData},okAll xs = true -> ∀ d ∈ xs,okD d = true
 | [],_,d,h=>by simp at h
 | x :: xs,h,d,hd=>by
  simp [okAll] at h
  rcases List.mem_cons.mp hd with rfl | hd
  ·exact h.1
  ·exact okAll_mem h.2 d hd
theorem okAll_of:∀ {xs:List PyData},(∀ d ∈ xs,okD d = true) -> okAll xs = true
 | [],_=>rfl
 | x :: xs,h=>by
  simp [okAll]
  exact ⟨h x List.mem_cons_self,okAll_of fun d hd=>h d (List.mem_cons_of_mem _ hd)⟩
noncomputable def isI:PyData -> Bool
 | .int _=>true
 | _=>false
noncomputable def num1 (s:Int):PyData -> Bool
 | .int i=>decide (0 <= i) && decide (i < s)
 | _=>false
noncomputable def okZ:List PyData -> List Int -> Bool
 | d :: ds,s :: sd=>num1 s d && okZ ds sd
 | _,_=>true
noncomputable def isPl (sd:List Int):PyData -> Bool
 | .tuple ds=>decide (ds.length = sd.length) && okZ ds sd
 | _=>false
noncomputable def unI:PyData -> Int
 | .int i=>i
 | _=>0
noncomputable def areW (n:Nat):PyData -> Bool
 | .tuple ds=>decide (ds.length = n) && ds.all isI
 | _=>false
noncomputable def Bx:List Int -> List Int -> List Int -> Prop
 | [],[],[]=>True
 | x :: lo,y :: hi,s :: sd=>(0 <= x /\ x <= y /\ y < s) /\ Bx lo hi sd
 | _,_,_=>False
theorem bx_len:∀ {lo hi sd:List Int},Bx lo hi sd -> lo.length = sd.length /\ hi.length = sd.length
 | [],[],[],_=>⟨rfl,rfl⟩
 | x :: lo,y :: hi,s :: sd,h=>by
  have:=bx_len h.2
  simp [this.1,this.2]
 | [],[],_ :: _,h=>h.elim
 | [],_ :: _,z,h=>by cases z <;> exact h.elim
 | _ :: _,[],z,h=>by cases z <;> exact h.elim
 | _ :: _,_ :: _,[],h=>h.elim
theorem okD_tup (p:List Int):okD (tupD p) = true:=okAll_of fun d hd=>by
 obtain ⟨i,_,rfl⟩:=List.mem_map.mp hd; rfl
theorem bx_snoc:∀ {lo hi sd:List Int} {x y s:Int},Bx lo hi sd -> 0 <= x -> x <= y -> y < s -> Bx (lo ++ [x]) (hi ++ [y]) (sd ++ [s])
 | [],[],[],_,_,_,_,h1,h2,h3=>⟨⟨h1,h2,h3⟩,trivial⟩
 | a :: lo,b :: hi,c :: sd,_,_,_,h,h1,h2,h3=>⟨h.1,bx_snoc h.2 h1 h2 h3⟩
 | [],[],_ :: _,_,_,_,h,_,_,_=>h.elim
 | [],_ :: _,z,_,_,_,h,_,_,_=>by cases z <;> exact h.elim
 | _ :: _,[],z,_,_,_,h,_,_,_=>by cases z <;> exact h.elim
 | _ :: _,_ :: _,[],_,_,_,h,_,_,_=>h.elim
theorem mem_rng2 {a b x:Int} (h:x ∈ rng2 a b):a <= x /\ x <= b:=by
 unfold rng2 at h
 obtain ⟨n,hn,rfl⟩:=List.mem_map.mp h
 have:=List.mem_range.mp hn
 omega
theorem bx_inW:∀ {lo hi sd p:List Int},Bx lo hi sd -> InW p ((lo.zip hi).map fun q=>rng2 q.1 q.2) -> Wi p sd
 | [],[],[],[],_,_=>trivial
 | [],[],[],_ :: _,_,h=>h.elim
 | x :: lo,y :: hi,s :: sd,[],_,h=>h.elim
 | x :: lo,y :: hi,s :: sd,z :: p,h,k=>by
  have:=mem_rng2 k.1
  have hx:=h.1
  simp only at this
  exact ⟨by omega,bx_inW h.2 k.2⟩
 | [],[],_ :: _,_,h,_=>h.elim
 | [],_ :: _,z,_,h,_=>by cases z <;> exact h.elim
 | _ :: _,[],z,_,h,_=>by cases z <;> exact h.elim
 | _ :: _,_ :: _,[],_,h,_=>h.elim
theorem btw_wi {lo hi sd p:List Int} (h:Bx lo hi sd) (hp:p ∈ btw lo hi):Wi p sd:=bx_inW h (each_mem0 hp)
theorem bx_pair:∀ {lo hi sd:List Int},Bx lo hi sd -> ∀ p ∈ lo.zip hi,0 <= p.1 /\ p.1 <= p.2 /\ ∃ s ∈ sd,p.2 < s
 | [],[],[],_,p,hp=>by simp at hp
 | x :: lo,y :: hi,s :: sd,h,p,hp=>by
  rw [List.zip_cons_cons] at hp
  rcases List.mem_cons.mp hp with rfl | hp
  ·exact ⟨h.1.1,h.1.2.1,s,List.mem_cons_self,h.1.2.2⟩
  ·obtain ⟨h1,h2,t,ht,h3⟩:=bx_pair h.2 p hp
   exact ⟨h1,h2,t,List.mem_cons_of_mem _ ht,h3⟩
 | [],[],_ :: _,h,_,_=>h.elim
 | [],_ :: _,z,h,_,_=>by cases z <;> exact h.elim
 | _ :: _,[],z,h,_,_=>by cases z <;> exact h.elim
 | _ :: _,_ :: _,[],h,_,_=>h.elim
theorem bx_lenP:∀ {lo hi sd:List Int},Bx lo hi sd -> (lenP ((lo.zip hi).map fun q=>rng2 q.1 q.2):Int) <= prodI sd /\ 1 <= prodI sd
 | [],[],[],_=>by simp [lenP,prodI]
 | x :: lo,y :: hi,s :: sd,h=>by
  obtain ⟨h1,h2⟩:=bx_lenP h.2
  have hx:=h.1
  show (((rng2 x y).length * lenP ((lo.zip hi).map fun q=>rng2 q.1 q.2):Nat):Int) <= s * prodI sd /\ 1 <= s * prodI sd
  rw [rng2_len,Int.natCast_mul]
  refine ⟨Int.mul_le_mul (by omega) h1 (Int.natCast_nonneg _) (by omega),?_⟩
  have:=Int.mul_le_mul (show (1:Int) <= s by omega) h2 (by decide) (by omega)
  omega
 | [],[],_ :: _,h=>h.elim
 | [],_ :: _,z,h=>by cases z <;> exact h.elim
 | _ :: _,[],z,h=>by cases z <;> exact h.elim
 | _ :: _,_ :: _,[],h=>h.elim
theorem eachA_snoc {α:Type} (c:List α):∀ (cs acc:List (List α)),eachA acc (cs ++ [c]) = (eachA acc cs).flatMap fun p=>c.map fun x=>p ++ [x]
 | [],acc=>rfl
 | d :: cs,acc=>eachA_snoc c cs _
theorem idx_nn {sd p:List Int} (h:Wi p sd):0 <= idx sd p /\ idx sd p < prodI sd:=by
 have:=idx_b h (Int.le_refl 0) (by decide:(0:Int) < 1)
 rw [Int.one_mul] at this
 exact this
noncomputable def cels (sd cl lo hi:List Int):List Int:=(btw lo hi).map (cel sd cl)
theorem plc_nodup {sd:List Int} (hp:∀ c ∈ sd,1 <= c):(plc sd).Nodup:=by
 rw [List.nodup_iff_pairwise_ne,List.pairwise_iff_getElem]
 intro i j hi hj hij e
 have h1:=plc_at hp (k:=i) (p:=(plc sd)[i]) (by simp [hi])
 have h2:=plc_at hp (k:=j) (p:=(plc sd)[j]) (by simp [hj])
 rw [e] at h1
 have:=h1.2.symm.trans h2.2
 omega
theorem lex_no {a b:List Int} (h:HT.lexLt a b = true):HT.lexLt b a = false:=by
 cases e:HT.lexLt b a
 ·rfl
 ·have:=SG.lex_wk.tr a b a h e
  rw [SG.lex_wk.irr] at this
  cases this
theorem plc_sorted (sd:List Int):(plc sd).Pairwise (fun a b=>HT.lexLt b a = false):=by
 have h:=eachA_sorted (cs:=sd.map rng) (acc:=[[]]) (n:=0) (List.pairwise_singleton _ _) (by simp) fun c hc=>by
  obtain ⟨s,_,rfl⟩:=List.mem_map.mp hc
  rw [<- rng2_zero]
  exact rng2_lt _ _
 exact h.imp lex_no
theorem lt_nodup {l:List (List Int)} (h:l.Pairwise (fun a b=>HT.lexLt a b = true)):l.Nodup:=h.imp fun {a b} z e=>by
 rw [e,SG.lex_wk.irr] at z
 cases z
theorem btw_nodup (lo hi:List Int):(btw lo hi).Nodup:=by
 unfold btw
 exact lt_nodup (eachA_sorted (cs:=(lo.zip hi).map fun p=>rng2 p.1 p.2) (acc:=[[]]) (n:=0) (List.pairwise_singleton _ _) (by simp) fun c hc=>by
   obtain ⟨p,_,rfl⟩:=List.mem_map.mp hc
   exact rng2_lt _ _)
noncomputable def inB:List Int -> List Int -> List Int -> Bool
 | a :: lo,x :: p,b :: hi=>(decide (a <= x) && decide (x <= b)) && inB lo p hi
 | _,_,_=>true
theorem rng2_mem {a b x:Int}:x ∈ rng2 a b ↔ a <= x /\ x <= b:=by
 refine ⟨mem_rng2,fun h=>?_⟩
 unfold rng2
 exact List.mem_map.mpr ⟨(x - a).toNat,List.mem_range.mpr (by omega),by omega⟩
theorem inB_inW:∀ {lo hi sd p:List Int},Bx lo hi sd -> p.length = sd.length -> inB lo p hi = true -> InW p ((lo.zip hi).map fun q=>rng2 q.1 q.2)
 | [],[],[],[],_,_,_=>trivial
 | a :: lo,b :: hi,s :: sd,x :: p,h,hl,hi'=>by
  have hi':((decide (a <= x) && decide (x <= b)) && inB lo p hi) = true:=hi'
  rw [Bool.and_eq_true,Bool.and_eq_true,decide_eq_true_eq,decide_eq_true_eq] at hi'
  exact ⟨rng2_mem.mpr hi'.1,inB_inW h.2 (by simpa using hl) hi'.2⟩
 | [],[],[],_ :: _,_,h,_=>by simp at h
 | _ :: _,_ :: _,_ :: _,[],_,h,_=>by simp at h
 | [],[],_ :: _,_,h,_,_=>h.elim
 | [],_ :: _,z,_,h,_,_=>by cases z <;> exact h.elim
 | _ :: _,[],z,_,h,_,_=>by cases z <;> exact h.elim
 | _ :: _,_ :: _,[],_,h,_,_=>h.elim
theorem inW_inB:∀ {lo hi p:List Int},lo.length = hi.length -> InW p ((lo.zip hi).map fun q=>rng2 q.1 q.2) -> inB lo p hi = true
 | [],_,_,_,_=>by simp [inB]
 | a :: lo,b :: hi,x :: p,hl,h=>by
  show ((decide (a <= x) && decide (x <= b)) && inB lo p hi) = true
  have h1:=rng2_mem.mp h.1
  rw [inW_inB (by simpa using hl) h.2,decide_eq_true h1.1,decide_eq_true h1.2]
  rfl
 | _ :: _,[],_,hl,_=>by simp at hl
 | _ :: _,_ :: _,[],_,h=>h.elim
theorem plc_in {lo hi sd:List Int} (h:Bx lo hi sd):(plc sd).filter (fun p=>inB lo p hi) = btw lo hi:=by
 have hl:=bx_len h
 have hp:∀ c ∈ sd,1 <= c:=by
  have gen:∀ {lo hi sd:List Int},Bx lo hi sd -> ∀ c ∈ sd,1 <= c:=by
   intro lo
   induction lo with
   | nil=>intro hi sd h c hc; cases hi <;> cases sd <;> first | exact h.elim | cases hc
   | cons a lo ih =>
    intro hi sd h c hc
    cases hi with
    | nil=>cases sd <;> exact h.elim
    | cons b hi =>
     cases sd with
     | nil=>exact h.elim
     | cons s sd =>
      rcases List.mem_cons.mp hc with z | z
      ·subst z; have:=h.1; omega
      ·exact ih h.2 c z
  exact gen h
 refine SG.sorted_uniq (lt:=HT.lexLt) (fun a b=>SG.lex_eq) ((List.perm_ext_iff_of_nodup ((plc_nodup hp).filter _) (btw_nodup lo hi)).mpr fun p=>?_) ((plc_sorted sd).filter _) (btw_sorted lo hi)
 rw [List.mem_filter]
 constructor
 ·rintro ⟨h1,h2⟩
  exact each_in2 (a:=[]) (by simp) (inB_inW h (wi_len (plc_wi h1)) h2)
 ·intro h1
  exact ⟨wi_mem (btw_wi h h1),inW_inB (by omega) (each_mem0 h1)⟩
noncomputable def bset (b:Bxx) (i:Nat) (p:Int × Int):Bxx:=(b.1.set i p.1,b.2.set i p.2)
theorem inB_split:∀ {lo hi x:List Int} {i:Nat} {a c m:Int},lo.length = x.length -> hi.length = x.length -> lo[i]? = some a -> hi[i]? = some c -> a <= m -> m < c ->
  (inB lo x hi = (inB (lo.set i a) x (hi.set i m) || inB (lo.set i (m + 1)) x (hi.set i c))) /\ ¬ (inB (lo.set i a) x (hi.set i m) = true /\ inB (lo.set i (m + 1)) x (hi.set i c) = true)
 | [],_,_,_,_,_,_,_,_,h,_,_,_=>by simp at h
 | l :: lo,h :: hi,y :: x,0,a,c,m,h1,h2,e1,e2,h3,h4=>by
  simp only [List.getElem?_cons_zero,Option.some.injEq] at e1 e2
  subst e1
  subst e2
  simp only [List.set_cons_zero,inB]
  cases inB lo x hi
  ·simp
  ·by_cases q1:l <= y <;> by_cases q2:y <= m <;> by_cases q3:m + 1 <= y <;> by_cases q4:y <= h <;> simp [q1,q2,q3,q4] <;> omega
 | l :: lo,h :: hi,y :: x,i + 1,a,c,m,h1,h2,e1,e2,h3,h4=>by
  simp only [List.getElem?_cons_succ] at e1 e2
  obtain ⟨g1,g2⟩:=inB_split (lo:=lo) (hi:=hi) (x:=x) (i:=i) (by simpa using h1) (by simpa using h2) e1 e2 h3 h4
  simp only [List.set_cons_succ,inB]
  rw [g1]
  constructor
  ·cases (decide (l <= y) && decide (y <= h)) <;> simp
  ·rintro ⟨z1,z2⟩
   rw [Bool.and_eq_true] at z1 z2
   exact g2 ⟨z1.2,z2.2⟩
 | _ :: _,[],_ :: _,_,_,_,_,_,h,_,_,_,_=>by simp at h
 | _ :: _,_,[],_,_,_,_,h,_,_,_,_,_=>by simp at h
theorem fil_two {α:Type} {p q r:α -> Bool}:∀ {l:List α},(∀ x ∈ l,p x = (q x || r x) /\ ¬ (q x = true /\ r x = true)) -> (l.filter p).Perm (l.filter q ++ l.filter r)
 | [],_=>List.Perm.refl _
 | x :: l,h=>by
  have ih:=fil_two (l:=l) fun y hy=>h y (List.mem_cons_of_mem _ hy)
  obtain ⟨h1,h2⟩:=h x List.mem_cons_self
  rw [List.filter_cons,List.filter_cons,List.filter_cons,h1]
  cases e1:q x with
  | true =>
   have e2:r x = false:=by cases e2:r x with | false=>rfl | true=>exact absurd ⟨e1,e2⟩ h2
   rw [e2]
   simpa using ih
  | false =>
   cases e2:r x with
   | false=>simpa using ih
   | true =>
    simp only [Bool.false_or,if_true,Bool.false_eq_true,if_false]
    exact (ih.cons x).trans List.perm_middle.symm
theorem cels_perm {sd cl:List Int} {b:Bxx} (hb:Bx b.1 b.2 sd) {i:Nat} {a c m:Int} (ha:b.1[i]? = some a) (hc:b.2[i]? = some c) (h1:a <= m) (h2:m < c) (hb1:Bx (bset b i (a,m)).1 (bset b i (a,m)).2 sd) (hb2:Bx (bset b i (m + 1,c)).1 (bset b i (m + 1,c)).2 sd) :
  (cels sd cl b.1 b.2).Perm (cels sd cl (bset b i (a,m)).1 (bset b i (a,m)).2 ++ cels sd cl (bset b i (m + 1,c)).1 (bset b i (m + 1,c)).2):=by
 unfold cels
 rw [<- List.map_append]
 refine List.Perm.map _ ?_
 rw [<- plc_in hb,<- plc_in hb1,<- plc_in hb2]
 refine fil_two fun x hx=>?_
 have hl:=wi_len (plc_wi hx)
 have hbl:=bx_len hb
 exact inB_split (by omega) (by omega) ha hc h1 h2
theorem perm_sum:∀ {l m:List Int},l.Perm m -> l.sum = m.sum:=fun h=>by
 induction h with
 | nil=>rfl
 | cons x _ ih=>rw [List.sum_cons,List.sum_cons,ih]
 | swap x y l=>rw [List.sum_cons,List.sum_cons,List.sum_cons,List.sum_cons]; omega
 | trans _ _ h1 h2=>rw [h1,h2]
theorem btw_self:∀ (lo acc:List Int),eachA [acc] ((lo.zip lo).map fun q=>rng2 q.1 q.2) = [acc ++ lo]
 | [],acc=>by simp [eachA]
 | a :: lo,acc=>by
  have e:rng2 a a = [a]:=by
   unfold rng2
   rw [show (a + 1 - a).toNat = 1 by omega]
   simp
  rw [List.zip_cons_cons,List.map_cons]
  show eachA ([acc].flatMap fun p=>(rng2 a a).map fun x=>p ++ [x]) _ = _
  rw [e]
  show eachA [acc ++ [a]] _ = _
  rw [btw_self lo (acc ++ [a])]
  simp
noncomputable abbrev boxD (b:Bxx):PyData:=.tuple [tupD b.1,tupD b.2]
end R76
namespace R76
open PySem PySem.Spec L2 L3 PyProof.Rows
theorem set_cut (p:List Int) {i:Nat} (h:i < p.length) (x:Int):p.take i ++ x :: p.drop (i + 1) = p.set i x:=by
 rw [List.set_eq_take_append_cons_drop,if_pos h]
theorem areW_ints (cl:List Int):areW cl.length (tupD cl) = true:=by
 have e:(cl.map PyData.int).all isI = true:=by
  rw [List.all_map]
  exact List.all_eq_true.mpr fun x _=>rfl
 show (decide ((cl.map PyData.int).length = cl.length) && (cl.map PyData.int).all isI) = true
 rw [e,List.length_map]
 simp
theorem all_tr:∀ l:List PyData,((l.map fun _=>true).all id) = true
 | []=>rfl
 | _ :: l=>by simp
theorem map_tr (l:List PyData):(l.map fun _=>PyData.bool true) = (l.map fun _=>true).map PyData.bool:=by rw [List.map_map]; rfl
noncomputable abbrev prD (p:Int × Int):PyData:=.tuple [.int p.1,.int p.2]
section
variable {P:Program} {w:World} {K:PySem.W.Frag} {mg:Str -> Option Value} {base:Heap}
noncomputable def cWhole:Con:=fun args Q=>∃ d,args = [.fz d] /\ okD d = true /\ ∀ o,Q (.fz (.bool (isI d))) o
theorem scWhole:FnScope ["thing"] ["thing"] (defScope (top 4)):=⟨rfl,rfl,rfl,by decide +kernel,rfl,by decide +kernel,by decide +kernel⟩
theorem ok_whole {f:Addr} {fd:FuncData} (F:Fun K "is_whole" "is_whole" (top 4) f fd) (T:Txt mg):FnOk P w K mg base CX0 1 f fd ["thing"] (conSp K cWhole):=by
 have S:=scWhole
 refine wfn F S (fun cdv A outer s H E hr=>(s_one (s_ret (w_and (w_isiA .int rfl T.isinstance_ T.int_ boot_int (wn 0)) (w_one (w_not (w_isiA .bl rfl T.isinstance_ T.bool_ boot_bool (wn 0)))))))) ?_ ?_
 ·rintro args Qd ⟨d,rfl,_⟩; rfl
 ·rintro args Qd ⟨d,rfl,hd,q⟩
  refine ⟨noOw_of rfl,?_⟩
  cases d with
  | dict es=>exact ⟨hd,q _⟩
  | int i=>exact q _
  | bool b=>exact q _
  | none=>exact q _
  | str x=>exact q _
  | list xs=>exact q _
  | tuple xs=>exact q _
structure CalsC (P:Program) (w:World) (K:PySem.W.Frag) (mg:Str -> Option Value) (base:Heap):Prop where
 is_whole:Cal P w K mg base 1 "is_whole" ["thing"] (conSp K cWhole)
noncomputable def cAreW:Con:=fun args Q=>∃ (d:PyData) (n:Nat),args = [.fz d,.fz (.int n)] /\ okD d = true /\ n <= 1000 /\ ∀ o,Q (.fz (.bool (areW n d))) o
theorem scAreW:FnScope ["thing","many"] ["thing","many"] (defScope (top 5)):=⟨rfl,rfl,rfl,by decide +kernel,rfl,by decide +kernel,by decide +kernel⟩
theorem ok_areW {f:Addr} {fd:FuncData} (F:Fun K "are_wholes" "are_wholes" (top 5) f fd) (T:Txt mg) (C:CalsC P w K mg base):FnOk P w K mg base CX0 2 f fd ["thing","many"] (conSp K cAreW):=by
 have S:=scAreW
 refine wfn F S (fun cdv A outer s H E hr=>(s_cons (s_if (t_w (t_or (t_not (t_val (w_isiA .tup rfl T.isinstance_ T.tuple_ boot_tuple (wn 0)))) (t_or1 (t_cmp ok_ne (op_neE (K:=K) rfl hr.units) (wx (w_callB ok_len (call_lenK (K:=K) rfl) T.len_ PySem.boot_len (wa_cons (wn 0) wa_nil))) (wn 1))))) (s_one (s_ret w_bl)) s_nil)
     (s_one (s_ret (w_callB ok_all (call_allK (K:=K) rfl rfl) T.all_ boot_all (wa_cons (wx (w_comp rfl (own:=["number"]) (fr:=[]) (by kernel_rfl) (i_seq rfl (wv 0)) (fun _ _ _ _=>(g_name (i:=0) (by decide +kernel:List.Nodup (["number"]:List Str)) rfl (Or.inl rfl))) (fun _ _ _ _=>if0) (fun _ _ _ _=>(w_fn C.is_whole (hr.mono (by first | decide | omega)) (wa_cons (wn 0) wa_nil))))) wa_nil)))))) ?_ ?_
 ·rintro args Qd ⟨d,n,rfl,_⟩; rfl
 ·rintro args Qd ⟨d,n,rfl,hd,hn,q⟩
  refine ⟨noOw_of rfl,?_⟩
  cases d with
  | dict es=>exact ⟨hd,q _⟩
  | int i=>exact q _
  | bool b=>exact q _
  | none=>exact q _
  | str x=>exact q _
  | list xs=>exact q _
  | tuple xs =>
   refine ite2 (fun h=>?_) (fun h=>?_)
   ·have h:¬ (xs.length:Int) = n:=by simpa using h
    have e:areW n (.tuple xs) = false:=by simp [areW]; intro z; omega
    rw [e] at q
    exact q _
   ·have h:(xs.length:Int) = n:=by simpa using h
    have hl:xs.length = n:=by omega
    refine ⟨le_size (by omega),mapC (fun d=>.bool (isI d)) ?_ ?_⟩
    ·intro d hd2 N hN
     exact ⟨d,rfl,okAll_mem (by simpa [okD] using hd) d hd2,fun o=>hN⟩
    ·refine ⟨xs.map isI,by rw [List.map_map]; rfl,?_⟩
     have e:areW n (.tuple xs) = (xs.map isI).all id:=by simp [areW,hl]
     rw [<- e]
     exact q _
noncomputable def cIndex:Con:=fun args Q=>∃ sd pl:List Int,args = [.fz (tupD sd),.fz (tupD pl)] /\ sd.length <= 1000 /\ (∀ s ∈ sd,0 <= s /\ s < 2 ^ 64) /\ ∀ o,Q (.fz (.int (idx sd pl))) o
theorem scIndex:FnScope ["sides","place","index","side","number"] ["sides","place"] (defScope (top 7)):=⟨rfl,rfl,rfl,by decide +kernel,rfl,by decide +kernel,by decide +kernel⟩
theorem ok_index {f:Addr} {fd:FuncData} (F:Fun K "index_of" "index_of" (top 7) f fd) (T:Txt mg):FnOk P w K mg base CX0 1 f fd ["sides","place"] (conSp K cIndex):=by
 have S:=scIndex
 refine wfn F S (fun cdv A outer s H E hr=>(s_cons (s_set (i:=2) S.nd rfl (Or.inl rfl) w_int)
     (s_cons (s_for [3,4] PassesOwn.never rfl (i_zip2 rfl T.zip_ (wa_cons (wn 0) (wa_cons (wn 1) wa_nil))) (g_tup rfl rfl (gs_cons (g_name (i:=3) S.nd rfl (Or.inl rfl)) (gs_cons (g_name (i:=4) S.nd rfl (Or.inl rfl)) gs_nil))) (s_one (s_set (i:=2) S.nd rfl (Or.inl rfl) (w_bin ok_add op_addD (wx (w_bin ok_mul op_mulD (wn 2) (wn 3))) (wn 4)))))
     (s_one (s_retV (wn 2)))))) ?_ ?_
 ·rintro args Qd ⟨sd,pl,rfl,_⟩; rfl
 ·rintro args Qd ⟨sd,pl,rfl,hl,hs,q⟩
  refine ⟨noOw_of rfl,?_⟩
  refine loopC (fun rest ρ=>∃ (i:Int) (rs:List (Int × Int)),ρ = [some (.fz (tupD sd)),some (.fz (tupD pl)),some (.fz (.int i)),none,none] /\ rest = rs.map (fun p=>PyData.tuple [.int p.1,.int p.2]) /\ (∀ p ∈ rs,p ∈ sd.zip pl) /\ rs.foldl (fun i p=>i * p.1 + p.2) i = idx sd pl) ?_ ?_
   ⟨0,sd.zip pl,rfl,zipD_ints _ _,fun _ h=>h,rfl⟩
  ·rintro d ds ρ ⟨i,rs,rfl,er,hin,hf⟩ N hN
   cases rs with
   | nil=>cases er
   | cons p rs =>
    cases er
    have hp:=hs p.1 (List.of_mem_zip (hin p List.mem_cons_self)).1
    exact ⟨rfl,.inr ⟨by omega,by omega⟩,hN _ ⟨i * p.1 + p.2,rs,rfl,rfl,fun x hx=>hin x (List.mem_cons_of_mem _ hx),hf⟩⟩
  ·rintro ρ ⟨i,rs,rfl,er,hin,hf⟩
   cases rs with
   | nil =>
    have hf:i = idx sd pl:=hf
    subst hf
    exact q _
   | cons _ _=>cases er
noncomputable def cProd:Con:=fun args Q=>∃ sd:List Int,args = [.fz (tupD sd)] /\ (∀ c ∈ sd,0 <= c /\ c < 2 ^ 60) /\ ∀ o,Q (.fz (.int (prodI sd))) o
theorem scProd:FnScope ["numbers","result","number"] ["numbers"] (defScope (top 6)):=⟨rfl,rfl,rfl,by decide +kernel,rfl,by decide +kernel,by decide +kernel⟩
theorem ok_prod {f:Addr} {fd:FuncData} (F:Fun K "product" "product" (top 6) f fd):FnOk P w K mg base CX0 1 f fd ["numbers"] (conSp K cProd):=by
 have S:=scProd
 refine wfn F S (fun cdv A outer s H E hr=>(s_cons (s_set (i:=1) S.nd rfl (Or.inl rfl) w_int)
     (s_cons (s_for [2] PassesOwn.never rfl (i_seq rfl (wv 0)) (g_name (i:=2) S.nd rfl (Or.inl rfl)) (s_one (s_set (i:=1) S.nd rfl (Or.inl rfl) (w_bin ok_mul op_mulD (wn 1) (wn 2)))))
     (s_one (s_retV (wn 1)))))) ?_ ?_
 ·rintro args Qd ⟨sd,rfl,_⟩; rfl
 ·rintro args Qd ⟨sd,rfl,hb,q⟩
  refine ⟨noOw_of rfl,?_⟩
  refine loopC (fun rest ρ=>∃ (t:Int) (rs:List Int),ρ = [some (.fz (tupD sd)),some (.fz (.int t)),none] /\ rest = rs.map PyData.int /\ (∀ c ∈ rs,c ∈ sd) /\ t * prodI rs = prodI sd) ?_ ?_
   ⟨1,sd,rfl,rfl,fun _ h=>h,by rw [Int.one_mul]⟩
  ·rintro d ds ρ ⟨t,rs,rfl,er,hin,hp⟩ N hN
   cases rs with
   | nil=>cases er
   | cons a rs =>
    cases er
    have ha:=hb a (hin a List.mem_cons_self)
    exact ⟨.inr ⟨by omega,by omega⟩,hN _ ⟨t * a,rs,rfl,rfl,fun c hc=>hin c (List.mem_cons_of_mem _ hc),by rw [Int.mul_assoc]; exact hp⟩⟩
  ·rintro ρ ⟨t,rs,rfl,er,hin,hp⟩
   cases rs with
   | nil =>
    have hp:t = prodI sd:=by rw [<- hp]; show t = t * 1; omega
    subst hp
    exact q _
   | cons _ _=>cases er
noncomputable def cAS:Con:=fun args Q=>∃ sd:List Int,args = [.fz (tupD sd)] /\ Sd sd /\ ∀ o,Q (.fz (.bool true)) o
theorem scAS:FnScope ["thing"] ["thing"] (defScope (top 12)):=⟨rfl,rfl,rfl,by decide +kernel,rfl,by decide +kernel,by decide +kernel⟩
structure CalsAS (P:Program) (w:World) (K:PySem.W.Frag) (mg:Str -> Option Value) (base:Heap):Prop where
 is_whole:Cal P w K mg base 1 "is_whole" ["thing"] (conSp K cWhole)
theorem ok_as {f:Addr} {fd:FuncData} (F:Fun K "are_sides" "are_sides" (top 12) f fd) (T:Txt mg) (C:CalsAS P w K mg base):FnOk P w K mg base CX0 2 f fd ["thing"] (conSp K cAS):=by
 have S:=scAS
 refine wfn F S (fun cdv A outer s H E hr=>(s_cons (s_if (t_w (t_or (t_not (t_val (w_isiA .tup rfl T.isinstance_ T.tuple_ boot_tuple (wn 0)))) (t_or (t_cmp ok_lt op_lt (wx (w_callB ok_len (call_lenK (K:=K) rfl) T.len_ PySem.boot_len (wa_cons (wn 0) wa_nil))) (wx w_int)) (t_or1 (t_cmp ok_gt op_gt (wx (w_callB ok_len (call_lenK (K:=K) rfl) T.len_ PySem.boot_len (wa_cons (wn 0) wa_nil))) (wx (w_gint T.MOST_WAYS_))))))) (s_one (s_ret w_bl)) s_nil)
     (s_one (s_ret (w_callB ok_all (call_allK (K:=K) rfl rfl) T.all_ boot_all (wa_cons (wx (w_comp rfl (own:=["side"]) (fr:=[]) (by kernel_rfl) (i_seq rfl (wv 0)) (fun _ _ _ _=>(g_name (i:=0) (by decide +kernel:List.Nodup (["side"]:List Str)) rfl (Or.inl rfl))) (fun _ _ _ _=>if0) (fun _ _ _ _=>(w_and (w_fn C.is_whole (hr.mono (by first | decide | omega)) (wa_cons (wn 0) wa_nil)) (w_one (w_cmp ok_ge op_ge (wn 0) (wx w_int))))))) wa_nil)))))) ?_ ?_
 ·rintro args Qd ⟨sd,rfl,_⟩; rfl
 ·rintro args Qd ⟨sd,rfl,hsd,q⟩
  have h1:=hsd.l1
  have h3:=hsd.l3
  have hk:(sd.map PyData.int).length = sd.length:=List.length_map ..
  refine ⟨noOw_of rfl,?_⟩
  refine ite2 (fun h=>?_) (fun h=>?_)
  ·have h:decide (((sd.map PyData.int).length:Int) < 1) = true:=h
   rw [hk] at h
   have:=of_decide_eq_true h
   omega
  ·refine ite2 (fun h=>?_) (fun h=>?_)
   ·have h:decide ((3:Int) < ((sd.map PyData.int).length:Int)) = true:=h
    rw [hk] at h
    have:=of_decide_eq_true h
    omega
   ·refine ⟨by rw [hk]; exact le_size (by omega),mapC (fun _=>.bool true) ?_ ?_⟩
    ·intro d hd N hN
     obtain ⟨i,hi,rfl⟩:=List.mem_map.mp hd
     refine ⟨.int i,rfl,rfl,fun o=>?_⟩
     have e:decide ((1:Int) <= i) = true:=decide_eq_true (hsd.p i hi)
     have hN:N (.bool true) _:=hN
     rw [<- e] at hN
     exact hN
    ·refine ⟨_,map_tr _,?_⟩
     rw [all_tr]
     exact q _
noncomputable def cIF:Con:=fun args Q=>∃ sd cl:List Int,args = [.fz (fldD sd cl)] /\ Sd sd /\ cl.length = (plc sd).length /\ ∀ o,Q (.fz (.bool true)) o
theorem scIF:FnScope ["thing","many"] ["thing"] (defScope (top 13)):=⟨rfl,rfl,rfl,by decide +kernel,rfl,by decide +kernel,by decide +kernel⟩
structure CalsIF (P:Program) (w:World) (K:PySem.W.Frag) (mg:Str -> Option Value) (base:Heap):Prop where
 are_sides:Cal P w K mg base 2 "are_sides" ["thing"] (conSp K cAS)
 are_wholes:Cal P w K mg base 2 "are_wholes" ["thing","many"] (conSp K cAreW)
 product:Cal P w K mg base 1 "product" ["numbers"] (conSp K cProd)
theorem ok_if {f:Addr} {fd:FuncData} (F:Fun K "is_field" "is_field" (top 13) f fd) (T:Txt mg) (C:CalsIF P w K mg base):FnOk P w K mg base CX0 3 f fd ["thing"] (conSp K cIF):=by
 have S:=scIF
 refine wfn F S (fun cdv A outer s H E hr=>(s_cons (s_if (t_w (t_or (t_not (t_val (w_isiA .tup rfl T.isinstance_ T.tuple_ boot_tuple (wn 0)))) (t_or (t_cmp ok_ne (op_neE (K:=K) rfl hr.units) (wx (w_callB ok_len (call_lenK (K:=K) rfl) T.len_ PySem.boot_len (wa_cons (wn 0) wa_nil))) (wx w_int)) (t_or1 (t_not (t_val (w_fn C.are_sides (hr.mono (by first | decide | omega)) (wa_cons (wx (w_ix rfl (wn 0) (wx w_int))) wa_nil)))))))) (s_one (s_ret w_bl)) s_nil)
     (s_cons (s_set (i:=1) S.nd rfl (Or.inl rfl) (w_fn C.product (hr.mono (by first | decide | omega)) (wa_cons (wx (w_ix rfl (wn 0) (wx w_int))) wa_nil)))
     (s_one (s_ret (w_and (w_cmp ok_le op_le (wn 1) (wx (w_gint T.MOST_CELLS_))) (w_one (w_fn C.are_wholes (hr.mono (by first | decide | omega)) (wa_cons (wx (w_ix rfl (wn 0) (wx w_int))) (wa_cons (wn 1) wa_nil)))))))))) ?_ ?_
 ·rintro args Qd ⟨sd,cl,rfl,_⟩; rfl
 ·rintro args Qd ⟨sd,cl,rfl,hsd,hc,q⟩
  have hm:=hsd.m
  have hpl:=plc_len hsd.p
  refine ⟨noOw_of rfl,?_⟩
  refine ⟨tupD sd,rfl,sd,rfl,hsd,fun o=>?_⟩
  refine ⟨tupD sd,rfl,sd,rfl,fun c hcm=>⟨by have:=hsd.p c hcm; omega,by have:=le_prodI hsd.p c hcm; omega⟩,fun o=>?_⟩
  have e:prodI sd = (cl.length:Int):=by rw [hc,hpl]
  rw [e]
  refine ite2 (fun h=>?_) (fun h=>?_)
  ·refine ⟨tupD cl,rfl,tupD cl,cl.length,rfl,okD_tup cl,by omega,fun o=>?_⟩
   rw [areW_ints]
   exact q _
  ·exact absurd (show decide ((cl.length:Int) <= 120) = true from decide_eq_true (by omega)) h
structure CalsFO (P:Program) (w:World) (K:PySem.W.Frag) (mg:Str -> Option Value) (base:Heap):Prop where
 is_field:Cal P w K mg base 3 "is_field" ["thing"] (conSp K cIF)
noncomputable def cFO:Con:=fun args Q=>∃ sd cl:List Int,args = [.fz (tupD sd),.fz (.list (cl.map PyData.int))] /\ Sd sd /\ cl.length = (plc sd).length /\ ∀ o,Q (.fz (fldD sd cl)) o
theorem scFO:FnScope ["sides","cells","field"] ["sides","cells"] (defScope (top 14)):=⟨rfl,rfl,rfl,by decide +kernel,rfl,by decide +kernel,by decide +kernel⟩
theorem ok_fo {f:Addr} {fd:FuncData} (F:Fun K "field_of" "field_of" (top 14) f fd) (T:Txt mg) (C:CalsFO P w K mg base):FnOk P w K mg base CX0 4 f fd ["sides","cells"] (conSp K cFO):=by
 have S:=scFO
 refine wfn F S (fun cdv A outer s H E hr=>(s_cons (s_if (t_w (t_or (t_not (t_val (w_isiLA rfl T.isinstance_ T.list_ T.tuple_ (wn 0)))) (t_or1 (t_not (t_val (w_isiLA rfl T.isinstance_ T.list_ T.tuple_ (wn 1))))))) (s_one s_never) s_nil)
     (s_cons (s_set (i:=2) S.nd rfl (Or.inl rfl) (w_tup (wa_cons (wx (w_callT ok_tuple (call_tupleK (K:=K) rfl) T.tuple_ boot_tuple (wa_cons (wn 0) wa_nil))) (wa_cons (wx (w_callT ok_tuple (call_tupleK (K:=K) rfl) T.tuple_ boot_tuple (wa_cons (wn 1) wa_nil))) wa_nil))))
     (s_cons (s_if (t_not (t_val (w_fn C.is_field (hr.mono (by first | decide | omega)) (wa_cons (wn 2) wa_nil)))) (s_one s_never) s_nil)
     (s_one (s_retV (wn 2))))))) ?_ ?_
 ·rintro args Qd ⟨sd,cl,rfl,_⟩; rfl
 ·rintro args Qd ⟨sd,cl,rfl,hsd,hc,q⟩
  refine ⟨noOw_of rfl,?_⟩
  exact ⟨sd,cl,rfl,hsd,hc,fun o=>q _⟩
noncomputable def cTh:Con:=fun args Q=>∃ x:Int,args = [.fz (.int x)] /\ ∀ o,Q (.fz (tupD [x,x,x])) o
theorem scTh:FnScope ["number"] ["number"] (defScope (top 18)):=⟨rfl,rfl,rfl,by decide +kernel,rfl,by decide +kernel,by decide +kernel⟩
theorem ok_th {f:Addr} {fd:FuncData} (F:Fun K "thrice" "thrice" (top 18) f fd):FnOk P w K mg base CX0 1 f fd ["number"] (conSp K cTh):=by
 have S:=scTh
 refine wfn F S (fun cdv A outer s H E hr=>(s_one (s_ret (w_tup (wa_cons (wx (wv 0)) (wa_cons (wx (wv 0)) (wa_cons (wx (wv 0)) wa_nil))))))) ?_ ?_
 ·rintro args Qd ⟨x,rfl,_⟩; rfl
 ·rintro args Qd ⟨x,rfl,q⟩
  exact ⟨noOw_of rfl,q _⟩
noncomputable def cRp:Con:=fun args Q=>∃ (p:List Int) (i:Nat) (x:Int),args = [.fz (tupD p),.fz (.int i),.fz (.int x)] /\ i < p.length /\ p.length <= 100 /\ ∀ o,Q (.fz (tupD (p.set i x))) o
theorem scRp:FnScope ["numbers","way","number"] ["numbers","way","number"] (defScope (top 8)):=⟨rfl,rfl,rfl,by decide +kernel,rfl,by decide +kernel,by decide +kernel⟩
theorem ok_rp {f:Addr} {fd:FuncData} (F:Fun K "replaced" "replaced" (top 8) f fd):FnOk P w K mg base CX0 1 f fd ["numbers","way","number"] (conSp K cRp):=by
 have S:=scRp
 refine wfn F S (fun cdv A outer s H E hr=>(s_one (s_ret (w_bin ok_add op_addD (wx (w_bin ok_add op_addD (wx (w_sl2T rfl (wn 0) (wn 1))) (wx (w_tup (wa_cons (wx (wv 2)) wa_nil))))) (wx (w_sl1T rfl (wn 0) (wx (w_bin ok_add op_addD (wn 1) (wx w_int))))))))) ?_ ?_
 ·rintro args Qd ⟨p,i,x,rfl,_⟩; rfl
 ·rintro args Qd ⟨p,i,x,rfl,hi,hl,q⟩
  refine ⟨noOw_of rfl,?_⟩
  have e:(p.map PyData.int).take (i:Int).toNat ++ [PyData.int x] ++ (p.map PyData.int).drop ((i:Int) + 1).toNat = (p.set i x).map PyData.int:=by
   rw [show (i:Int).toNat = i by omega,show ((i:Int) + 1).toNat = i + 1 by omega,<- set_cut p hi x]
   simp [List.map_take,List.map_drop]
  unfold tupD at q
  rw [<- e] at q
  exact ⟨by omega,le_size (by simp; omega),by show (0:Int) <= (i:Int) + 1; omega,le_size (by simp; omega),q _⟩
structure CalsWs (P:Program) (w:World) (K:PySem.W.Frag) (mg:Str -> Option Value) (base:Heap):Prop where
 replaced:Cal P w K mg base 1 "replaced" ["numbers","way","number"] (conSp K cRp)
noncomputable def cWs:Con:=fun args Q=>∃ (b:Bxx) (i:Nat) (p:Int × Int),args = [.fz (boxD b),.fz (.int i),.fz (prD p)] /\ i < b.1.length /\ b.2.length = b.1.length /\ b.1.length <= 100 /\ ∀ o,Q (.fz (boxD (bset b i p))) o
theorem scWs:FnScope ["box","way","stretch"] ["box","way","stretch"] (defScope (top 19)):=⟨rfl,rfl,rfl,by decide +kernel,rfl,by decide +kernel,by decide +kernel⟩
theorem ok_ws {f:Addr} {fd:FuncData} (F:Fun K "with_stretch" "with_stretch" (top 19) f fd) (C:CalsWs P w K mg base):FnOk P w K mg base CX0 2 f fd ["box","way","stretch"] (conSp K cWs):=by
 have S:=scWs
 refine wfn F S (fun cdv A outer s H E hr=>(s_one (s_ret (w_tup (wa_cons (wx (w_fn C.replaced (hr.mono (by first | decide | omega)) (wa_cons (wx (w_ix rfl (wn 0) (wx w_int))) (wa_cons (wn 1) (wa_cons (wx (w_ix rfl (wn 2) (wx w_int))) wa_nil))))) (wa_cons (wx (w_fn C.replaced (hr.mono (by first | decide | omega)) (wa_cons (wx (w_ix rfl (wn 0) (wx w_int))) (wa_cons (wn 1) (wa_cons (wx (w_ix rfl (wn 2) (wx w_int))) wa_nil))))) wa_nil)))))) ?_ ?_
 ·rintro args Qd ⟨b,i,p,rfl,_⟩; rfl
 ·rintro args Qd ⟨b,i,p,rfl,hi,hl,hn,q⟩
  refine ⟨noOw_of rfl,?_⟩
  exact ⟨_,rfl,_,rfl,b.1,i,p.1,rfl,hi,hn,fun o=>⟨_,rfl,_,rfl,b.2,i,p.2,rfl,by omega,by omega,fun o=>q _⟩⟩
structure CalsCa (P:Program) (w:World) (K:PySem.W.Frag) (mg:Str -> Option Value) (base:Heap):Prop where
 index_of:Cal P w K mg base 1 "index_of" ["sides","place"] (conSp K cIndex)
noncomputable def cCa:Con:=fun args Q=>∃ sd cl p:List Int,args = [.fz (fldD sd cl),.fz (tupD p)] /\ Sd sd /\ cl.length = (plc sd).length /\ Wi p sd /\ ∀ o,Q (.fz (.int (cel sd cl p))) o
theorem scCa:FnScope ["field","place"] ["field","place"] (defScope (top 15)):=⟨rfl,rfl,rfl,by decide +kernel,rfl,by decide +kernel,by decide +kernel⟩
theorem ok_ca {f:Addr} {fd:FuncData} (F:Fun K "cell_at" "cell_at" (top 15) f fd) (C:CalsCa P w K mg base):FnOk P w K mg base CX0 2 f fd ["field","place"] (conSp K cCa):=by
 have S:=scCa
 refine wfn F S (fun cdv A outer s H E hr=>(s_one (s_ret (w_ix rfl (wx (w_ix rfl (wn 0) (wx w_int))) (wx (w_fn C.index_of (hr.mono (by first | decide | omega)) (wa_cons (wx (w_ix rfl (wn 0) (wx w_int))) (wa_cons (wn 1) wa_nil)))))))) ?_ ?_
 ·rintro args Qd ⟨sd,cl,p,rfl,_⟩; rfl
 ·rintro args Qd ⟨sd,cl,p,rfl,hsd,hcl,hp,q⟩
  refine ⟨noOw_of rfl,?_⟩
  have h3:=hsd.l3
  have hm:=hsd.m
  have hpl:=plc_len hsd.p
  have hi:=idx_nn hp
  refine ⟨_,rfl,_,rfl,sd,p,rfl,by omega,fun s hs=>?_,fun o=>?_⟩
  ·have h1:=hsd.p s hs
   have h2:=le_prodI hsd.p s hs
   omega
  ·obtain ⟨n,hn⟩:=Int.eq_ofNat_of_zero_le hi.1
   have hnl:n < cl.length:=by omega
   refine ⟨.int (cel sd cl p),?_,q _⟩
   unfold cel
   rw [hn]
   exact at_ints hnl
noncomputable def cPt:Con:=fun args Q=>∃ ts us:List Int,args = [.fz (.list [tupD ts,tupD us])] /\ ts.length = 3 /\ us.length = 3 /\ ∀ o,Q (.fz (tupD [ts.getD 0 0 + us.getD 0 0,min (ts.getD 1 0) (us.getD 1 0),max (ts.getD 2 0) (us.getD 2 0)])) o
theorem scPt:FnScope ["parts","total"] ["parts"] (defScope (top 17)):=⟨rfl,rfl,rfl,by decide +kernel,rfl,by decide +kernel,by decide +kernel⟩
theorem ok_pt {f:Addr} {fd:FuncData} (F:Fun K "put_together" "put_together" (top 17) f fd) (T:Txt mg):FnOk P w K mg base CX0 1 f fd ["parts"] (conSp K cPt):=by
 have S:=scPt
 refine wfn F S (fun cdv A outer s H E hr=>(s_cons (s_set (i:=1) S.nd rfl (Or.inl rfl) (w_callB ok_sum (call_sumK (K:=K) rfl rfl) T.sum_ boot_sum (wa_cons (wx (w_comp rfl (own:=["part"]) (fr:=[]) (by kernel_rfl) (i_seq rfl (wv 0)) (fun _ _ _ _=>(g_name (i:=0) (by decide +kernel:List.Nodup (["part"]:List Str)) rfl (Or.inl rfl))) (fun _ _ _ _=>if0) (fun _ _ _ _=>(w_ix rfl (wn 0) (wx w_int))))) wa_nil)))
     (s_one (s_ret (w_tup (wa_cons (wx (wv 1)) (wa_cons (wx (w_callB ok_mnI (call_mnI (K:=K) rfl rfl) T.min_ boot_min (wa_cons (wx (w_comp rfl (own:=["part"]) (fr:=[]) (by kernel_rfl) (i_seq rfl (wv 0)) (fun _ _ _ _=>(g_name (i:=0) (by decide +kernel:List.Nodup (["part"]:List Str)) rfl (Or.inl rfl))) (fun _ _ _ _=>if0) (fun _ _ _ _=>(w_ix rfl (wn 0) (wx w_int))))) wa_nil))) (wa_cons (wx (w_callB ok_mxI (call_mxI (K:=K) rfl rfl) T.max_ boot_max (wa_cons (wx (w_comp rfl (own:=["part"]) (fr:=[]) (by kernel_rfl) (i_seq rfl (wv 0)) (fun _ _ _ _=>(g_name (i:=0) (by decide +kernel:List.Nodup (["part"]:List Str)) rfl (Or.inl rfl))) (fun _ _ _ _=>if0) (fun _ _ _ _=>(w_ix rfl (wn 0) (wx w_int))))) wa_nil))) wa_nil)))))))) ?_ ?_
 ·rintro args Qd ⟨ts,us,rfl,_⟩; rfl
 ·rintro args Qd ⟨ts,us,rfl,ht,hu,q⟩
  refine ⟨noOw_of rfl,?_⟩
  obtain ⟨a,b,c,rfl⟩:∃ a b c,ts = [a,b,c]:=by
   rcases ts with _ | ⟨a,_ | ⟨b,_ | ⟨c,_ | ⟨d,ts⟩⟩⟩⟩ <;> first | exact ⟨_,_,_,rfl⟩ | (simp at ht)
  obtain ⟨a',b',c',rfl⟩:∃ a b c,us = [a,b,c]:=by
   rcases us with _ | ⟨a,_ | ⟨b,_ | ⟨c,_ | ⟨d,ts⟩⟩⟩⟩ <;> first | exact ⟨_,_,_,rfl⟩ | (simp at hu)
  have q:∀ o,Qd (.fz (tupD [a + a',min b b',max c c'])) o:=q
  with_reducible refine cutS (fun ρ=>ρ = [some (.fz (.list [tupD [a,b,c],tupD [a',b',c']])),some (.fz (.int (a + a')))]) ?_ ?_
  ·intro N hN
   refine ⟨le_size (by simp),_,rfl,_,rfl,[a,a'],rfl,?_⟩
   have e:[a,a'].sum = a + a':=by simp
   rw [e]
   exact hN _ rfl
  rintro _ rfl
  refine ⟨le_size (by simp),_,rfl,_,rfl,[b,b'],rfl,by simp,fun m hm hmy=>⟨le_size (by simp),_,rfl,_,rfl,[c,c'],rfl,by simp,fun M hM hMy=>?_⟩⟩
  have e1:m = min b b':=by
   have h1:=hmy b (by simp)
   have h2:=hmy b' (by simp)
   have h3:m = b \/ m = b':=by simpa using hm
   omega
  have e2:M = max c c':=by
   have h1:=hMy c (by simp)
   have h2:=hMy c' (by simp)
   have h3:M = c \/ M = c':=by simpa using hM
   omega
  rw [e1,e2]
  exact q _
end
end R76
namespace R76
open PySem PySem.Spec L2 L3 PyProof.Rows
theorem sameAll_ints:∀ a b:List Int,sameAll (a.map PyData.int) (b.map PyData.int) = decide (a = b)
 | [],[]=>rfl
 | [],_ :: _=>by simp [sameAll]
 | _ :: _,[]=>by simp [sameAll]
 | x :: a,y :: b=>by
  have ih:=sameAll_ints a b
  simp only [List.map_cons,sameAll,same,ih]
  by_cases h1:x = y <;> by_cases h2:a = b <;> simp [h1,h2]
theorem mixAll_ints:∀ a b:List Int,SeqAt.noMixAll (a.map PyData.int) (b.map PyData.int) = true
 | [],[]=>rfl
 | [],_ :: _=>by simp [SeqAt.noMixAll]
 | _ :: _,[]=>by simp [SeqAt.noMixAll]
 | x :: a,y :: b=>by simp [SeqAt.noMixAll,SeqAt.noMix,mixAll_ints a b]
theorem same_tup (a b:List Int):same (tupD a) (tupD b) = decide (a = b):=sameAll_ints a b
theorem mix_tup (a b:List Int):SeqAt.noMix (tupD a) (tupD b) = true:=mixAll_ints a b
inductive Pp where
 | cell (t l h:Int)
 | cut (t l h w a:Int) (p q:Pp)
noncomputable def Pp.cl:Pp -> List Int
 | .cell t l h=>[t,l,h]
 | .cut t l h _ _ _ _=>[t,l,h]
noncomputable def pD:Pp -> PyData
 | .cell t l h=>.tuple [.str "cell",tupD [t,l,h]]
 | .cut t l h w a p q=>.tuple [.str "cut",tupD [t,l,h],.int w,.int a,pD p,pD q]
noncomputable def Pp.sz:Pp -> Nat
 | .cell _ _ _=>1
 | .cut _ _ _ _ _ p q=>1 + p.sz + q.sz
noncomputable def letB (c d:List Int):Bool:=decide (c.getD 0 0 = d.getD 0 0) && (decide (c.getD 1 0 <= d.getD 1 0) && decide (d.getD 2 0 <= c.getD 2 0))
noncomputable def cutB (b:Bxx) (w a:Int):Bool:=decide (0 <= w) && (decide (w < b.1.length) && (decide (b.1.getD w.toNat 0 <= a) && decide (a < b.2.getD w.toNat 0)))
noncomputable def comb (p q:List Int):List Int:=[p.getD 0 0 + q.getD 0 0,min (p.getD 1 0) (q.getD 1 0),max (p.getD 2 0) (q.getD 2 0)]
noncomputable def bxL (b:Bxx) (w a:Int):Bxx:=bset b w.toNat (b.1.getD w.toNat 0,a)
noncomputable def bxR (b:Bxx) (w a:Int):Bxx:=bset b w.toNat (a + 1,b.2.getD w.toNat 0)
noncomputable def okP (sd cl:List Int) (b:Bxx):Pp -> Bool
 | .cell t l h=>decide (b.1 = b.2) && letB [t,l,h] [cel sd cl b.1,cel sd cl b.1,cel sd cl b.1]
 | .cut t l h w a p q=>cutB b w a && (letB [t,l,h] (comb p.cl q.cl) && (okP sd cl (bxL b w a) p && okP sd cl (bxR b w a) q))
theorem Pp.sz1 (p:Pp):1 <= p.sz:=by cases p <;> simp only [Pp.sz] <;> omega
inductive Tr where
 | cell (t l h:Int)
 | cut (t l h:Int) (w a:PyData) (p q:Tr)
 | odd (d:PyData)
noncomputable def tD:Tr -> PyData
 | .cell t l h=>.tuple [.str "cell",tupD [t,l,h]]
 | .cut t l h w a p q=>.tuple [.str "cut",tupD [t,l,h],w,a,tD p,tD q]
 | .odd d=>d
noncomputable def pT:Pp -> Tr
 | .cell t l h=>.cell t l h
 | .cut t l h w a p q=>.cut t l h (.int w) (.int a) (pT p) (pT q)
theorem tD_pT (p:Pp):tD (pT p) = pD p:=by
 induction p with
 | cell=>rfl
 | cut t l h w a p q ih1 ih2=>simp only [pT,tD,pD,ih1,ih2]
noncomputable def Tr.cl:Tr -> List Int
 | .cell t l h=>[t,l,h]
 | .cut t l h _ _ _ _=>[t,l,h]
 | .odd _=>[]
noncomputable def Tr.isF (k:Bool):Tr -> Bool
 | .cell _ _ _=>!k
 | .cut _ _ _ _ _ _ _=>k
 | .odd _=>false
noncomputable def Tr.clm:Tr -> Bool
 | .odd _=>false
 | _=>true
noncomputable def Tr.sz:Tr -> Nat
 | .cut _ _ _ _ _ p q=>1 + p.sz + q.sz
 | _=>1
theorem Tr.sz1 (p:Tr):1 <= p.sz:=by cases p <;> simp only [Tr.sz] <;> omega
structure OddD (d:PyData):Prop where
 ok:okD d = true
 f:∀ (xs:List PyData) (k:Bool),d = .tuple xs -> xs.length = (if k then 6 else 2) -> ∃ x y r,xs = x :: y :: r /\ ((x = .none \/ x = .list [.str "cut"] \/ x = .list [.str "cell"]) \/ ∃ z:Str,x = .str z /\ (z ≠ (if k then ("cut":Str) else "cell") \/ areW 3 y = false))
noncomputable def Tr.wf:Tr -> Prop
 | .cell _ _ _=>True
 | .cut _ _ _ w a p q=>okD w = true /\ okD a = true /\ p.wf /\ q.wf
 | .odd d=>OddD d
noncomputable def cutsD (b:Bxx):PyData -> PyData -> Bool
 | .int w,.int a=>cutB b w a
 | _,_=>false
noncomputable def okT (sd cl:List Int) (b:Bxx):Tr -> Bool
 | .cell t l h=>okP sd cl b (.cell t l h)
 | .cut t l h w a p q=>cutsD b w a && (p.clm && (q.clm && (letB [t,l,h] (comb p.cl q.cl) && (okT sd cl (bxL b (unI w) (unI a)) p && okT sd cl (bxR b (unI w) (unI a)) q))))
 | .odd _=>false
theorem pT_cl (p:Pp):(pT p).cl = p.cl /\ (pT p).clm = true:=by cases p <;> exact ⟨rfl,rfl⟩
theorem pT_sz (p:Pp):(pT p).sz = p.sz:=by
 induction p with
 | cell=>rfl
 | cut t l h w a p q ih1 ih2=>simp only [pT,Tr.sz,Pp.sz,ih1,ih2]
theorem pT_wf (p:Pp):(pT p).wf:=by
 induction p with
 | cell=>trivial
 | cut t l h w a p q ih1 ih2=>exact ⟨rfl,rfl,ih1,ih2⟩
theorem okT_pT (sd cl:List Int) (p:Pp):∀ b,okT sd cl b (pT p) = okP sd cl b p:=by
 induction p with
 | cell=>intro b; rfl
 | cut t l h w a p q ih1 ih2 =>
  intro b
  show (cutB b w a && ((pT p).clm && ((pT q).clm && (letB [t,l,h] (comb (pT p).cl (pT q).cl) && (okT sd cl (bxL b w a) (pT p) && okT sd cl (bxR b w a) (pT q)))))) = _
  rw [(pT_cl p).1,(pT_cl p).2,(pT_cl q).1,(pT_cl q).2,ih1,ih2]
  rfl
theorem nice_wd (k:Bool):Nice 0 (.str (if k then "cut" else "cell")):=by
 cases k <;> exact ⟨rfl,by rw [PyData.canLay0]; decide +kernel,by simp [PyData.depth]⟩
theorem nice_wl:Nice 1 (.list [.str "cut"]) /\ Nice 1 (.list [.str "cell"]):=by
 constructor
 ·exact .list fun d hd=>by rw [List.mem_singleton.mp hd]; exact nice_wd true
 ·exact .list fun d hd=>by rw [List.mem_singleton.mp hd]; exact nice_wd false
section
variable {P:Program} {w:World} {K:PySem.W.Frag} {mg:Str -> Option Value} {base:Heap}
structure CalsHF (P:Program) (w:World) (K:PySem.W.Frag) (mg:Str -> Option Value) (base:Heap):Prop where
 are_wholes:Cal P w K mg base 2 "are_wholes" ["thing","many"] (conSp K cAreW)
noncomputable def cHF:Con:=fun args Q=>∃ (p:Tr) (k:Bool),args = [.fz (tD p),.fz (.str (if k then "cut" else "cell")),.fz (.int (if k then 6 else 2))] /\ p.wf /\ ∀ o,Q (.fz (.bool (p.isF k))) o
theorem scHF:FnScope ["thing","word","many"] ["thing","word","many"] (defScope (top 22)):=⟨rfl,rfl,rfl,by decide +kernel,rfl,by decide +kernel,by decide +kernel⟩
theorem ok_hf {f:Addr} {fd:FuncData} (F:Fun K "has_form" "has_form" (top 22) f fd) (T:Txt mg) (C:CalsHF P w K mg base):FnOk P w K mg base CX0 3 f fd ["thing","word","many"] (conSp K cHF):=by
 have S:=scHF
 refine wfn F S (fun cdv A outer s H E hr=>(s_cons (s_if (t_w (t_or (t_not (t_val (w_isiA .tup rfl T.isinstance_ T.tuple_ boot_tuple (wn 0)))) (t_or1 (t_cmp ok_ne (op_neE (K:=K) rfl hr.units) (wx (w_callB ok_len (call_lenK (K:=K) rfl) T.len_ PySem.boot_len (wa_cons (wn 0) wa_nil))) (wn 2))))) (s_one (s_ret w_bl)) s_nil)
     (s_one (s_ret (w_and (w_cmp ok_eq (op_eqE (K:=K) rfl hr.units) (wx (w_ix rfl (wn 0) (wx w_int))) (wn 1)) (w_one (w_fn C.are_wholes (hr.mono (by first | decide | omega)) (wa_cons (wx (w_ix rfl (wn 0) (wx w_int))) (wa_cons (wx w_int) wa_nil))))))))) ?_ ?_
 ·rintro args Qd ⟨p,k,rfl,_⟩; rfl
 ·rintro args Qd ⟨p,k,rfl,hw,q⟩
  refine ⟨noOw_of rfl,?_⟩
  cases p with
  | cell t l h =>
   cases k
   ·exact ⟨_,rfl,_,rfl,tupD _,3,rfl,rfl,by decide,fun o=>q _⟩
   ·exact q _
  | cut t l h w a p1 p2 =>
   cases k
   ·exact q _
   ·exact ⟨_,rfl,_,rfl,tupD _,3,rfl,rfl,by decide,fun o=>q _⟩
  | odd d =>
   have hw:OddD d:=hw
   have hd:=hw.ok
   have q:∀ o,Qd (.fz (.bool false)) o:=q
   cases d with
   | dict es=>exact ⟨hd,q _⟩
   | int i=>exact q _
   | bool b=>exact q _
   | none=>exact q _
   | str x=>exact q _
   | list xs=>exact q _
   | tuple xs =>
    refine ite2 (fun h=>q _) (fun h=>?_)
    have h:xs.length = if k then 6 else 2:=by
     have h:¬ (!decide ((xs.length:Int) = (if k then 6 else 2:Int))) = true:=h
     cases k <;> simp at h ⊢ <;> omega
    obtain ⟨x,y,r,rfl,hx⟩:=hw.f xs k rfl h
    have hy:okD y = true:=okAll_mem (xs:=x :: y :: r) (by simpa [okD] using hd) y (by simp)
    have nk:=nice_wd k
    refine ⟨_,atI_nat (j:=0) rfl,?_⟩
    rcases hx with (rfl | rfl | rfl) | ⟨z,rfl,hz⟩
    ·exact ⟨rfl,nk.p,(Nice.none 0).sh (by decide),nk.sh (by decide),rfl,q _⟩
    ·exact ⟨rfl,nk.p,nice_wl.1.sh (by decide),nk.sh (by decide),rfl,q _⟩
    ·exact ⟨rfl,nk.p,nice_wl.2.sh (by decide),nk.sh (by decide),rfl,q _⟩
    ·refine ite2 (fun h2=>?_) (fun _=>q _)
     have h2:decide (z = if k then ("cut":Str) else "cell") = true:=h2
     refine ⟨_,atI_nat (j:=1) rfl,y,3,rfl,hy,by decide,fun o=>?_⟩
     rcases hz with hz | hz
     ·exact absurd (of_decide_eq_true h2) hz
     ·rw [hz]; exact q _
structure CalsHG (P:Program) (w:World) (K:PySem.W.Frag) (mg:Str -> Option Value) (base:Heap):Prop where
 has_form:Cal P w K mg base 3 "has_form" ["thing","word","many"] (conSp K cHF)
noncomputable def cIc:Con:=fun args Q=>∃ p:Tr,args = [.fz (tD p)] /\ p.wf /\ ∀ o,Q (.fz (.bool (p.isF false))) o
noncomputable def cIt:Con:=fun args Q=>∃ p:Tr,args = [.fz (tD p)] /\ p.wf /\ ∀ o,Q (.fz (.bool (p.isF true))) o
theorem scIc:FnScope ["thing"] ["thing"] (defScope (top 23)):=⟨rfl,rfl,rfl,by decide +kernel,rfl,by decide +kernel,by decide +kernel⟩
theorem ok_ic {f:Addr} {fd:FuncData} (F:Fun K "is_cell" "is_cell" (top 23) f fd) (C:CalsHG P w K mg base):FnOk P w K mg base CX0 4 f fd ["thing"] (conSp K cIc):=by
 have S:=scIc
 refine wfn F S (fun cdv A outer s H E hr=>(s_one (s_ret (w_fn C.has_form (hr.mono (by first | decide | omega)) (wa_cons (wn 0) (wa_cons (wx w_str) (wa_cons (wx w_int) wa_nil))))))) ?_ ?_
 ·rintro args Qd ⟨p,rfl,_⟩; rfl
 ·rintro args Qd ⟨p,rfl,hw,q⟩
  exact ⟨noOw_of rfl,p,false,rfl,hw,fun o=>q _⟩
theorem scIt:FnScope ["thing"] ["thing"] (defScope (top 24)):=⟨rfl,rfl,rfl,by decide +kernel,rfl,by decide +kernel,by decide +kernel⟩
theorem ok_it {f:Addr} {fd:FuncData} (F:Fun K "is_cut" "is_cut" (top 24) f fd) (C:CalsHG P w K mg base):FnOk P w K mg base CX0 4 f fd ["thing"] (conSp K cIt):=by
 have S:=scIt
 refine wfn F S (fun cdv A outer s H E hr=>(s_one (s_ret (w_fn C.has_form (hr.mono (by first | decide | omega)) (wa_cons (wn 0) (wa_cons (wx w_str) (wa_cons (wx w_int) wa_nil))))))) ?_ ?_
 ·rintro args Qd ⟨p,rfl,_⟩; rfl
 ·rintro args Qd ⟨p,rfl,hw,q⟩
  exact ⟨noOw_of rfl,p,true,rfl,hw,fun o=>q _⟩
structure CalsIm (P:Program) (w:World) (K:PySem.W.Frag) (mg:Str -> Option Value) (base:Heap):Prop where
 is_cell:Cal P w K mg base 4 "is_cell" ["thing"] (conSp K cIc)
 is_cut:Cal P w K mg base 4 "is_cut" ["thing"] (conSp K cIt)
noncomputable def cIm:Con:=fun args Q=>∃ p:Tr,args = [.fz (tD p)] /\ p.wf /\ ∀ o,Q (.fz (.bool p.clm)) o
theorem scIm:FnScope ["thing"] ["thing"] (defScope (top 25)):=⟨rfl,rfl,rfl,by decide +kernel,rfl,by decide +kernel,by decide +kernel⟩
theorem ok_im {f:Addr} {fd:FuncData} (F:Fun K "is_claimed" "is_claimed" (top 25) f fd) (C:CalsIm P w K mg base):FnOk P w K mg base CX0 5 f fd ["thing"] (conSp K cIm):=by
 have S:=scIm
 refine wfn F S (fun cdv A outer s H E hr=>(s_one (s_ret (w_or (w_fn C.is_cell (hr.mono (by first | decide | omega)) (wa_cons (wn 0) wa_nil)) (w_one (w_fn C.is_cut (hr.mono (by first | decide | omega)) (wa_cons (wn 0) wa_nil))))))) ?_ ?_
 ·rintro args Qd ⟨p,rfl,_⟩; rfl
 ·rintro args Qd ⟨p,rfl,hw,q⟩
  refine ⟨noOw_of rfl,p,rfl,hw,fun o=>?_⟩
  cases p
  ·exact q _
  ·exact ⟨.cut _ _ _ _ _ _ _,rfl,hw,fun o=>q _⟩
  ·exact ⟨.odd _,rfl,hw,fun o=>q _⟩
noncomputable def cLb:Con:=fun args Q=>∃ c d:List Int,args = [.fz (tupD c),.fz (tupD d)] /\ c.length = 3 /\ d.length = 3 /\ ∀ o,Q (.fz (.bool (letB c d))) o
theorem scLb:FnScope ["claim","told"] ["claim","told"] (defScope (top 26)):=⟨rfl,rfl,rfl,by decide +kernel,rfl,by decide +kernel,by decide +kernel⟩
theorem ok_lb {f:Addr} {fd:FuncData} (F:Fun K "lets_by" "lets_by" (top 26) f fd):FnOk P w K mg base CX0 1 f fd ["claim","told"] (conSp K cLb):=by
 have S:=scLb
 refine wfn F S (fun cdv A outer s H E hr=>(s_one (s_ret (w_and (w_cmp ok_eq (op_eqE (K:=K) rfl hr.units) (wx (w_ix rfl (wn 0) (wx w_int))) (wx (w_ix rfl (wn 1) (wx w_int)))) (w_and (w_cmp ok_le op_le (wx (w_ix rfl (wn 0) (wx w_int))) (wx (w_ix rfl (wn 1) (wx w_int)))) (w_one (w_cmp ok_ge op_ge (wx (w_ix rfl (wn 0) (wx w_int))) (wx (w_ix rfl (wn 1) (wx w_int)))))))))) ?_ ?_
 ·rintro args Qd ⟨c,d,rfl,_⟩; rfl
 ·rintro args Qd ⟨c,d,rfl,hc,hd,q⟩
  refine ⟨noOw_of rfl,?_⟩
  obtain ⟨x,y,z,rfl⟩:∃ a b c',c = [a,b,c']:=by
   rcases c with _ | ⟨a,_ | ⟨b,_ | ⟨c,_ | ⟨d,ts⟩⟩⟩⟩ <;> first | exact ⟨_,_,_,rfl⟩ | (simp at hc)
  obtain ⟨x',y',z',rfl⟩:∃ a b c',d = [a,b,c']:=by
   rcases d with _ | ⟨a,_ | ⟨b,_ | ⟨c,_ | ⟨d,ts⟩⟩⟩⟩ <;> first | exact ⟨_,_,_,rfl⟩ | (simp at hd)
  refine ⟨_,rfl,_,rfl,?_⟩
  refine ite2 (fun h1=>?_) (fun h1=>?_)
  ·refine ⟨_,rfl,_,rfl,ite2 (fun h2=>⟨_,rfl,_,rfl,?_⟩) (fun h2=>?_)⟩
   ·have e:letB [x,y,z] [x',y',z'] = decide (z' <= z):=by
     show (decide (x = x') && (decide (y <= y') && decide (z' <= z))) = _
     rw [show decide (x = x') = true from h1,show decide (y <= y') = true from h2]; rfl
    rw [e] at q
    exact q _
   ·have e:letB [x,y,z] [x',y',z'] = false:=by
     show (decide (x = x') && (decide (y <= y') && decide (z' <= z))) = _
     rw [show decide (x = x') = true from h1,show decide (y <= y') = false from Bool.eq_false_iff.mpr h2]; rfl
    rw [e] at q
    exact q _
  ·have e:letB [x,y,z] [x',y',z'] = false:=by
    show (decide (x = x') && (decide (y <= y') && decide (z' <= z))) = _
    rw [show decide (x = x') = false from Bool.eq_false_iff.mpr h1]; rfl
   rw [e] at q
   exact q _
end
end R76
namespace R76
open PySem PySem.Spec L2 L3 PyProof.Rows
theorem getD_at {l:List Int} {i:Nat} {x:Int} (h:l[i]? = some x):l.getD i 0 = x:=by rw [List.getD_eq_getElem?_getD,h]; rfl
theorem at_nat {l:List Int} {i:Int} (h0:0 <= i) (h1:i < l.length):atI (l.map PyData.int) i = some (.int (l.getD i.toNat 0)):=by
 obtain ⟨n,rfl⟩:=Int.eq_ofNat_of_zero_le h0
 exact at_ints (by omega)
theorem bx_wi:∀ {lo hi sd:List Int},Bx lo hi sd -> Wi lo sd /\ Wi hi sd
 | [],[],[],_=>⟨trivial,trivial⟩
 | x :: lo,y :: hi,s :: sd,h=>by
  have ih:=bx_wi h.2
  have:=h.1
  exact ⟨⟨⟨by omega,by omega⟩,ih.1⟩,⟨⟨by omega,by omega⟩,ih.2⟩⟩
 | [],[],_ :: _,h=>h.elim
 | [],_ :: _,z,h=>by cases z <;> exact h.elim
 | _ :: _,[],z,h=>by cases z <;> exact h.elim
 | _ :: _,_ :: _,[],h=>h.elim
theorem bx_set:∀ {lo hi sd:List Int} {i:Nat} {x y:Int},Bx lo hi sd -> i < lo.length -> lo.getD i 0 <= x -> x <= y -> y <= hi.getD i 0 -> Bx (lo.set i x) (hi.set i y) sd
 | a :: lo,b :: hi,s :: sd,0,x,y,h,_,h1,h2,h3=>by
  have:=h.1
  have h1:a <= x:=h1
  have h3:y <= b:=h3
  exact ⟨⟨by omega,h2,by omega⟩,h.2⟩
 | a :: lo,b :: hi,s :: sd,i + 1,x,y,h,hi',h1,h2,h3=>⟨h.1,bx_set (lo:=lo) (hi:=hi) h.2 (by simpa using hi') h1 h2 h3⟩
 | [],_,_,_,_,_,_,h,_,_,_=>by simp at h
 | _ :: _,[],z,_,_,_,h,_,_,_,_=>by cases z <;> exact h.elim
 | _ :: _,_ :: _,[],_,_,_,h,_,_,_,_=>h.elim
theorem cutB_is {b:Bxx} {w a:Int} (h:cutB b w a = true):0 <= w /\ w < b.1.length /\ b.1.getD w.toNat 0 <= a /\ a < b.2.getD w.toNat 0:=by
 unfold cutB at h
 simp only [Bool.and_eq_true,decide_eq_true_eq] at h
 exact ⟨h.1,h.2.1,h.2.2.1,h.2.2.2⟩
theorem bxL_bx {b:Bxx} {sd:List Int} {w a:Int} (hb:Bx b.1 b.2 sd) (h:cutB b w a = true):Bx (bxL b w a).1 (bxL b w a).2 sd:=by
 obtain ⟨h1,h2,h3,h4⟩:=cutB_is h
 exact bx_set hb (by omega) (Int.le_refl _) h3 (by omega)
theorem bxR_bx {b:Bxx} {sd:List Int} {w a:Int} (hb:Bx b.1 b.2 sd) (h:cutB b w a = true):Bx (bxR b w a).1 (bxR b w a).2 sd:=by
 obtain ⟨h1,h2,h3,h4⟩:=cutB_is h
 exact bx_set hb (by omega) (by omega) (by omega) (Int.le_refl _)
section
variable {P:Program} {w:World} {K:PySem.W.Frag} {mg:Str -> Option Value} {base:Heap}
structure CalsCB (P:Program) (w:World) (K:PySem.W.Frag) (mg:Str -> Option Value) (base:Heap):Prop where
 with_stretch:Cal P w K mg base 2 "with_stretch" ["box","way","stretch"] (conSp K cWs)
noncomputable def cCB:Con:=fun args Q=>∃ (b:Bxx) (w a:Int),args = [.fz (boxD b),.fz (.int w),.fz (.int a)] /\ 0 <= w /\ w < b.1.length /\ b.2.length = b.1.length /\ b.1.length <= 3 /\ ∀ o,Q (.ow (.list [boxD (bxL b w a),boxD (bxR b w a)])) o
theorem scCB:FnScope ["box","way","at"] ["box","way","at"] (defScope (top 27)):=⟨rfl,rfl,rfl,by decide +kernel,rfl,by decide +kernel,by decide +kernel⟩
theorem ok_cb {f:Addr} {fd:FuncData} (F:Fun K "cut_boxes" "cut_boxes" (top 27) f fd) (C:CalsCB P w K mg base):FnOk P w K mg base CX0 3 f fd ["box","way","at"] (conSp K cCB):=by
 have S:=scCB
 refine wfn F S (fun cdv A outer s H E hr=>(s_one (s_ret (w_lst (wa_cons (wx (w_fn C.with_stretch (hr.mono (by first | decide | omega)) (wa_cons (wn 0) (wa_cons (wn 1) (wa_cons (wx (w_tup (wa_cons (wx (w_ix rfl (wx (w_ix rfl (wn 0) (wx w_int))) (wn 1))) (wa_cons (wx (wv 2)) wa_nil)))) wa_nil))))) (wa_cons (wx (w_fn C.with_stretch (hr.mono (by first | decide | omega)) (wa_cons (wn 0) (wa_cons (wn 1) (wa_cons (wx (w_tup (wa_cons (wx (w_bin ok_add op_addD (wn 2) (wx w_int))) (wa_cons (wx (w_ix rfl (wx (w_ix rfl (wn 0) (wx w_int))) (wn 1))) wa_nil)))) wa_nil))))) wa_nil)))))) ?_ ?_
 ·rintro args Qd ⟨b,w,a,rfl,_⟩; rfl
 ·rintro args Qd ⟨b,w,a,rfl,h0,h1,h2,h3,q⟩
  refine ⟨noOw_of rfl,?_⟩
  have ew:((w.toNat:Nat):Int) = w:=by omega
  refine ⟨_,rfl,_,at_nat h0 h1,b,w.toNat,(b.1.getD w.toNat 0,a),by rw [ew]; rfl,by omega,h2,by omega,fun o=>?_⟩
  refine ⟨_,rfl,_,at_nat h0 (by omega),b,w.toNat,(a + 1,b.2.getD w.toNat 0),by rw [ew]; rfl,by omega,h2,by omega,fun o=>?_⟩
  exact q _
structure CalsHC (P:Program) (w:World) (K:PySem.W.Frag) (mg:Str -> Option Value) (base:Heap):Prop where
 cell_at:Cal P w K mg base 2 "cell_at" ["field","place"] (conSp K cCa)
 thrice:Cal P w K mg base 1 "thrice" ["number"] (conSp K cTh)
 lets_by:Cal P w K mg base 1 "lets_by" ["claim","told"] (conSp K cLb)
noncomputable def cHC:Con:=fun args Q=>∃ (sd cl:List Int) (b:Bxx) (t l h:Int),args = [.fz (fldD sd cl),.fz (boxD b),.fz (pD (.cell t l h))] /\ Sd sd /\ cl.length = (plc sd).length /\ Bx b.1 b.2 sd /\ ∀ o,Q (.fz (.bool (okP sd cl b (.cell t l h)))) o
theorem scHC:FnScope ["field","box","paper"] ["field","box","paper"] (defScope (top 28)):=⟨rfl,rfl,rfl,by decide +kernel,rfl,by decide +kernel,by decide +kernel⟩
theorem ok_hc {f:Addr} {fd:FuncData} (F:Fun K "holds_cell" "holds_cell" (top 28) f fd) (C:CalsHC P w K mg base):FnOk P w K mg base CX0 3 f fd ["field","box","paper"] (conSp K cHC):=by
 have S:=scHC
 refine wfn F S (fun cdv A outer s H E hr=>(s_one (s_ret (w_and (w_cmp ok_eq (op_eqE (K:=K) rfl hr.units) (wx (w_ix rfl (wn 1) (wx w_int))) (wx (w_ix rfl (wn 1) (wx w_int)))) (w_one (w_fn C.lets_by (hr.mono (by first | decide | omega)) (wa_cons (wx (w_ix rfl (wn 2) (wx w_int))) (wa_cons (wx (w_fn C.thrice (hr.mono (by first | decide | omega)) (wa_cons (wx (w_fn C.cell_at (hr.mono (by first | decide | omega)) (wa_cons (wn 0) (wa_cons (wx (w_ix rfl (wn 1) (wx w_int))) wa_nil)))) wa_nil))) wa_nil)))))))) ?_ ?_
 ·rintro args Qd ⟨sd,cl,b,t,l,h,rfl,_⟩; rfl
 ·rintro args Qd ⟨sd,cl,b,t,l,h,rfl,hsd,hcl,hb,q⟩
  refine ⟨noOw_of rfl,?_⟩
  have n1:=Nice.tup b.1
  have n2:=Nice.tup b.2
  refine ⟨_,rfl,_,rfl,n1.p,n2.p,n1.sh (by decide),n2.sh (by decide),mix_tup _ _,?_⟩
  refine ite2 (fun h1=>?_) (fun h1=>?_)
  ·have h1:same (tupD b.1) (tupD b.2) = true:=h1
   rw [same_tup] at h1
   refine ⟨_,rfl,_,rfl,sd,cl,b.1,rfl,hsd,hcl,(bx_wi hb).1,fun o=>⟨_,rfl,fun o=>⟨[t,l,h],_,rfl,rfl,rfl,fun o=>?_⟩⟩⟩
   have e:okP sd cl b (.cell t l h) = letB [t,l,h] [cel sd cl b.1,cel sd cl b.1,cel sd cl b.1]:=by
    show (decide (b.1 = b.2) && _) = _
    rw [h1]; rfl
   rw [e] at q
   exact q _
  ·have h1:¬ same (tupD b.1) (tupD b.2) = true:=h1
   rw [same_tup] at h1
   have e:okP sd cl b (.cell t l h) = false:=by
    show (decide (b.1 = b.2) && _) = _
    rw [Bool.eq_false_iff.mpr h1]; rfl
   rw [e] at q
   exact q _
structure CalsCu (P:Program) (w:World) (K:PySem.W.Frag) (mg:Str -> Option Value) (base:Heap):Prop where
 is_whole:Cal P w K mg base 1 "is_whole" ["thing"] (conSp K cWhole)
noncomputable def cCu:Con:=fun args Q=>∃ (b:Bxx) (w a:PyData),args = [.fz (boxD b),.fz w,.fz a] /\ okD w = true /\ okD a = true /\ b.2.length = b.1.length /\ ∀ o,Q (.fz (.bool (cutsD b w a))) o
theorem scCu:FnScope ["box","way","at"] ["box","way","at"] (defScope (top 29)):=⟨rfl,rfl,rfl,by decide +kernel,rfl,by decide +kernel,by decide +kernel⟩
theorem ok_cu {f:Addr} {fd:FuncData} (F:Fun K "cuts_box" "cuts_box" (top 29) f fd) (T:Txt mg) (C:CalsCu P w K mg base):FnOk P w K mg base CX0 2 f fd ["box","way","at"] (conSp K cCu):=by
 have S:=scCu
 refine wfn F S (fun cdv A outer s H E hr=>(s_cons (s_if (t_w (t_or (t_not (t_val (w_fn C.is_whole (hr.mono (by first | decide | omega)) (wa_cons (wn 1) wa_nil)))) (t_or (t_not (t_val (w_fn C.is_whole (hr.mono (by first | decide | omega)) (wa_cons (wn 2) wa_nil)))) (t_or (t_cmp ok_lt op_lt (wn 1) (wx w_int)) (t_or1 (t_cmp ok_ge op_ge (wn 1) (wx (w_callB ok_len (call_lenK (K:=K) rfl) T.len_ PySem.boot_len (wa_cons (wx (w_ix rfl (wn 0) (wx w_int))) wa_nil))))))))) (s_one (s_ret w_bl)) s_nil)
     (s_one (s_ret (w_chain op_le op_lt (wx (w_ix rfl (wx (w_ix rfl (wn 0) (wx w_int))) (wn 1))) (wn 2) (wx (w_ix rfl (wx (w_ix rfl (wn 0) (wx w_int))) (wn 1)))))))) ?_ ?_
 ·rintro args Qd ⟨b,w,a,rfl,_⟩; rfl
 ·rintro args Qd ⟨b,wd,ad,rfl,hw,ha,hl,q⟩
  refine ⟨noOw_of rfl,?_⟩
  cases wd with
  | dict es=>exact ⟨_,rfl,hw,fun o=>q _⟩
  | bool b=>exact ⟨_,rfl,hw,fun o=>q _⟩
  | none=>exact ⟨_,rfl,hw,fun o=>q _⟩
  | str x=>exact ⟨_,rfl,hw,fun o=>q _⟩
  | list xs=>exact ⟨_,rfl,hw,fun o=>q _⟩
  | tuple xs=>exact ⟨_,rfl,hw,fun o=>q _⟩
  | int w =>
   cases ad with
   | dict es=>exact ⟨_,rfl,rfl,fun o=>⟨_,rfl,ha,fun o=>q _⟩⟩
   | bool b=>exact ⟨_,rfl,rfl,fun o=>⟨_,rfl,ha,fun o=>q _⟩⟩
   | none=>exact ⟨_,rfl,rfl,fun o=>⟨_,rfl,ha,fun o=>q _⟩⟩
   | str x=>exact ⟨_,rfl,rfl,fun o=>⟨_,rfl,ha,fun o=>q _⟩⟩
   | list xs=>exact ⟨_,rfl,rfl,fun o=>⟨_,rfl,ha,fun o=>q _⟩⟩
   | tuple xs=>exact ⟨_,rfl,rfl,fun o=>⟨_,rfl,ha,fun o=>q _⟩⟩
   | int a =>
    have q:∀ o,Qd (.fz (.bool (cutB b w a))) o:=q
    refine ⟨_,rfl,rfl,fun o=>⟨_,rfl,rfl,fun o=>?_⟩⟩
    refine ite2 (fun h=>(Bool.false_ne_true h).elim) (fun _=>?_)
    refine ite2 (fun h1=>?_) (fun h1=>?_)
    ·have h1:w < 0:=of_decide_eq_true h1
     have e:cutB b w a = false:=by
      unfold cutB
      rw [decide_eq_false (show ¬ 0 <= w by omega)]; rfl
     rw [e] at q
     exact q _
    have h1:0 <= w:=Int.not_lt.mp fun z=>h1 (decide_eq_true z)
    refine ⟨_,rfl,ite2 (fun h2=>?_) (fun h2=>?_)⟩
    ·have h2:decide (((b.1.map PyData.int).length:Int) <= w) = true:=h2
     rw [List.length_map] at h2
     have h2:=of_decide_eq_true h2
     have e:cutB b w a = false:=by
      unfold cutB
      rw [decide_eq_false (show ¬ w < (b.1.length:Int) by omega),Bool.false_and,Bool.and_false]
     rw [e] at q
     exact q _
    have h2:¬ decide (((b.1.map PyData.int).length:Int) <= w) = true:=h2
    rw [List.length_map] at h2
    have h2:w < b.1.length:=Int.not_le.mp fun z=>h2 (decide_eq_true z)
    have e:cutB b w a = (decide (b.1.getD w.toNat 0 <= a) && decide (a < b.2.getD w.toNat 0)):=by
     unfold cutB
     rw [decide_eq_true h1,decide_eq_true h2]; rfl
    rw [e] at q
    refine ⟨_,rfl,_,at_nat h1 h2,ite2 (fun h3=>⟨_,rfl,_,at_nat h1 (by omega),?_⟩) (fun h3=>?_)⟩
    ·have h3:decide (b.1.getD w.toNat 0 <= a) = true:=h3
     rw [h3,Bool.true_and] at q
     exact q _
    ·have h3:¬ decide (b.1.getD w.toNat 0 <= a) = true:=h3
     rw [Bool.eq_false_iff.mpr h3,Bool.false_and] at q
     exact q _
noncomputable def cPo:Con:=fun args Q=>∃ (t l h:Int) (w a:PyData) (p q:Tr),args = [.fz (tD (.cut t l h w a p q))] /\ ∀ o,Q (.ow (.list [tD p,tD q])) o
theorem scPo:FnScope ["paper"] ["paper"] (defScope (top 30)):=⟨rfl,rfl,rfl,by decide +kernel,rfl,by decide +kernel,by decide +kernel⟩
theorem ok_po {f:Addr} {fd:FuncData} (F:Fun K "parts_of" "parts_of" (top 30) f fd) (L:Cls K mg):FnOk P w K mg base CX0 1 f fd ["paper"] (conSp K cPo):=by
 have S:=scPo
 refine wfn F S (fun cdv A outer s H E hr=>(s_one (s_ret (w_comp rfl (own:=["part"]) (fr:=[0]) (by kernel_rfl) (i_gtup rfl L.PARTS_) (fun _ _ _ _=>(g_name (i:=0) (by decide +kernel:List.Nodup (["part","paper"]:List Str)) rfl (Or.inl rfl))) (fun _ _ _ _=>if0) (fun _ _ _ _=>(w_ix rfl (wn 1) (wn 0))))))) ?_ ?_
 ·rintro args Qd ⟨t,l,h,w,a,p,q,rfl,_⟩; rfl
 ·rintro args Qd ⟨t,l,h,w,a,p,q,rfl,k⟩
  refine ⟨noOw_of rfl,?_⟩
  exact ⟨le_size (by simp),_,rfl,_,rfl,k _⟩
end
end R76
namespace R76
open PySem PySem.Spec L2 L3 PyProof.Rows
noncomputable def looksT (b:Bxx) (t l h:Int) (w a:PyData) (p q:Tr):Bool:=cutsD b w a && (p.clm && (q.clm && letB [t,l,h] (comb p.cl q.cl)))
theorem cuts_is {b:Bxx} {w a:PyData} (h:cutsD b w a = true):∃ x y:Int,w = .int x /\ a = .int y /\ cutB b x y = true:=by
 cases w <;> cases a <;> first | cases h | exact ⟨_,_,rfl,rfl,h⟩
theorem okT_cut (sd cl:List Int) (b:Bxx) (t l h:Int) (w a:PyData) (p q:Tr):okT sd cl b (.cut t l h w a p q) = (looksT b t l h w a p q && (okT sd cl (bxL b (unI w) (unI a)) p && okT sd cl (bxR b (unI w) (unI a)) q)):=by
 show (cutsD b w a && (p.clm && (q.clm && (letB [t,l,h] (comb p.cl q.cl) && (okT sd cl (bxL b (unI w) (unI a)) p && okT sd cl (bxR b (unI w) (unI a)) q))))) = _
 unfold looksT
 simp only [Bool.and_assoc]
section
variable {P:Program} {w:World} {K:PySem.W.Frag} {mg:Str -> Option Value} {base:Heap}
structure CalsHu (P:Program) (w:World) (K:PySem.W.Frag) (mg:Str -> Option Value) (base:Heap):Prop where
 cuts_box:Cal P w K mg base 2 "cuts_box" ["box","way","at"] (conSp K cCu)
 parts_of:Cal P w K mg base 1 "parts_of" ["paper"] (conSp K cPo)
 is_claimed:Cal P w K mg base 5 "is_claimed" ["thing"] (conSp K cIm)
 put_together:Cal P w K mg base 1 "put_together" ["parts"] (conSp K cPt)
 lets_by:Cal P w K mg base 1 "lets_by" ["claim","told"] (conSp K cLb)
noncomputable def cHu:Con:=fun args Q=>∃ (b:Bxx) (t l h:Int) (w a:PyData) (p q:Tr),args = [.fz (boxD b),.fz (tD (.cut t l h w a p q))] /\ (Tr.cut t l h w a p q).wf /\ b.2.length = b.1.length /\ ∀ o,Q (.fz (.bool (looksT b t l h w a p q))) o
theorem scHu:FnScope ["box","paper"] ["box","paper"] (defScope (top 31)):=⟨rfl,rfl,rfl,by decide +kernel,rfl,by decide +kernel,by decide +kernel⟩
theorem ok_hu {f:Addr} {fd:FuncData} (F:Fun K "holds_cut" "holds_cut" (top 31) f fd) (T:Txt mg) (C:CalsHu P w K mg base):FnOk P w K mg base CX0 6 f fd ["box","paper"] (conSp K cHu):=by
 have S:=scHu
 refine wfn F S (fun cdv A outer s H E hr=>(s_cons (s_if (t_w (t_or (t_not (t_val (w_fn C.cuts_box (hr.mono (by first | decide | omega)) (wa_cons (wn 0) (wa_cons (wx (w_ix rfl (wn 1) (wx w_int))) (wa_cons (wx (w_ix rfl (wn 1) (wx w_int))) wa_nil)))))) (t_or1 (t_not (t_val (w_callB ok_all (call_allK (K:=K) rfl rfl) T.all_ boot_all (wa_cons (wx (w_comp rfl (own:=["part"]) (fr:=[]) (by kernel_rfl) (i_seq rfl (w_fn C.parts_of (hr.mono (by first | decide | omega)) (wa_cons (wn 1) wa_nil))) (fun _ _ _ _=>(g_name (i:=0) (by decide +kernel:List.Nodup (["part"]:List Str)) rfl (Or.inl rfl))) (fun _ _ _ _=>if0) (fun _ _ _ _=>(w_fn C.is_claimed (hr.mono (by first | decide | omega)) (wa_cons (wn 0) wa_nil))))) wa_nil))))))) (s_one (s_ret w_bl)) s_nil)
     (s_one (s_ret (w_fn C.lets_by (hr.mono (by first | decide | omega)) (wa_cons (wx (w_ix rfl (wn 1) (wx w_int))) (wa_cons (wx (w_fn C.put_together (hr.mono (by first | decide | omega)) (wa_cons (wx (w_comp rfl (own:=["part"]) (fr:=[]) (by kernel_rfl) (i_seq rfl (w_fn C.parts_of (hr.mono (by first | decide | omega)) (wa_cons (wn 1) wa_nil))) (fun _ _ _ _=>(g_name (i:=0) (by decide +kernel:List.Nodup (["part"]:List Str)) rfl (Or.inl rfl))) (fun _ _ _ _=>if0) (fun _ _ _ _=>(w_ix rfl (wn 0) (wx w_int))))) wa_nil))) wa_nil))))))) ?_ ?_
 ·rintro args Qd ⟨b,t,l,h,w,a,p,q,rfl,_⟩; rfl
 ·rintro args Qd ⟨b,t,l,h,w,a,p,q,rfl,⟨hw,ha,hp,hq⟩,hl,k⟩
  refine ⟨noOw_of rfl,?_⟩
  refine ⟨_,rfl,_,rfl,b,w,a,rfl,hw,ha,hl,fun o=>?_⟩
  have e:looksT b t l h w a p q = (cutsD b w a && (p.clm && (q.clm && letB [t,l,h] (comb p.cl q.cl)))):=rfl
  cases hc:cutsD b w a with
  | false =>
   rw [e,hc,Bool.false_and] at k
   exact k _
  | true =>
   rw [e,hc,Bool.true_and] at k
   refine ⟨t,l,h,w,a,p,q,rfl,fun o=>⟨le_size (by simp),p,rfl,hp,fun o=>⟨q,rfl,hq,fun o=>⟨[p.clm,q.clm],rfl,?_⟩⟩⟩⟩
   cases p with
   | odd d=>exact k _
   | _ =>
    cases q with
    | odd d=>exact k _
    | _ =>
     refine ⟨_,rfl,t,l,h,w,a,_,_,rfl,fun o=>?_⟩
     exact ⟨le_size (by simp),_,rfl,_,rfl,_,_,rfl,rfl,rfl,fun o=>⟨[t,l,h],_,rfl,rfl,rfl,fun o=>k _⟩⟩
noncomputable abbrev wtD (x:Bxx × Tr):PyData:=.tuple [boxD x.1,tD x.2]
structure CalsHP (P:Program) (w:World) (K:PySem.W.Frag) (mg:Str -> Option Value) (base:Heap):Prop where
 is_cut:Cal P w K mg base 4 "is_cut" ["thing"] (conSp K cIt)
 holds_cut:Cal P w K mg base 6 "holds_cut" ["box","paper"] (conSp K cHu)
 cut_boxes:Cal P w K mg base 3 "cut_boxes" ["box","way","at"] (conSp K cCB)
 parts_of:Cal P w K mg base 1 "parts_of" ["paper"] (conSp K cPo)
 is_cell:Cal P w K mg base 4 "is_cell" ["thing"] (conSp K cIc)
 holds_cell:Cal P w K mg base 3 "holds_cell" ["field","box","paper"] (conSp K cHC)
noncomputable def cHP:Con:=fun args Q=>∃ (sd cl:List Int) (b:Bxx) (p:Tr),args = [.fz (fldD sd cl),.fz (boxD b),.fz (tD p)] /\ Sd sd /\ cl.length = (plc sd).length /\ Bx b.1 b.2 sd /\ p.wf /\ p.sz <= 1000 /\ ∀ o,Q (.fz (.bool (okT sd cl b p))) o
theorem scHP:FnScope ["field","box","thing","waiting","piece","boxes"] ["field","box","thing"] (defScope (top 32)):=⟨rfl,rfl,rfl,by decide +kernel,rfl,by decide +kernel,by decide +kernel⟩
theorem ok_hp {f:Addr} {fd:FuncData} (F:Fun K "holds_paper" "holds_paper" (top 32) f fd) (T:Txt mg) (C:CalsHP P w K mg base):FnOk P w K mg base CX0 7 f fd ["field","box","thing"] (conSp K cHP):=by
 have S:=scHP
 refine wfn F S (fun cdv A outer s H E hr=>(s_cons (s_set (i:=3) S.nd rfl (Or.inl rfl) (w_lst (wa_cons (wx (w_tup (wa_cons (wx (wv 1)) (wa_cons (wx (wv 2)) wa_nil)))) wa_nil)))
     (s_cons (s_while PassesOwn.never (t_cmp ok_gt op_gt (wx (w_callB ok_len (call_lenK (K:=K) rfl) T.len_ PySem.boot_len (wa_cons (wn 3) wa_nil))) (wx w_int)) (s_cons (s_set (i:=4) S.nd rfl (Or.inl rfl) (w_m0 ok_pop rfl PySem.F.slot_list_pop PySem.F.type_list_pop mt_pop (wn 3)))
     (s_one (s_if (t_w (t_and (t_val (w_fn C.is_cut (hr.mono (by first | decide | omega)) (wa_cons (wx (w_ix rfl (wn 4) (wx w_int))) wa_nil))) (t_and1 (t_val (w_fn C.holds_cut (hr.mono (by first | decide | omega)) (wa_cons (wx (w_ix rfl (wn 4) (wx w_int))) (wa_cons (wx (w_ix rfl (wn 4) (wx w_int))) wa_nil))))))) (s_cons (s_set (i:=5) S.nd rfl (Or.inl rfl) (w_fn C.cut_boxes (hr.mono (by first | decide | omega)) (wa_cons (wx (w_ix rfl (wn 4) (wx w_int))) (wa_cons (wx (w_ix rfl (wx (w_ix rfl (wn 4) (wx w_int))) (wx w_int))) (wa_cons (wx (w_ix rfl (wx (w_ix rfl (wn 4) (wx w_int))) (wx w_int))) wa_nil)))))
     (s_one (s_expr (w_m ok_extend rfl PySem.F.slot_list_extend PySem.F.type_list_extend mt_extend (wn 3) (wa_cons (wx (w_LZ rfl rfl T.list_ T.zip_ (wa_cons (wn 5) (wa_cons (wx (w_fn C.parts_of (hr.mono (by first | decide | omega)) (wa_cons (wx (w_ix rfl (wn 4) (wx w_int))) wa_nil))) wa_nil)))) wa_nil))))) (s_one (s_if (t_w (t_or (t_not (t_val (w_fn C.is_cell (hr.mono (by first | decide | omega)) (wa_cons (wx (w_ix rfl (wn 4) (wx w_int))) wa_nil)))) (t_or1 (t_not (t_val (w_fn C.holds_cell (hr.mono (by first | decide | omega)) (wa_cons (wn 0) (wa_cons (wx (w_ix rfl (wn 4) (wx w_int))) (wa_cons (wx (w_ix rfl (wn 4) (wx w_int))) wa_nil))))))))) (s_one (s_ret w_bl)) s_nil))))))
     (s_one (s_ret w_bl))))) ?_ ?_
 ·rintro args Qd ⟨sd,cl,b,p,rfl,_⟩; rfl
 ·rintro args Qd ⟨sd,cl,b,p,rfl,hsd,hcl,hb,hwf,hz,q⟩
  refine ⟨noOw_of rfl,?_⟩
  refine ⟨fun m ρ=>∃ (ws:List (Bxx × Tr)) (x y:Option Sl),ρ = [some (.fz (fldD sd cl)),some (.fz (boxD b)),some (.fz (tD p)),some (.ow (.list (ws.map wtD))),x,y] /\ (∀ z ∈ ws,Bx z.1.1 z.1.2 sd /\ z.2.wf) /\ okT sd cl b p = (ws.all fun z=>okT sd cl z.1 z.2) /\ m = (ws.map fun z=>z.2.sz).sum /\ m <= 1000 /\ ((x = none /\ y = none) \/ ∃ d,x = some (.fz d) /\ (y = none \/ ∃ e,y = some (.ow e))),⟨_,[(b,p)],none,none,rfl,by simp [hb,hwf],by simp,rfl,by simp [hz],.inl ⟨rfl,rfl⟩⟩,?_⟩
  rintro m ρ ⟨ws,x,y,rfl,hw,hok,rfl,hm,hxy⟩
  have h3:=hsd.l3
  rcases hxy with ⟨rfl,rfl⟩ | ⟨d,rfl,rfl | ⟨e,rfl⟩⟩
  all_goals
   refine ite2 (fun h=>?_) (fun h=>?_)
   ·refine ⟨fun ρ'=>∃ m',m' < (ws.map fun z=>z.2.sz).sum /\ _,fun ρ' h=>h,?_⟩
    obtain ⟨ws,⟨bb,pp⟩,rfl⟩:∃ ws' x,ws = ws' ++ [x]:=by
     rcases List.eq_nil_or_concat ws with e | ⟨a,b,e⟩
     ·subst e; simp at h
     ·exact ⟨a,b,by simpa using e⟩
    have e1:((ws ++ [(bb,pp)]).map wtD)[((ws ++ [(bb,pp)]).map wtD).length - 1]? = some (wtD (bb,pp)):=by simp
    have e2:((ws ++ [(bb,pp)]).map wtD).dropLast = ws.map wtD:=by simp
    obtain ⟨hbb,hpw⟩:Bx bb.1 bb.2 sd /\ pp.wf:=hw (bb,pp) (by simp)
    have hbl:=bx_len hbb
    have hw':∀ z ∈ ws,Bx z.1.1 z.1.2 sd /\ z.2.wf:=fun z hz=>hw z (by simp [hz])
    have hsum:((ws ++ [(bb,pp)]).map fun z=>z.2.sz).sum = (ws.map fun z=>z.2.sz).sum + pp.sz:=by simp
    have hall:((ws ++ [(bb,pp)]).all fun z=>okT sd cl z.1 z.2) = ((ws.all fun z=>okT sd cl z.1 z.2) && okT sd cl bb pp):=by simp
    rw [hsum] at hm ⊢
    rw [hall] at hok
    have hpos:=pp.sz1
    have hwl:ws.length <= (ws.map fun z=>z.2.sz).sum:=by
     clear hok hm hw' hw h e1 e2 hsum hall
     induction ws with
     | nil=>simp
     | cons z ws ih=>have:=z.2.sz1; simp only [List.map_cons,List.sum_cons,List.length_cons]; omega
    have bad:okT sd cl bb pp = false -> ∀ o,Qd (.fz (.bool false)) o:=fun hf=>by
     rw [hok,hf,Bool.and_false] at q
     exact q
    refine ⟨_,e1,?_⟩
    rw [e2]
    cases pp with
    | odd d =>
     refine ⟨_,rfl,.odd d,rfl,hpw,fun o=>?_⟩
     refine ⟨_,rfl,.odd d,rfl,hpw,fun o=>?_⟩
     exact bad rfl _
    | cell t l hh =>
     refine ⟨_,rfl,.cell t l hh,rfl,trivial,fun o=>?_⟩
     refine ⟨_,rfl,.cell t l hh,rfl,trivial,fun o=>?_⟩
     refine ⟨_,rfl,_,rfl,sd,cl,bb,t,l,hh,rfl,hsd,hcl,hbb,fun o=>?_⟩
     have ec:okT sd cl bb (.cell t l hh) = okP sd cl bb (.cell t l hh):=rfl
     rw [<- ec]
     cases hf:okT sd cl bb (.cell t l hh) with
     | false=>exact bad hf _
     | true =>
      rw [hf,Bool.and_true] at hok
      exact ⟨_,by omega,ws,_,_,rfl,hw',hok,rfl,by omega,.inr ⟨_,rfl,by first | exact .inl rfl | exact .inr ⟨_,rfl⟩⟩⟩
    | cut t l hh wd ad p1 p2 =>
     refine ⟨_,rfl,.cut t l hh wd ad p1 p2,rfl,hpw,fun o=>?_⟩
     refine ⟨_,rfl,_,rfl,bb,t,l,hh,wd,ad,p1,p2,rfl,hpw,by omega,fun o=>?_⟩
     have eo:=okT_cut sd cl bb t l hh wd ad p1 p2
     cases hf:looksT bb t l hh wd ad p1 p2 with
     | false =>
      refine ⟨_,rfl,.cut t l hh wd ad p1 p2,rfl,hpw,fun o=>?_⟩
      refine bad ?_ _
      rw [eo,hf]
      rfl
     | true =>
      rw [hf,Bool.true_and] at eo
      rw [eo] at hok
      obtain ⟨wy,at_,rfl,rfl,hcut⟩:=cuts_is (by
        cases z:cutsD bb wd ad with
        | true=>rfl
        | false=>unfold looksT at hf; rw [z] at hf; cases hf)
      obtain ⟨_,_,w1,w2⟩:=hpw
      obtain ⟨g1,g2,g3,g4⟩:=cutB_is hcut
      have esz:(Tr.cut t l hh (.int wy) (.int at_) p1 p2).sz = 1 + p1.sz + p2.sz:=rfl
      rw [esz] at hm ⊢
      have z1:=p1.sz1
      have z2:=p2.sz1
      refine ⟨_,rfl,_,rfl,_,rfl,_,rfl,_,rfl,bb,wy,at_,rfl,g1,g2,by omega,by omega,fun o=>?_⟩
      have eb:(ws ++ [(bxL bb wy at_,p1),(bxR bb wy at_,p2)]).map wtD = ws.map wtD ++ [wtD (bxL bb wy at_,p1),wtD (bxR bb wy at_,p2)]:=by rw [List.map_append]; rfl
      refine ⟨_,rfl,t,l,hh,.int wy,.int at_,p1,p2,rfl,fun o=>?_⟩
      refine ⟨_,_,rfl,rfl,?_⟩
      refine ⟨by rw [List.length_map]; exact le_size (by simp; omega),?_⟩
      refine ⟨_,?_,ws ++ [(bxL bb wy at_,p1),(bxR bb wy at_,p2)],_,_,by rw [eb]; rfl,fun z hz=>?_,?_,rfl,?_,.inr ⟨_,rfl,.inr ⟨_,rfl⟩⟩⟩
      ·first | (simp; done) | (simp; omega)
      ·rcases List.mem_append.mp hz with hz | hz
       ·exact hw' z hz
       ·have hz:z = (bxL bb wy at_,p1) \/ z = (bxR bb wy at_,p2):=by simpa using hz
        rcases hz with rfl | rfl
        ·exact ⟨bxL_bx hbb hcut,w1⟩
        ·exact ⟨bxR_bx hbb hcut,w2⟩
      ·rw [hok]; simp [unI]
      ·first | (simp; done) | (simp; omega)
   ·have e:ws = []:=by
     cases ws with
     | nil=>rfl
     | cons a b=>exact absurd (decide_eq_true (by simp)) h
    subst e
    have hok:okT sd cl b p = true:=hok
    rw [hok] at q
    exact q _
end
end R76
namespace R76
open PySem PySem.Spec L2 L3 PyProof.Rows
noncomputable def lws (b:Bxx):List Int:=((List.range b.1.length).filter fun i=>decide (b.1.getD i 0 < b.2.getD i 0)).map fun (i:Nat)=>(i:Int)
theorem lws_mem {b:Bxx} (hl:b.2.length = b.1.length) {x:Int} (h:x ∈ lws b):∃ (i:Nat) (a c:Int),x = i /\ i < b.1.length /\ b.1[i]? = some a /\ b.2[i]? = some c /\ a < c:=by
 obtain ⟨i,hi,rfl⟩:=List.mem_map.mp h
 obtain ⟨h1,h2⟩:=List.mem_filter.mp hi
 have h1:=List.mem_range.mp h1
 have e1:b.1[i]? = some (b.1.getD i 0):=by rw [List.getD_eq_getElem?_getD,List.getElem?_eq_getElem h1]; rfl
 have e2:b.2[i]? = some (b.2.getD i 0):=by rw [List.getD_eq_getElem?_getD,List.getElem?_eq_getElem (by omega)]; rfl
 exact ⟨i,_,_,rfl,h1,e1,e2,of_decide_eq_true h2⟩
theorem lws_nil {sd:List Int} {b:Bxx} (hb:Bx b.1 b.2 sd) (h:lws b = []):b.2 = b.1:=by
 have hl:=bx_len hb
 have h1:=List.filter_eq_nil_iff.mp (List.map_eq_nil_iff.mp h)
 refine List.ext_getElem (by omega) fun i h2 h3=>?_
 have h4:=h1 i (List.mem_range.mpr h3)
 have hp:=bx_pair hb (b.1[i],b.2[i]) (by
   have:i < (b.1.zip b.2).length:=by rw [List.length_zip]; omega
   have e:=List.getElem_zip (l:=b.1) (l':=b.2) (i:=i) (h:=this)
   rw [<- e]
   exact List.getElem_mem _)
 rw [List.getD_eq_getElem?_getD,List.getD_eq_getElem?_getD,List.getElem?_eq_getElem h3,List.getElem?_eq_getElem h2] at h4
 simp at h4
 have:=hp.2.1
 simp only at this
 omega
theorem pick4 {r m:Int} (r0:0 <= r) (r1:r < 4) (hm:1 <= m):∃ ts:List Int,atI [PyData.list [.int m],.list [.int 6,.int 6],.list [.int 4,.int 4,.int 4],.list [.int 2,.int m]] r = some (.list (ts.map PyData.int)) /\ 1 <= ts.length /\ ts.length <= 3 /\ ∀ t ∈ ts,1 <= t:=by
 rcases (show r = 0 \/ r = 1 \/ r = 2 \/ r = 3 by omega) with rfl | rfl | rfl | rfl
 ·exact ⟨[m],rfl,by simp,by simp,by simp [hm]⟩
 ·exact ⟨[6,6],rfl,by decide,by decide,by simp⟩
 ·exact ⟨[4,4,4],rfl,by decide,by decide,by simp⟩
 ·exact ⟨[2,m],rfl,by simp,by simp,by simp [hm]⟩
noncomputable def unT:PyData -> List PyData
 | .tuple l=>l
 | _=>[]
section
variable {P:Program} {w:World} {K:PySem.W.Frag} {mg:Str -> Option Value} {base:Heap}
structure CalsSi (P:Program) (w:World) (K:PySem.W.Frag) (mg:Str -> Option Value) (base:Heap):Prop where
 law_draw:Cal P w K mg base 1 "_law_draw" ["_law_pen_here","_law_many"] (conSp K cDraw)
noncomputable def cSides:Con:=fun args Q=>∃ (a b c m:Int),args = [.io (penD a b c),.fz (.int m)] /\ 0 <= a /\ 0 <= b /\ 0 <= c /\ 1 <= m /\ m <= 120 /\
 ∀ (sd:List Int) (a' b' c':Int) (o:Ev),Sd sd -> prodI sd <= m -> 0 <= a' -> 0 <= b' -> 0 <= c' -> Q (.fz (tupD sd)) (some (.io (penD a' b' c')) :: o)
theorem scSides:FnScope ["_law_pen_here","_law_most","_law_found","_law_room","_law_top","_law_side"] ["_law_pen_here","_law_most"] (defScope (top 37)):=⟨rfl,rfl,rfl,by decide +kernel,rfl,by decide +kernel,by decide +kernel⟩
theorem ok_sides {f:Addr} {fd:FuncData} (F:Fun K "_law_sides" "_law_sides" (top 37) f fd) (T:Txt mg) (C:CalsSi P w K mg base):FnOk P w K mg base CX0 2 f fd ["_law_pen_here","_law_most"] (conSp K cSides):=by
 have S:=scSides
 refine wfn F S (fun cdv A outer s H E hr=>(s_cons (s_set (i:=2) S.nd rfl (Or.inl rfl) (w_lst wa_nil))
     (s_cons (s_move (i:=3) S.nd rfl (Or.inl rfl) (wn 1))
     (s_cons (s_for [4,5] PassesOwn.never rfl (i_seq rfl (w_ix rfl (wx (w_lst (wa_cons (wx (w_lst (wa_cons (wx (wv 1)) wa_nil))) (wa_cons (wx (w_lst (wa_cons (wx w_int) (wa_cons (wx w_int) wa_nil)))) (wa_cons (wx (w_lst (wa_cons (wx w_int) (wa_cons (wx w_int) (wa_cons (wx w_int) wa_nil))))) (wa_cons (wx (w_lst (wa_cons (wx w_int) (wa_cons (wx (wv 1)) wa_nil)))) wa_nil)))))) (wx (w_fnI C.law_draw (hr.mono (by first | decide | omega)) (wa_cons (wn 0) (wa_cons (wx w_int) wa_nil)))))) (g_name (i:=4) S.nd rfl (Or.inl rfl)) (s_cons (s_set (i:=5) S.nd rfl (Or.inl rfl) (w_bin ok_add op_addD (wx w_int) (wx (w_fnI C.law_draw (hr.mono (by first | decide | omega)) (wa_cons (wn 0) (wa_cons (wx (w_callB ok_2I (call_min2 rfl) T.min_ boot_min (wa_cons (wn 3) (wa_cons (wn 4) wa_nil)))) wa_nil))))))
     (s_cons (s_set (i:=3) S.nd rfl (Or.inl rfl) (w_bin ok_fdiv op_fdiv (wn 3) (wn 5)))
     (s_one (s_expr (w_m ok_append rfl PySem.F.slot_list_append PySem.F.type_list_append mt_append (wn 2) (wa_cons (wx (wv 5)) wa_nil)))))))
     (s_one (s_ret (w_callT ok_tuple (call_tupleK (K:=K) rfl) T.tuple_ boot_tuple (wa_cons (wn 2) wa_nil)))))))) ?_ ?_
 ·rintro args Qd ⟨a,b,c,m,rfl,_⟩; rfl
 ·rintro args Qd ⟨a,b,c,m,rfl,ha,hb,hc,m1,m2,q⟩
  refine ⟨noOw_of rfl,?_⟩
  refine ⟨a,b,c,_,rfl,ha,hb,hc,by decide,by decide,fun r a1 b1 c1 _ r0 r1 ha1 hb1 hc1=>?_⟩
  obtain ⟨ts,et,t1,t3,tp⟩:=pick4 (m:=m) r0 r1 m1
  refine ⟨_,et,?_⟩
  refine loopC (fun rest ρ=>∃ (cs rs:List Int) (r a b c:Int),ρ = [some (.io (penD a b c)),some (.fz (.int m)),some (.ow (.list (cs.map PyData.int))),some (.fz (.int r)),none,none] /\ rest = rs.map PyData.int /\ (∀ t ∈ rs,1 <= t) /\ cs.length + rs.length = ts.length /\ (∀ c ∈ cs,1 <= c) /\ 1 <= r /\ prodI cs * r <= m /\ r <= m /\ 0 <= a /\ 0 <= b /\ 0 <= c) ?_ ?_
   ⟨[],ts,m,a1,b1,c1,rfl,rfl,tp,by simp,by simp,m1,by show 1 * m <= m; omega,Int.le_refl _,ha1,hb1,hc1⟩
  ·rintro d ds ρ ⟨cs,rs,r,a,b,c,rfl,er,hrs,hln,hcs,hr1,hpr,hrm,ha,hb,hc⟩ N hN
   cases rs with
   | nil=>cases er
   | cons t rs =>
    cases er
    have ht:=hrs t List.mem_cons_self
    have hmin:(if t < r then t else r) = min r t:=by split <;> omega
    refine ⟨a,b,c,min r t,by rw [<- hmin]; rfl,ha,hb,hc,by omega,by omega,fun x a2 b2 c2 _ x0 x1 ha2 hb2 hc2=>?_⟩
    refine ⟨⟨by show (0:Int) < 1 + x; omega,by show 1 + x < 1073741824; omega⟩,?_⟩
    refine ⟨by rw [List.length_map]; exact Nat.lt_of_le_of_lt (show cs.length <= 3 by omega) (by decide),?_⟩
    refine hN _ ⟨cs ++ [1 + x],rs,r / (1 + x),a2,b2,c2,by rw [List.map_append]; rfl,rfl,fun t ht=>hrs t (List.mem_cons_of_mem _ ht),by simp at hln ⊢; omega,fun c hc=>?_,?_,?_,?_,ha2,hb2,hc2⟩
    ·rcases List.mem_append.mp hc with z | z
     ·exact hcs c z
     ·rw [List.mem_singleton.mp z]; omega
    ·exact (Int.le_ediv_iff_mul_le (by omega)).mpr (by omega)
    ·rw [prodI_append]
     have e:prodI [1 + x] = 1 + x:=by show (1 + x) * 1 = 1 + x; omega
     rw [e,Int.mul_assoc]
     have h1:(1 + x) * (r / (1 + x)) <= r:=by rw [Int.mul_comm]; exact Int.ediv_mul_le _ (by omega)
     have h2:=prodI_pos hcs
     have:=Int.mul_le_mul_of_nonneg_left h1 (show 0 <= prodI cs by omega)
     omega
    ·have:=Int.ediv_le_self (a:=r) (1 + x) (by omega); omega
  ·rintro ρ ⟨cs,rs,r,a,b,c,rfl,er,hrs,hln,hcs,hr1,hpr,hrm,ha,hb,hc⟩
   cases rs with
   | cons t rs=>cases er
   | nil =>
    have h2:=prodI_pos hcs
    have h3:=Int.mul_le_mul_of_nonneg_left hr1 (show 0 <= prodI cs by omega)
    simp only [List.length_nil,Nat.add_zero] at hln
    exact q cs a b c _ ⟨by omega,by omega,hcs,by omega⟩ (by omega) ha hb hc
noncomputable def cPlaces:Con:=fun args Q=>∃ sd:List Int,args = [.fz (tupD sd)] /\ Sd sd /\ ∀ o,Q (.ow (.list ((plc sd).map tupD))) o
theorem scPlaces:FnScope ["_law_sides_here","_law_found","_law_side"] ["_law_sides_here"] (defScope (top 38)):=⟨rfl,rfl,rfl,by decide +kernel,rfl,by decide +kernel,by decide +kernel⟩
theorem ok_places {f:Addr} {fd:FuncData} (F:Fun K "_law_places" "_law_places" (top 38) f fd) (T:Txt mg):FnOk P w K mg base CX0 1 f fd ["_law_sides_here"] (conSp K cPlaces):=by
 have S:=scPlaces
 refine wfn F S (fun cdv A outer s H E hr=>(s_cons (s_set (i:=1) S.nd rfl (Or.inl rfl) (w_lst (wa_cons (wx (w_tup wa_nil)) wa_nil)))
     (s_cons (s_for [2] PassesOwn.never rfl (i_seq rfl (wv 0)) (g_name (i:=2) S.nd rfl (Or.inr rfl)) (s_one (s_set (i:=1) S.nd rfl (Or.inl rfl) (w_callB ok_sumL (call_sumL rfl) T.sum_ boot_sum (wa_cons (wx (w_comp rfl (own:=["_law_place"]) (fr:=[2]) (by kernel_rfl) (i_seq rfl (wv 1)) (fun _ _ _ _=>(g_name (i:=0) (by decide +kernel:List.Nodup (["_law_place","_law_side"]:List Str)) rfl (Or.inr rfl))) (fun _ _ _ _=>if0) (fun _ _ _ _=>(w_comp rfl (own:=["_law_k"]) (fr:=[0]) (by kernel_rfl) (i_rng1 T.range_ (wa_cons (wn 1) wa_nil)) (fun _ _ _ _=>(g_name (i:=0) (by decide +kernel:List.Nodup (["_law_k","_law_place"]:List Str)) rfl (Or.inl rfl))) (fun _ _ _ _=>if0) (fun _ _ _ _=>(w_bin ok_add op_addD (wn 1) (wx (w_tup (wa_cons (wx (wv 0)) wa_nil))))))))) (wa_cons (wx (w_lst wa_nil)) wa_nil))))))
     (s_one (s_retV (wn 1)))))) ?_ ?_
 ·rintro args Qd ⟨sd,rfl,_⟩; rfl
 ·rintro args Qd ⟨sd,rfl,hsd,q⟩
  refine ⟨noOw_of rfl,?_⟩
  have hlen:∀ {dn rs:List Int},dn ++ rs = sd -> (eachA [[]] (dn.map rng)).length <= 120:=fun {dn rs} e=>by
   have hd:∀ c ∈ dn,1 <= c:=fun c hc=>hsd.p c (by rw [<- e]; simp [hc])
   have hr:∀ c ∈ rs,1 <= c:=fun c hc=>hsd.p c (by rw [<- e]; simp [hc])
   have h1:=plc_len hd
   have h2:=hsd.m
   rw [<- e,prodI_append] at h2
   have h3:=prodI_pos hr
   have h4:=prodI_pos hd
   have:=Int.mul_le_mul_of_nonneg_left h3 (show 0 <= prodI dn by omega)
   have:((plc dn).length:Int) <= 120:=by omega
   show (plc dn).length <= 120
   omega
  refine loopC (fun rest ρ=>∃ (dn rs:List Int),ρ = [some (.fz (tupD sd)),some (.ow (.list ((eachA [[]] (dn.map rng)).map tupD))),none] /\ rest = rs.map PyData.int /\ dn ++ rs = sd) ?_ ?_
   ⟨[],sd,rfl,rfl,rfl⟩
  ·rintro d ds ρ ⟨dn,rs,rfl,er,hds⟩ N hN
   cases rs with
   | nil=>cases er
   | cons t rs =>
    cases er
    have ht:1 <= t:=hsd.p t (by rw [<- hds]; simp)
    have ht2:=le_prodI hsd.p t (by rw [<- hds]; simp)
    have hm:=hsd.m
    have h3:=hsd.l3
    have hl0:=hlen hds
    have hl1:=hlen (dn:=dn ++ [t]) (rs:=rs) (by rw [<- hds]; simp)
    have hlp:∀ p ∈ eachA [[]] (dn.map rng),p.length <= 3:=fun p hp=>by
     have:=wi_len (plc_wi (sd:=dn) hp)
     have e:=congrArg List.length hds
     simp at e
     omega
    refine ⟨by rw [List.length_map]; exact le_size (by omega),mapC (fun d=>.list ((rng t).map fun k=>.tuple (unT d ++ [.int k]))) ?_ ?_⟩
    ·rintro d hd M hM
     obtain ⟨p,hp,rfl⟩:=List.mem_map.mp hd
     have hpl:=hlp p hp
     refine ⟨by omega,by omega,by rw [rangeD_rng,List.length_map,rng_len]; exact le_size (by omega),?_⟩
     rw [rangeD_rng]
     refine mapC (fun e=>.tuple (p.map PyData.int ++ [e])) ?_ ?_
     ·rintro e he M2 hM2
      exact ⟨le_size (by simp; omega),hM2⟩
     ·rw [List.map_map]
      exact hM
    ·have e1:((eachA [[]] (dn.map rng)).map tupD).map (fun d=>PyData.list ((rng t).map fun k=>.tuple (unT d ++ [.int k]))) = ((eachA [[]] (dn.map rng)).map fun p=>((rng t).map fun k=>tupD (p ++ [k]))).map PyData.list:=by
      rw [List.map_map,List.map_map]
      refine List.map_congr_left fun p _=>?_
      show PyData.list ((rng t).map fun k=>.tuple (p.map PyData.int ++ [.int k])) = PyData.list ((rng t).map fun k=>.tuple ((p ++ [k]).map PyData.int))
      simp
     have e2:((eachA [[]] (dn.map rng)).map fun p=>((rng t).map fun k=>tupD (p ++ [k]))).flatten = (eachA [[]] ((dn ++ [t]).map rng)).map tupD:=by
      rw [List.map_append,List.map_singleton,eachA_snoc,List.map_flatMap,List.flatMap_def]
      congr 1
      refine List.map_congr_left fun p _=>?_
      rw [List.map_map]
      rfl
     refine ⟨_,e1,fun z=>?_,by rw [e2,List.length_map]; exact le_size (by omega),?_⟩
     ·have hne:eachA [[]] (dn.map rng) ≠ []:=fun z2=>by
       have h1:=plc_len (sd:=dn) fun c hc=>hsd.p c (by rw [<- hds]; simp [hc])
       have h2:=prodI_pos (l:=dn) fun c hc=>hsd.p c (by rw [<- hds]; simp [hc])
       have:(plc dn).length = 0:=by show (eachA [[]] (dn.map rng)).length = 0; rw [z2]; rfl
       omega
      exact hne (List.map_eq_nil_iff.mp z)
     ·rw [e2]
      exact hN _ ⟨dn ++ [t],rs,rfl,rfl,by rw [<- hds]; simp⟩
  ·rintro ρ ⟨dn,rs,rfl,er,hds⟩
   cases rs with
   | cons t rs=>cases er
   | nil =>
    rw [List.append_nil] at hds
    subst hds
    exact q _
end
end R76
namespace R76
open PySem PySem.Spec L2 L3 PyProof.Rows
theorem set_self {l:List Int} {i:Nat} (h:i < l.length):l.set i (l.getD i 0) = l:=by
 rw [List.getD_eq_getElem?_getD,List.getElem?_eq_getElem h]
 exact List.set_getElem_self h
section
variable {P:Program} {w:World} {K:PySem.W.Frag} {mg:Str -> Option Value} {base:Heap}
structure CalsBo (P:Program) (w:World) (K:PySem.W.Frag) (mg:Str -> Option Value) (base:Heap):Prop where
 law_draw:Cal P w K mg base 1 "_law_draw" ["_law_pen_here","_law_many"] (conSp K cDraw)
noncomputable def cBox:Con:=fun args Q=>∃ (a b c:Int) (sd:List Int),args = [.io (penD a b c),.fz (tupD sd)] /\ 0 <= a /\ 0 <= b /\ 0 <= c /\ Sd sd /\
 ∀ (bx:Bxx) (a' b' c':Int) (o:Ev),Bx bx.1 bx.2 sd -> 0 <= a' -> 0 <= b' -> 0 <= c' -> Q (.fz (boxD bx)) (some (.io (penD a' b' c')) :: o)
theorem scBox:FnScope ["_law_pen_here","_law_sides_here","_law_way","_law_low","_law_high","_law_side","_law_ends"] ["_law_pen_here","_law_sides_here"] (defScope (top 39)):=⟨rfl,rfl,rfl,by decide +kernel,rfl,by decide +kernel,by decide +kernel⟩
theorem ok_box {f:Addr} {fd:FuncData} (F:Fun K "_law_box" "_law_box" (top 39) f fd) (T:Txt mg) (C:CalsBo P w K mg base):FnOk P w K mg base CX0 2 f fd ["_law_pen_here","_law_sides_here"] (conSp K cBox):=by
 have S:=scBox
 refine wfn F S (fun cdv A outer s H E hr=>(s_cons (s_set (i:=2) S.nd rfl (Or.inl rfl) (w_fnI C.law_draw (hr.mono (by first | decide | omega)) (wa_cons (wn 0) (wa_cons (wx w_int) wa_nil))))
     (s_cons (s_set (i:=3) S.nd rfl (Or.inl rfl) (w_lst wa_nil))
     (s_cons (s_set (i:=4) S.nd rfl (Or.inl rfl) (w_lst wa_nil))
     (s_cons (s_for [5,6] PassesOwn.never rfl (i_seq rfl (wv 1)) (g_name (i:=5) S.nd rfl (Or.inl rfl)) (s_cons (s_set (i:=6) S.nd rfl (Or.inl rfl) (w_callB ok_sortI (call_sortIK rfl) T.sorted_ boot_sorted (wa_cons (wx (w_lst (wa_cons (wx (w_fnI C.law_draw (hr.mono (by first | decide | omega)) (wa_cons (wn 0) (wa_cons (wn 5) wa_nil)))) (wa_cons (wx (w_fnI C.law_draw (hr.mono (by first | decide | omega)) (wa_cons (wn 0) (wa_cons (wn 5) wa_nil)))) wa_nil)))) wa_nil)))
     (s_cons (s_if (t_cmp ok_eq (op_eqE (K:=K) rfl hr.units) (wn 2) (wx w_int)) (s_one (s_set (i:=6) S.nd rfl (Or.inl rfl) (w_lst (wa_cons (wx w_int) (wa_cons (wx (w_bin ok_sub op_sub (wn 5) (wx w_int))) wa_nil))))) s_nil)
     (s_cons (s_if (t_cmp ok_eq (op_eqE (K:=K) rfl hr.units) (wn 2) (wx w_int)) (s_one (s_set (i:=6) S.nd rfl (Or.inl rfl) (w_lst (wa_cons (wx (w_ix rfl (wn 6) (wx w_int))) (wa_cons (wx (w_ix rfl (wn 6) (wx w_int))) wa_nil))))) s_nil)
     (s_cons (s_expr (w_m ok_append rfl PySem.F.slot_list_append PySem.F.type_list_append mt_append (wn 3) (wa_cons (wx (w_ix rfl (wn 6) (wx w_int))) wa_nil)))
     (s_one (s_expr (w_m ok_append rfl PySem.F.slot_list_append PySem.F.type_list_append mt_append (wn 4) (wa_cons (wx (w_ix rfl (wn 6) (wx w_int))) wa_nil)))))))))
     (s_one (s_ret (w_tup (wa_cons (wx (w_callT ok_tuple (call_tupleK (K:=K) rfl) T.tuple_ boot_tuple (wa_cons (wn 3) wa_nil))) (wa_cons (wx (w_callT ok_tuple (call_tupleK (K:=K) rfl) T.tuple_ boot_tuple (wa_cons (wn 4) wa_nil))) wa_nil)))))))))) ?_ ?_
 ·rintro args Qd ⟨a,b,c,sd,rfl,_⟩; rfl
 ·rintro args Qd ⟨a,b,c,sd,rfl,ha,hb,hc,hsd,q⟩
  refine ⟨noOw_of rfl,?_⟩
  refine ⟨a,b,c,_,rfl,ha,hb,hc,by decide,by decide,fun wy a1 b1 c1 _ w0 w1 ha1 hb1 hc1=>?_⟩
  refine loopC (fun rest ρ=>∃ (lo hi dn rs:List Int) (a b c:Int),ρ = [some (.io (penD a b c)),some (.fz (tupD sd)),some (.fz (.int wy)),some (.ow (.list (lo.map PyData.int))),some (.ow (.list (hi.map PyData.int))),none,none] /\ rest = rs.map PyData.int /\ dn ++ rs = sd /\ Bx lo hi dn /\ 0 <= a /\ 0 <= b /\ 0 <= c) ?_ ?_
   ⟨[],[],[],sd,a1,b1,c1,rfl,rfl,rfl,trivial,ha1,hb1,hc1⟩
  ·rintro d ds ρ ⟨lo,hi,dn,rs,a,b,c,rfl,er,hds,hbx,ha,hb,hc⟩ N hN
   cases rs with
   | nil=>cases er
   | cons t rs =>
    cases er
    have ht:1 <= t:=hsd.p t (by rw [<- hds]; simp)
    have ht2:=le_prodI hsd.p t (by rw [<- hds]; simp)
    have hm:=hsd.m
    have h3:=hsd.l3
    have hl:=bx_len hbx
    have hdn:dn.length <= 3:=by have e:=congrArg List.length hds; simp at e; omega
    with_reducible refine gnC rfl ?_
    with_reducible refine cutS (fun ρ=>∃ (u v a b c:Int),ρ = [some (.io (penD a b c)),some (.fz (tupD sd)),some (.fz (.int wy)),some (.ow (.list (lo.map PyData.int))),some (.ow (.list (hi.map PyData.int))),some (.fz (.int t)),some (.ow (.list [.int u,.int v]))] /\ 0 <= u /\ u <= v /\ v < t /\ 0 <= a /\ 0 <= b /\ 0 <= c) ?_ ?_
    ·intro M hM
     refine ⟨a,b,c,t,rfl,ha,hb,hc,by omega,by omega,fun x a2 b2 c2 _ x0 x1 ha2 hb2 hc2=>?_⟩
     refine ⟨a2,b2,c2,t,rfl,ha2,hb2,hc2,by omega,by omega,fun y a3 b3 c3 _ y0 y1 ha3 hb3 hc3=>?_⟩
     refine ⟨[x,y],rfl,by simp,fun ns hp hs=>?_⟩
     have hlen:ns.length = 2:=hp.length_eq
     obtain ⟨u,v,rfl⟩:∃ u v,ns = [u,v]:=by
      rcases ns with _ | ⟨u,_ | ⟨v,_ | ⟨z,ns⟩⟩⟩ <;> first | exact ⟨_,_,rfl⟩ | (simp at hlen)
     have hu:u = x \/ u = y:=by have:=hp.mem_iff.mp (List.mem_cons_self (a:=u) (l:=[v])); simpa using this
     have hv:v = x \/ v = y:=by have:=hp.mem_iff.mp (show v ∈ [u,v] by simp); simpa using this
     have huv:u <= v:=by simpa using hs
     exact hM _ ⟨u,v,a3,b3,c3,rfl,by omega,huv,by omega,ha3,hb3,hc3⟩
    rintro _ ⟨u,v,a4,b4,c4,rfl,hu,huv,hv,ha4,hb4,hc4⟩
    with_reducible refine cutS (fun ρ=>∃ (u v:Int),ρ = [some (.io (penD a4 b4 c4)),some (.fz (tupD sd)),some (.fz (.int wy)),some (.ow (.list (lo.map PyData.int))),some (.ow (.list (hi.map PyData.int))),some (.fz (.int t)),some (.ow (.list [.int u,.int v]))] /\ 0 <= u /\ u <= v /\ v < t) ?_ ?_
    ·intro M hM
     refine ite2 (fun _=>?_) (fun _=>?_)
     ·exact hM _ ⟨0,t - 1,rfl,by omega,by omega,by omega⟩
     ·exact hM _ ⟨u,v,rfl,hu,huv,hv⟩
    clear hu huv hv u v
    rintro _ ⟨u,v,rfl,hu,huv,hv⟩
    with_reducible refine cutS (fun ρ=>∃ (u v:Int),ρ = [some (.io (penD a4 b4 c4)),some (.fz (tupD sd)),some (.fz (.int wy)),some (.ow (.list (lo.map PyData.int))),some (.ow (.list (hi.map PyData.int))),some (.fz (.int t)),some (.ow (.list [.int u,.int v]))] /\ 0 <= u /\ u <= v /\ v < t) ?_ ?_
    ·intro M hM
     refine ite2 (fun _=>?_) (fun _=>?_)
     ·exact ⟨_,rfl,_,rfl,hM _ ⟨u,u,rfl,hu,Int.le_refl _,by omega⟩⟩
     ·exact hM _ ⟨u,v,rfl,hu,huv,hv⟩
    clear hu huv hv u v
    rintro _ ⟨u,v,rfl,hu,huv,hv⟩
    refine ⟨_,rfl,by rw [List.length_map]; exact Nat.lt_of_le_of_lt (show lo.length <= 3 by omega) (by decide),?_⟩
    refine ⟨_,rfl,by rw [List.length_map]; exact Nat.lt_of_le_of_lt (show hi.length <= 3 by omega) (by decide),?_⟩
    exact hN _ ⟨lo ++ [u],hi ++ [v],dn ++ [t],rs,a4,b4,c4,by rw [List.map_append,List.map_append]; rfl,rfl,by rw [<- hds]; simp,bx_snoc hbx hu huv hv,ha4,hb4,hc4⟩
  ·rintro ρ ⟨lo,hi,dn,rs,a,b,c,rfl,er,hds,hbx,ha,hb,hc⟩
   cases rs with
   | cons t rs=>cases er
   | nil =>
    rw [List.append_nil] at hds
    subst hds
    exact q (lo,hi) a b c _ hbx ha hb hc
noncomputable def cIn:Con:=fun args Q=>∃ (lo hi p:List Int),args = [.fz (boxD (lo,hi)),.fz (tupD p)] /\ lo.length = p.length /\ hi.length = p.length /\ p.length <= 3 /\ ∀ o,Q (.fz (.bool (inB lo p hi))) o
noncomputable def cWa:Con:=fun args Q=>∃ b:Bxx,args = [.fz (boxD b)] /\ b.2.length = b.1.length /\ b.1.length <= 100 /\ ∀ o,Q (.ow (.list ((lws b).map PyData.int))) o
theorem scWa:FnScope ["_law_box_here"] ["_law_box_here"] (defScope (top 44)):=⟨rfl,rfl,rfl,by decide +kernel,rfl,by decide +kernel,by decide +kernel⟩
theorem ok_wa {f:Addr} {fd:FuncData} (F:Fun K "_law_ways" "_law_ways" (top 44) f fd) (T:Txt mg):FnOk P w K mg base CX0 1 f fd ["_law_box_here"] (conSp K cWa):=by
 have S:=scWa
 refine wfn F S (fun cdv A outer s H E hr=>(s_one (s_ret (w_comp rfl (own:=["_law_way"]) (fr:=[0]) (by kernel_rfl) (i_rng1 T.range_ (wa_cons (wx (w_callB ok_len (call_lenK (K:=K) rfl) T.len_ PySem.boot_len (wa_cons (wx (w_ix rfl (wn 0) (wx w_int))) wa_nil))) wa_nil)) (fun _ _ _ _=>(g_name (i:=0) (by decide +kernel:List.Nodup (["_law_way","_law_box_here"]:List Str)) rfl (Or.inl rfl))) (fun _ _ _ _=>if1 (t_cmp ok_lt op_lt (wx (w_ix rfl (wx (w_ix rfl (wn 1) (wx w_int))) (wn 0))) (wx (w_ix rfl (wx (w_ix rfl (wn 1) (wx w_int))) (wn 0))))) (fun _ _ _ _=>(wv 0)))))) ?_ ?_
 ·rintro args Qd ⟨b,rfl,_⟩; rfl
 ·rintro args Qd ⟨b,rfl,hl,hn,q⟩
  refine ⟨noOw_of rfl,?_⟩
  have hm:(b.1.map PyData.int).length = b.1.length:=List.length_map _
  refine ⟨_,rfl,by rw [hm]; omega,by rw [hm]; omega,by rw [rangeD,List.length_map,List.length_range,hm]; exact le_size (by omega),?_⟩
  refine filC (fun d=>decide (b.1.getD (unI d).toNat 0 < b.2.getD (unI d).toNat 0)) id ?_ ?_
  ·intro d hd N M hN hM
   rw [rangeD] at hd
   obtain ⟨k,hk,rfl⟩:=List.mem_map.mp hd
   have hk:=List.mem_range.mp hk
   rw [hm] at hk
   have hk:k < b.1.length:=by omega
   have e0:(0 + (k:Int)) = (k:Int):=by omega
   rw [e0] at hN hM ⊢
   have ek:(unI (.int (k:Int))).toNat = k:=by show (k:Int).toNat = k; omega
   simp only [ek] at hN hM
   refine ⟨_,rfl,_,at_ints hk,_,rfl,_,at_ints (by omega),ite2 (fun h=>hN h) (fun h=>hM (Bool.eq_false_iff.mpr h))⟩
  have e:((rangeD 0 ((b.1.map PyData.int).length:Int).toNat).filter fun d=>decide (b.1.getD (unI d).toNat 0 < b.2.getD (unI d).toNat 0)).map id = (lws b).map PyData.int:=by
   unfold lws
   rw [List.map_id,rangeD,hm,List.filter_map,show ((b.1.length:Int)).toNat = b.1.length by omega,List.map_map]
   have e:(List.range b.1.length).filter ((fun d=>decide (b.1.getD (unI d).toNat 0 < b.2.getD (unI d).toNat 0)) ∘ fun (i:Nat)=>PyData.int (0 + i)) = (List.range b.1.length).filter fun i=>decide (b.1.getD i 0 < b.2.getD i 0):=by
    refine List.filter_congr fun k _=>?_
    show decide (b.1.getD (0 + (k:Int)).toNat 0 < b.2.getD (0 + (k:Int)).toNat 0) = _
    rw [show (0 + (k:Int)).toNat = k by omega]
   rw [e]
   refine List.map_congr_left fun k _=>?_
   show PyData.int (0 + (k:Int)) = PyData.int (k:Int)
   rw [Int.zero_add]
  rw [e]
  exact q _
noncomputable def cCut:Con:=fun args Q=>∃ (b:Bxx) (w a:Int),args = [.fz (boxD b),.fz (.int w),.fz (.int a)] /\ 0 <= w /\ w < b.1.length /\ b.2.length = b.1.length /\ b.1.length <= 3 /\ ∀ o,Q (.fz (.tuple [boxD (bxL b w a),boxD (bxR b w a)])) o
theorem scCut:FnScope ["_law_box_here","_law_way","_law_at","_law_low","_law_high"] ["_law_box_here","_law_way","_law_at"] (defScope (top 43)):=⟨rfl,rfl,rfl,by decide +kernel,rfl,by decide +kernel,by decide +kernel⟩
theorem ok_cut {f:Addr} {fd:FuncData} (F:Fun K "_law_cut" "_law_cut" (top 43) f fd):FnOk P w K mg base CX0 1 f fd ["_law_box_here","_law_way","_law_at"] (conSp K cCut):=by
 have S:=scCut
 refine wfn F S (fun cdv A outer s H E hr=>(s_cons (s_asgG (wv 0) (g_tup rfl rfl (gs_cons (g_name (i:=3) S.nd rfl (Or.inl rfl)) (gs_cons (g_name (i:=4) S.nd rfl (Or.inl rfl)) gs_nil))))
     (s_one (s_ret (w_tup (wa_cons (wx (w_tup (wa_cons (wx (wv 3)) (wa_cons (wx (w_bin ok_add op_addD (wx (w_bin ok_add op_addD (wx (w_sl2T rfl (wn 4) (wn 1))) (wx (w_tup (wa_cons (wx (wv 2)) wa_nil))))) (wx (w_sl1T rfl (wn 4) (wx (w_bin ok_add op_addD (wn 1) (wx w_int))))))) wa_nil)))) (wa_cons (wx (w_tup (wa_cons (wx (w_bin ok_add op_addD (wx (w_bin ok_add op_addD (wx (w_sl2T rfl (wn 3) (wn 1))) (wx (w_tup (wa_cons (wx (w_bin ok_add op_addD (wn 2) (wx w_int))) wa_nil))))) (wx (w_sl1T rfl (wn 3) (wx (w_bin ok_add op_addD (wn 1) (wx w_int))))))) (wa_cons (wx (wv 4)) wa_nil)))) wa_nil))))))) ?_ ?_
 ·rintro args Qd ⟨b,w,a,rfl,_⟩; rfl
 ·rintro args Qd ⟨b,w,a,rfl,h0,h1,h2,h3,q⟩
  refine ⟨noOw_of rfl,?_⟩
  have e1:(b.1.set w.toNat (b.1.getD w.toNat 0)) = b.1:=set_self (by omega)
  have e2:(b.2.set w.toNat (b.2.getD w.toNat 0)) = b.2:=set_self (by omega)
  have ct:∀ (l:List Int) (x:Int),w.toNat < l.length -> (l.map PyData.int).take w.toNat ++ [PyData.int x] ++ (l.map PyData.int).drop (w + 1).toNat = (l.set w.toNat x).map PyData.int:=fun l x hl=>by
   rw [show (w + 1).toNat = w.toNat + 1 by omega,<- set_cut l hl x]
   simp [List.map_take,List.map_drop]
  have q2:∀ o,Qd (.fz (.tuple [.tuple [tupD b.1,.tuple ((b.2.map PyData.int).take w.toNat ++ [PyData.int a] ++ (b.2.map PyData.int).drop (w + 1).toNat)],.tuple [.tuple ((b.1.map PyData.int).take w.toNat ++ [PyData.int (a + 1)] ++ (b.1.map PyData.int).drop (w + 1).toNat),tupD b.2]])) o:=by
   rw [ct _ _ (by omega),ct _ _ (by omega)]
   unfold bxL bxR bset at q
   simp only [e1,e2] at q
   exact q
  refine ⟨rfl,?_⟩
  refine ⟨h0,le_size (by simp; omega),by show (0:Int) <= w + 1; omega,le_size (by simp; omega),?_⟩
  exact ⟨h0,le_size (by simp; omega),by show (0:Int) <= w + 1; omega,le_size (by simp; omega),q2 _⟩
structure CalsSl (P:Program) (w:World) (K:PySem.W.Frag) (mg:Str -> Option Value) (base:Heap):Prop where
 law_draw:Cal P w K mg base 1 "_law_draw" ["_law_pen_here","_law_many"] (conSp K cDraw)
noncomputable def cSlack:Con:=fun args Q=>∃ (a b c t l h:Int) (m:Bool),args = [.io (penD a b c),.fz (tupD [t,l,h]),.fz (.bool m)] /\ 0 <= a /\ 0 <= b /\ 0 <= c /\
 ∀ (x y a' b' c':Int) (o:Ev),0 <= x -> x <= 2 -> 0 <= y -> y <= 20 -> (m = false -> x = 0 /\ y = 0) -> 0 <= a' -> 0 <= b' -> 0 <= c' -> Q (.fz (tupD [t,l - x,h + y])) (some (.io (penD a' b' c')) :: o)
theorem scSlack:FnScope ["_law_pen_here","_law_claim","_law_much","_law_less","_law_more"] ["_law_pen_here","_law_claim","_law_much"] (defScope (top 45)):=⟨rfl,rfl,rfl,by decide +kernel,rfl,by decide +kernel,by decide +kernel⟩
theorem ok_slack {f:Addr} {fd:FuncData} (F:Fun K "_law_slack" "_law_slack" (top 45) f fd) (C:CalsSl P w K mg base):FnOk P w K mg base CX0 2 f fd ["_law_pen_here","_law_claim","_law_much"] (conSp K cSlack):=by
 have S:=scSlack
 refine wfn F S (fun cdv A outer s H E hr=>(s_cons (s_if (t_not (t_val (wv 2))) (s_one (s_retV (wn 1))) s_nil)
     (s_cons (s_set (i:=3) S.nd rfl (Or.inl rfl) (w_fnI C.law_draw (hr.mono (by first | decide | omega)) (wa_cons (wn 0) (wa_cons (wx w_int) wa_nil))))
     (s_cons (s_set (i:=4) S.nd rfl (Or.inl rfl) (w_bin ok_mul op_mulD (wx (w_fnI C.law_draw (hr.mono (by first | decide | omega)) (wa_cons (wn 0) (wa_cons (wx w_int) wa_nil)))) (wx (w_bin ok_add op_addD (wx w_int) (wx (w_bin ok_mul op_mulD (wx w_int) (wx (w_fnI C.law_draw (hr.mono (by first | decide | omega)) (wa_cons (wn 0) (wa_cons (wx w_int) wa_nil))))))))))
     (s_one (s_ret (w_tup (wa_cons (wx (w_ix rfl (wn 1) (wx w_int))) (wa_cons (wx (w_bin ok_sub op_sub (wx (w_ix rfl (wn 1) (wx w_int))) (wn 3))) (wa_cons (wx (w_bin ok_add op_addD (wx (w_ix rfl (wn 1) (wx w_int))) (wn 4))) wa_nil)))))))))) ?_ ?_
 ·rintro args Qd ⟨a,b,c,t,l,h,m,rfl,_⟩; rfl
 ·rintro args Qd ⟨a,b,c,t,l,h,m,rfl,ha,hb,hc,q⟩
  refine ⟨noOw_of rfl,?_⟩
  cases m with
  | false =>
   have:=q 0 0 a b c
   rw [Int.sub_zero,Int.add_zero] at this
   exact this _ (by decide) (by decide) (by decide) (by decide) (fun _=>⟨rfl,rfl⟩) ha hb hc
  | true =>
   refine ⟨a,b,c,_,rfl,ha,hb,hc,by decide,by decide,fun x a1 b1 c1 _ x0 x1 ha1 hb1 hc1=>?_⟩
   refine ⟨a1,b1,c1,_,rfl,ha1,hb1,hc1,by decide,by decide,fun y a2 b2 c2 _ y0 y1 ha2 hb2 hc2=>?_⟩
   refine ⟨a2,b2,c2,_,rfl,ha2,hb2,hc2,by decide,by decide,fun z a3 b3 c3 _ z0 z1 ha3 hb3 hc3=>?_⟩
   refine ⟨.inl ⟨by decide,by decide⟩,.inl ⟨by omega,by omega⟩,?_⟩
   refine ⟨_,rfl,_,rfl,_,rfl,?_⟩
   have hz:z = 0 \/ z = 1:=by omega
   refine q x (y * (1 + 9 * z)) a3 b3 c3 _ x0 (by omega) ?_ ?_ (fun h=>by cases h) ha3 hb3 hc3
   ·rcases hz with rfl | rfl <;> omega
   ·rcases hz with rfl | rfl <;> omega
end
end R76
namespace R76
open PySem PySem.Spec L2 L3 PyProof.Rows
theorem joinS (sep:Str):∀ ts:List Str,(Str.join sep ts).length <= (ts.map fun t=>t.length + sep.length).sum
 | []=>by simp [Str.join,Str.length,Str.empty]
 | [x]=>by show x.length <= _; simp
 | x :: y :: r=>by
  have h2:=joinS sep (y :: r)
  show (x ++ sep ++ Str.join sep (y :: r)).length <= _
  rw [Str.length_append,Str.length_append,List.map_cons,List.sum_cons]
  omega
theorem shown_tupS (l:List PyData):(PyData.tuple l).shown.length <= (l.map fun d=>d.shown.length + 2).sum + 3:=by
 show (tupleText (PyData.shownAll l)).length <= _
 rw [shownAll_map]
 have hj:=joinS (Str.ofString ", ") (l.map PyData.shown)
 rw [List.map_map,len_ofString,show (", ":String).length = 2 by decide] at hj
 unfold tupleText
 rw [Str.length_append,Str.length_append,len_ofString,len_ofString]
 have e1:("(":String).length = 1:=by decide
 have e3:(if (((l.map PyData.shown).length == 1) = true) then ",)" else ")":String).length <= 2:=by split <;> decide
 have hj:(Str.join (Str.ofString ", ") (l.map PyData.shown)).length <= (l.map fun d=>d.shown.length + 2).sum:=hj
 omega
noncomputable def Pp.lv:Pp -> Nat
 | .cell _ _ _=>1
 | .cut _ _ _ _ _ p q=>p.lv + q.lv
noncomputable def Pp.sm:Pp -> Prop
 | .cell t l h=>∀ x ∈ [t,l,h],x.natAbs < 10 ^ 40
 | .cut t l h w a p q=>(∀ x ∈ [t,l,h,w,a],x.natAbs < 10 ^ 40) /\ p.sm /\ q.sm
noncomputable def Pp.tg:Pp -> Prop
 | .cell t l h=>l = t /\ h = t
 | .cut t l h _ _ p q=>[t,l,h] = comb p.cl q.cl /\ p.tg /\ q.tg
theorem Pp.lv1 (p:Pp):1 <= p.lv:=by
 induction p with
 | cell=>exact Nat.le_refl _
 | cut t l h w a p q ih1 ih2=>show 1 <= p.lv + q.lv; omega
theorem Pp.szl (p:Pp):p.sz + 1 = 2 * p.lv:=by
 induction p with
 | cell=>rfl
 | cut t l h w a p q ih1 ih2=>show 1 + p.sz + q.sz + 1 = 2 * (p.lv + q.lv); omega
theorem nice_word:Nice 0 (.str "cell") /\ Nice 0 (.str "cut"):=by
 constructor <;> exact ⟨rfl,by rw [PyData.canLay0]; decide +kernel,by simp [PyData.depth]⟩
theorem Pp.nice (p:Pp):Nice (p.lv + 1) (pD p):=by
 induction p with
 | cell t l h =>
  refine Nice.tuple fun d hd=>?_
  have hd:d = .str "cell" \/ d = tupD [t,l,h]:=by simpa using hd
  rcases hd with rfl | rfl
  ·exact nice_word.1.mono (Nat.zero_le _)
  ·exact Nice.tup _
 | cut t l h w a p q ih1 ih2 =>
  have h1:=p.lv1
  have h2:=q.lv1
  refine Nice.mono (n:=max (p.lv + 1) (q.lv + 1) + 1) (Nice.tuple fun d hd=>?_) (by show _ <= p.lv + q.lv + 1; omega)
  have hd:d = .str "cut" \/ d = tupD [t,l,h] \/ d = .int w \/ d = .int a \/ d = pD p \/ d = pD q:=by simpa using hd
  rcases hd with rfl | rfl | rfl | rfl | rfl | rfl
  ·exact nice_word.2.mono (by omega)
  ·exact (Nice.tup _).mono (by omega)
  ·exact Nice.int _ _
  ·exact Nice.int _ _
  ·exact ih1.mono (by omega)
  ·exact ih2.mono (by omega)
theorem shown_one {x:Int} (h:x.natAbs < 10 ^ 40):(PyData.int x).shown.length <= 41:=shown_int (by decide) h
theorem showable_one {x:Int} (h:x.natAbs < 10 ^ 40):(PyData.int x).showable = true:=showable_int (k:=200) (Nat.lt_trans h (by decide +kernel)) (by decide)
theorem shown_cl {t l h:Int} (hx:∀ x ∈ [t,l,h],x.natAbs < 10 ^ 40):(tupD [t,l,h]).shown.length <= 140 /\ (tupD [t,l,h]).showable = true:=by
 constructor
 ·have:=shown_tupS ([t,l,h].map PyData.int)
  have h1:=shown_one (hx t (by simp))
  have h2:=shown_one (hx l (by simp))
  have h3:=shown_one (hx h (by simp))
  simp only [List.map_cons,List.map_nil,List.sum_cons,List.sum_nil] at this
  show (PyData.tuple ([t,l,h].map PyData.int)).shown.length <= 140
  simp only [List.map_cons,List.map_nil]
  omega
 ·refine showableAll_of (l:=[t,l,h].map PyData.int) fun d hd=>?_
  obtain ⟨x,hx',rfl⟩:=List.mem_map.mp hd
  exact showable_one (hx x hx')
theorem len_word:(PyData.str "cell").shown.length = 6 /\ (PyData.str "cut").shown.length = 5:=by
 constructor <;> (rw [PyData.shown]; decide +kernel)
theorem Pp.shows (p:Pp) (h:p.sm):(pD p).showable = true /\ (pD p).shown.length + 250 <= 500 * p.lv:=by
 induction p with
 | cell t l hh =>
  have hc:=shown_cl h
  refine ⟨showableAll_of (l:=[.str "cell",tupD [t,l,hh]]) fun d hd=>?_,?_⟩
  ·have hd:d = .str "cell" \/ d = tupD [t,l,hh]:=by simpa using hd
   rcases hd with rfl | rfl
   ·rfl
   ·exact hc.2
  ·have:=shown_tupS [.str "cell",tupD [t,l,hh]]
   have e:=len_word.1
   simp only [List.map_cons,List.map_nil,List.sum_cons,List.sum_nil] at this
   show (PyData.tuple [.str "cell",tupD [t,l,hh]]).shown.length + 250 <= 500 * 1
   have h2:=hc.1
   simp only [tupD,List.map_cons,List.map_nil] at this h2 ⊢
   omega
 | cut t l hh w a p q ih1 ih2 =>
  obtain ⟨h0,h1,h2⟩:=h
  obtain ⟨g1,g2⟩:=ih1 h1
  obtain ⟨g3,g4⟩:=ih2 h2
  have hc:=shown_cl (t:=t) (l:=l) (h:=hh) fun x hx=>h0 x (by simp at hx ⊢; omega)
  have hw:=h0 w (by simp)
  have ha:=h0 a (by simp)
  refine ⟨showableAll_of (l:=[.str "cut",tupD [t,l,hh],.int w,.int a,pD p,pD q]) fun d hd=>?_,?_⟩
  ·have hd:d = .str "cut" \/ d = tupD [t,l,hh] \/ d = .int w \/ d = .int a \/ d = pD p \/ d = pD q:=by simpa using hd
   rcases hd with rfl | rfl | rfl | rfl | rfl | rfl
   ·rfl
   ·exact hc.2
   ·exact showable_one hw
   ·exact showable_one ha
   ·exact g1
   ·exact g3
  ·have:=shown_tupS [.str "cut",tupD [t,l,hh],.int w,.int a,pD p,pD q]
   have e:=len_word.2
   have e1:=shown_one hw
   have e2:=shown_one ha
   have e3:=hc.1
   have e4:=p.lv1
   have e5:=q.lv1
   simp only [List.map_cons,List.map_nil,List.sum_cons,List.sum_nil] at this
   show (PyData.tuple [.str "cut",tupD [t,l,hh],.int w,.int a,pD p,pD q]).shown.length + 250 <= 500 * (p.lv + q.lv)
   simp only [tupD,List.map_cons,List.map_nil] at this e3 ⊢
   omega
theorem cels_cut {sd cl:List Int} {b:Bxx} {w a:Int} (hb:Bx b.1 b.2 sd) (h:cutB b w a = true):(cels sd cl b.1 b.2).Perm (cels sd cl (bxL b w a).1 (bxL b w a).2 ++ cels sd cl (bxR b w a).1 (bxR b w a).2):=by
 obtain ⟨h1,h2,h3,h4⟩:=cutB_is h
 have hl:=bx_len hb
 have e1:b.1[w.toNat]? = some (b.1.getD w.toNat 0):=by rw [List.getD_eq_getElem?_getD,List.getElem?_eq_getElem (by omega)]; rfl
 have e2:b.2[w.toNat]? = some (b.2.getD w.toNat 0):=by rw [List.getD_eq_getElem?_getD,List.getElem?_eq_getElem (by omega)]; rfl
 exact cels_perm hb e1 e2 h3 h4 (bxL_bx hb h) (bxR_bx hb h)
theorem okP_cut {sd cl:List Int} {b:Bxx} {t l h w a:Int} {p q:Pp} (hk:okP sd cl b (.cut t l h w a p q) = true):cutB b w a = true /\ letB [t,l,h] (comb p.cl q.cl) = true /\ okP sd cl (bxL b w a) p = true /\ okP sd cl (bxR b w a) q = true:=by
 have hk:(cutB b w a && (letB [t,l,h] (comb p.cl q.cl) && (okP sd cl (bxL b w a) p && okP sd cl (bxR b w a) q))) = true:=hk
 simp only [Bool.and_eq_true] at hk
 exact ⟨hk.1,hk.2.1,hk.2.2.1,hk.2.2.2⟩
theorem okP_cell {sd cl:List Int} {b:Bxx} {t l h:Int} (hk:okP sd cl b (.cell t l h) = true):b.1 = b.2 /\ t = cel sd cl b.1 /\ l <= cel sd cl b.1 /\ cel sd cl b.1 <= h:=by
 have hk:(decide (b.1 = b.2) && (decide (t = cel sd cl b.1) && (decide (l <= cel sd cl b.1) && decide (cel sd cl b.1 <= h)))) = true:=hk
 simp only [Bool.and_eq_true,decide_eq_true_eq] at hk
 exact ⟨hk.1,hk.2.1,hk.2.2.1,hk.2.2.2⟩
theorem cels_one {sd cl:List Int} {b:Bxx} (h:b.1 = b.2):cels sd cl b.1 b.2 = [cel sd cl b.1]:=by
 rw [<- h]
 unfold cels btw
 rw [btw_self b.1 []]
 rfl
theorem okP_sum {sd cl:List Int} (p:Pp):∀ {b:Bxx},Bx b.1 b.2 sd -> okP sd cl b p = true -> p.cl.getD 0 0 = (cels sd cl b.1 b.2).sum /\ p.lv = (cels sd cl b.1 b.2).length:=by
 induction p with
 | cell t l h =>
  intro b hb hk
  obtain ⟨h1,h2,_⟩:=okP_cell hk
  rw [cels_one h1]
  exact ⟨by show t = _; rw [h2]; simp,rfl⟩
 | cut t l h w a p q ih1 ih2 =>
  intro b hb hk
  obtain ⟨h1,h2,h3,h4⟩:=okP_cut hk
  obtain ⟨g1,g2⟩:=ih1 (bxL_bx hb h1) h3
  obtain ⟨g3,g4⟩:=ih2 (bxR_bx hb h1) h4
  have hp:=cels_cut (cl:=cl) hb h1
  have h2:(decide (t = p.cl.getD 0 0 + q.cl.getD 0 0) && _) = true:=h2
  have h2:=of_decide_eq_true (Bool.and_eq_true_iff.mp h2).1
  refine ⟨?_,?_⟩
  ·show t = _
   rw [perm_sum hp,List.sum_append,h2,g1,g3]
  ·rw [hp.length_eq,List.length_append,<- g2,<- g4]
   rfl
end R76
namespace R76
open PySem PySem.Spec L2 L3 PyProof.Rows
section
variable {P:Program} {w:World} {K:PySem.W.Frag} {mg:Str -> Option Value} {base:Heap}
structure CalsPr (P:Program) (w:World) (K:PySem.W.Frag) (mg:Str -> Option Value) (base:Heap):Prop where
 law_places:Cal P w K mg base 1 "_law_places" ["_law_sides_here"] (conSp K cPlaces)
 law_in:Cal P w K mg base 1 "_law_in" ["_law_box_here","_law_place"] (conSp K cIn)
noncomputable def cCell:Con:=fun args Q=>∃ sd cl p:List Int,args = [.fz (tupD sd),.fz (liD cl),.fz (tupD p)] /\ Sd sd /\ cl.length = (plc sd).length /\ Wi p sd /\ ∀ o,Q (.fz (.int (cel sd cl p))) o
theorem scCell:FnScope ["_law_sides_here","_law_numbers","_law_place","_law_at","_law_side","_law_number_here"] ["_law_sides_here","_law_numbers","_law_place"] (defScope (top 42)):=⟨rfl,rfl,rfl,by decide +kernel,rfl,by decide +kernel,by decide +kernel⟩
theorem ok_cell {f:Addr} {fd:FuncData} (F:Fun K "_law_cell" "_law_cell" (top 42) f fd) (T:Txt mg):FnOk P w K mg base CX0 1 f fd ["_law_sides_here","_law_numbers","_law_place"] (conSp K cCell):=by
 have S:=scCell
 refine wfn F S (fun cdv A outer s H E hr=>(s_cons (s_set (i:=3) S.nd rfl (Or.inl rfl) w_int)
     (s_cons (s_for [4,5] PassesOwn.never rfl (i_zip2 rfl T.zip_ (wa_cons (wn 0) (wa_cons (wn 2) wa_nil))) (g_tup rfl rfl (gs_cons (g_name (i:=4) S.nd rfl (Or.inl rfl)) (gs_cons (g_name (i:=5) S.nd rfl (Or.inl rfl)) gs_nil))) (s_one (s_set (i:=3) S.nd rfl (Or.inl rfl) (w_bin ok_add op_addD (wx (w_bin ok_mul op_mulD (wn 3) (wn 4))) (wn 5)))))
     (s_one (s_ret (w_ix rfl (wn 1) (wn 3))))))) ?_ ?_
 ·rintro args Qd ⟨sd,cl,p,rfl,_⟩; rfl
 ·rintro args Qd ⟨sd,cl,p,rfl,hsd,hcl,hp,q⟩
  refine ⟨noOw_of rfl,?_⟩
  have hm:=hsd.m
  have hpl:=plc_len hsd.p
  have hi:=idx_nn hp
  refine loopC (fun rest ρ=>∃ (i:Int) (rs:List (Int × Int)),ρ = [some (.fz (tupD sd)),some (.fz (liD cl)),some (.fz (tupD p)),some (.fz (.int i)),none,none] /\ rest = rs.map (fun p=>PyData.tuple [.int p.1,.int p.2]) /\ (∀ r ∈ rs,r ∈ sd.zip p) /\ rs.foldl (fun i p=>i * p.1 + p.2) i = idx sd p) ?_ ?_
   ⟨0,sd.zip p,rfl,zipD_ints _ _,fun _ h=>h,rfl⟩
  ·rintro d ds ρ ⟨i,rs,rfl,er,hin,hf⟩ N hN
   cases rs with
   | nil=>cases er
   | cons r rs =>
    cases er
    have h1:=(List.of_mem_zip (hin r List.mem_cons_self)).1
    have h2:=hsd.p r.1 h1
    have h3:=le_prodI hsd.p r.1 h1
    exact ⟨rfl,.inr ⟨by omega,by omega⟩,hN _ ⟨i * r.1 + r.2,rs,rfl,rfl,fun x hx=>hin x (List.mem_cons_of_mem _ hx),hf⟩⟩
  ·rintro ρ ⟨i,rs,rfl,er,hin,hf⟩
   cases rs with
   | nil =>
    have hf:i = idx sd p:=hf
    subst hf
    obtain ⟨n,hn⟩:=Int.eq_ofNat_of_zero_le hi.1
    have hnl:n < cl.length:=by omega
    refine ⟨.int (cel sd cl p),?_,q _⟩
    unfold cel
    rw [hn]
    exact at_ints hnl
   | cons _ _=>cases er
end
end R76
namespace R76
open PySem PySem.Spec L2 L3 PyProof.Rows
noncomputable def ex:List Int -> List Int -> Nat
 | x :: lo,y :: hi=>(y - x).toNat + ex lo hi
 | _,_=>0
theorem ex_set:∀ {lo hi:List Int} {i:Nat} {x y:Int},i < lo.length -> i < hi.length -> ex (lo.set i x) (hi.set i y) + (hi.getD i 0 - lo.getD i 0).toNat = ex lo hi + (y - x).toNat
 | a :: lo,b :: hi,0,x,y,_,_=>by
  show (y - x).toNat + ex lo hi + (b - a).toNat = (b - a).toNat + ex lo hi + (y - x).toNat
  omega
 | a :: lo,b :: hi,i + 1,x,y,h1,h2=>by
  have:=ex_set (lo:=lo) (hi:=hi) (i:=i) (x:=x) (y:=y) (by simpa using h1) (by simpa using h2)
  show (b - a).toNat + ex (lo.set i x) (hi.set i y) + (hi.getD i 0 - lo.getD i 0).toNat = (b - a).toNat + ex lo hi + (y - x).toNat
  omega
 | [],_,_,_,_,h,_=>by simp at h
 | _ :: _,[],_,_,_,_,h=>by simp at h
theorem ex_le:∀ {lo hi sd:List Int},Bx lo hi sd -> (ex lo hi:Int) + 1 <= prodI sd
 | [],[],[],_=>by decide
 | x :: lo,y :: hi,s :: sd,h=>by
  have ih:=ex_le h.2
  have h1:=h.1
  show (((y - x).toNat + ex lo hi:Nat):Int) + 1 <= s * prodI sd
  obtain ⟨k,hk⟩:∃ k,prodI sd = k + 1:=⟨prodI sd - 1,by omega⟩
  obtain ⟨m,hm⟩:∃ m,s = m + 1:=⟨s - 1,by omega⟩
  have h2:0 <= m * k:=Int.mul_nonneg (by omega) (by omega)
  rw [hk,hm,Int.add_mul,Int.mul_add]
  omega
 | [],[],_ :: _,h=>h.elim
 | [],_ :: _,z,h=>by cases z <;> exact h.elim
 | _ :: _,[],z,h=>by cases z <;> exact h.elim
 | _ :: _,_ :: _,[],h=>h.elim
theorem ex_cut {b:Bxx} {w a:Int} (hl:b.2.length = b.1.length) (h:cutB b w a = true):ex (bxL b w a).1 (bxL b w a).2 < ex b.1 b.2 /\ ex (bxR b w a).1 (bxR b w a).2 < ex b.1 b.2:=by
 obtain ⟨h1,h2,h3,h4⟩:=cutB_is h
 have e1:=ex_set (lo:=b.1) (hi:=b.2) (i:=w.toNat) (x:=b.1.getD w.toNat 0) (y:=a) (by omega) (by omega)
 have e2:=ex_set (lo:=b.1) (hi:=b.2) (i:=w.toNat) (x:=a + 1) (y:=b.2.getD w.toNat 0) (by omega) (by omega)
 exact ⟨by show ex (b.1.set w.toNat (b.1.getD w.toNat 0)) (b.2.set w.toNat a) < _; omega,by show ex (b.1.set w.toNat (a + 1)) (b.2.set w.toNat (b.2.getD w.toNat 0)) < _; omega⟩
structure Made (sd cl:List Int) (b:Bxx) (tight:Bool) (p:Pp):Prop where
 ok:okP sd cl b p = true
 sm:p.sm
 tg:tight = true -> p.tg
 bd:∀ x ∈ p.cl,x.natAbs <= p.lv * 10 ^ 28
theorem big_abs {x:Int} (h:Big x):x.natAbs < 10 ^ 27:=by
 obtain ⟨h1,h2⟩:=h
 omega
theorem cel_big {sd cl:List Int} (hB:∀ x ∈ cl,Big x) (p:List Int):Big (cel sd cl p):=by
 unfold cel
 rw [List.getD_eq_getElem?_getD]
 cases e:cl[(idx sd p).toNat]? with
 | none=>exact ⟨by decide,by decide⟩
 | some v=>exact hB v (List.mem_of_getElem? e)
theorem made_cell {sd cl:List Int} {b:Bxx} {tight:Bool} {x y:Int} (hB:∀ x ∈ cl,Big x) (h:b.1 = b.2) (x0:0 <= x) (x2:x <= 2) (y0:0 <= y) (y2:y <= 20) (ht:tight = true -> x = 0 /\ y = 0) :
  Made sd cl b tight (.cell (cel sd cl b.1) (cel sd cl b.1 - x) (cel sd cl b.1 + y)):=by
 have hb:=big_abs (cel_big (sd:=sd) hB b.1)
 refine ⟨?_,?_,?_,?_⟩
 ·show (decide (b.1 = b.2) && letB [cel sd cl b.1,cel sd cl b.1 - x,cel sd cl b.1 + y] [cel sd cl b.1,cel sd cl b.1,cel sd cl b.1]) = true
  generalize cel sd cl b.1 = v
  rw [decide_eq_true h,Bool.true_and]
  show (decide (v = v) && (decide (v - x <= v) && decide (v <= v + y))) = true
  rw [decide_eq_true rfl,decide_eq_true (by omega),decide_eq_true (by omega)]
  rfl
 ·intro z hz
  generalize cel sd cl b.1 = v at hb hz
  have hz:z = v \/ z = v - x \/ z = v + y:=by simpa using hz
  omega
 ·intro t
  obtain ⟨rfl,rfl⟩:=ht t
  exact ⟨Int.sub_zero _,Int.add_zero _⟩
 ·intro z hz
  generalize cel sd cl b.1 = v at hb hz
  have hz:z = v \/ z = v - x \/ z = v + y:=by simpa [Pp.cl] using hz
  show z.natAbs <= 1 * 10 ^ 28
  omega
theorem cl_is (p:Pp):∃ t l h,p.cl = [t,l,h]:=by cases p <;> exact ⟨_,_,_,rfl⟩
theorem made_cut {sd cl:List Int} {b:Bxx} {tight:Bool} {w a x y:Int} {p q:Pp} (hc:cutB b w a = true) (hb:Bx b.1 b.2 sd) (hsd:Sd sd) (m1:Made sd cl (bxL b w a) tight p) (m2:Made sd cl (bxR b w a) tight q) (hlp:p.lv <= 120) (hlq:q.lv <= 120) (x0:0 <= x) (x2:x <= 2) (y0:0 <= y) (y2:y <= 20) (ht:tight = true -> x = 0 /\ y = 0) :
  Made sd cl b tight (.cut (p.cl.getD 0 0 + q.cl.getD 0 0) (min (p.cl.getD 1 0) (q.cl.getD 1 0) - x) (max (p.cl.getD 2 0) (q.cl.getD 2 0) + y) w a p q):=by
 obtain ⟨g1,g2,g3,g4⟩:=cutB_is hc
 have hl:=bx_len hb
 have h3:=hsd.l3
 have ha:a.natAbs < 10 ^ 40:=by
  have hm:=hsd.m
  have hbR:=(bx_wi (bxL_bx hb hc)).2
  have he:=ex_le (bxL_bx hb hc)
  have:∀ {hi sd:List Int} {i:Nat},Wi hi sd -> i < hi.length -> 0 <= hi.getD i 0 /\ ∃ s ∈ sd,hi.getD i 0 < s:=by
   intro hi
   induction hi with
   | nil=>intro sd i _ h; simp at h
   | cons z hi ih =>
    intro sd i hw h
    cases sd with
    | nil=>exact hw.elim
    | cons s sd =>
     cases i with
     | zero=>exact ⟨hw.1.1,s,by simp,hw.1.2⟩
     | succ i =>
      obtain ⟨r1,s',r2,r3⟩:=ih hw.2 (by simpa using h)
      exact ⟨r1,s',by simp [r2],r3⟩
  obtain ⟨r1,s,r2,r3⟩:=this (bx_wi hb).2 (i:=w.toNat) (by omega)
  obtain ⟨r4,_⟩:=this (bx_wi hb).1 (i:=w.toNat) (by omega)
  have:=le_prodI hsd.p s r2
  omega
 obtain ⟨t1,l1,h1,e1⟩:=cl_is p
 obtain ⟨t2,l2,h2,e2⟩:=cl_is q
 have b1:=m1.bd
 have b2:=m2.bd
 rw [e1] at b1
 rw [e2] at b2
 have c1:=b1 t1 (by simp)
 have c2:=b1 l1 (by simp)
 have c3:=b1 h1 (by simp)
 have c4:=b2 t2 (by simp)
 have c5:=b2 l2 (by simp)
 have c6:=b2 h2 (by simp)
 have v1:=p.lv1
 have v2:=q.lv1
 refine ⟨?_,?_,?_,?_⟩
 ·show (cutB b w a && (letB _ (comb p.cl q.cl) && (okP sd cl (bxL b w a) p && okP sd cl (bxR b w a) q))) = true
  rw [hc,m1.ok,m2.ok,e1,e2]
  show (true && ((decide (t1 + t2 = t1 + t2) && (decide (min l1 l2 - x <= min l1 l2) && decide (max h1 h2 <= max h1 h2 + y))) && (true && true))) = true
  rw [decide_eq_true rfl,decide_eq_true (by omega),decide_eq_true (by omega)]
  rfl
 ·refine ⟨fun z hz=>?_,m1.sm,m2.sm⟩
  rw [e1,e2] at hz
  have hz:z = t1 + t2 \/ z = min l1 l2 - x \/ z = max h1 h2 + y \/ z = w \/ z = a:=by simpa using hz
  omega
 ·intro t
  obtain ⟨rfl,rfl⟩:=ht t
  refine ⟨?_,m1.tg t,m2.tg t⟩
  rw [Int.sub_zero,Int.add_zero]
  rfl
 ·intro z hz
  have hz:z = t1 + t2 \/ z = min l1 l2 - x \/ z = max h1 h2 + y:=by
   have hz:z ∈ [p.cl.getD 0 0 + q.cl.getD 0 0,min (p.cl.getD 1 0) (q.cl.getD 1 0) - x,max (p.cl.getD 2 0) (q.cl.getD 2 0) + y]:=hz
   rw [e1,e2] at hz
   simpa using hz
  show z.natAbs <= (p.lv + q.lv) * 10 ^ 28
  omega
theorem Made.lv {sd cl:List Int} {b:Bxx} {tight:Bool} {p:Pp} (m:Made sd cl b tight p) (hb:Bx b.1 b.2 sd) (hsd:Sd sd):(p.lv:Int) <= prodI sd:=by
 have h1:=(okP_sum p hb m.ok).2
 have h2:=bx_lenP hb
 have:(cels sd cl b.1 b.2).length = (btw b.1 b.2).length:=by unfold cels; rw [List.length_map]
 rw [h1,this]
 unfold btw
 rw [eachA_len]
 simpa using h2.1
end R76
namespace R76
open PySem PySem.Spec L2 L3 PyProof.Rows
theorem same_nil (l:List Int):same (.list (l.map PyData.int)) (.list []) = decide (l = []):=sameAll_ints l []
theorem mix_nil (l:List Int):SeqAt.noMix (.list (l.map PyData.int)) (.list []) = true:=mixAll_ints l []
theorem pD_is (p:Pp):∃ w r,pD p = .tuple (w :: tupD p.cl :: r):=by cases p <;> exact ⟨_,_,rfl⟩
theorem comb_if (u1 v1 z1 u2 v2 z2:Int):comb [u1,v1,z1] [u2,v2,z2] = [u1 + u2,if v2 < v1 then v2 else v1,if z2 > z1 then z2 else z1]:=by
 show [u1 + u2,min v1 v2,max z1 z2] = _
 congr 1
 congr 1
 ·split <;> omega
 ·congr 1
  split <;> omega
structure Slf (K:PySem.W.Frag) (mg:Str -> Option Value) (x:Str) (f:Addr) (fd:FuncData) (ps:List Str):Prop where
 m:mg x = some (.ref f)
 k:PySem.W.keepIn K (.ref f) = true
 b:Binds K fd ps []
theorem ok_no {P:Program} {w:World} {K:PySem.W.Frag} {mg:Str -> Option Value} {base:Heap} {k:Nat} {f:Addr} {fd:FuncData} {ps:List Str}:FnOk P w K mg base CX0 k f fd ps (conSp K fun _ _=>False) :=
 ⟨fun vs H Q E h=>by obtain ⟨_,_,_,_,_,h,_⟩:=h; exact h.elim,fun A outer s H args us vs Q E _ _ _ _ h=>by obtain ⟨_,_,_,_,_,h,_⟩:=h; exact h.elim⟩
section
variable {P:Program} {w:World} {K:PySem.W.Frag} {mg:Str -> Option Value} {base:Heap}
structure CalsP0 (P:Program) (w:World) (K:PySem.W.Frag) (mg:Str -> Option Value) (base:Heap):Prop where
 law_ways:Cal P w K mg base 1 "_law_ways" ["_law_box_here"] (conSp K cWa)
 law_cell:Cal P w K mg base 1 "_law_cell" ["_law_sides_here","_law_numbers","_law_place"] (conSp K cCell)
 law_slack:Cal P w K mg base 2 "_law_slack" ["_law_pen_here","_law_claim","_law_much"] (conSp K cSlack)
 law_draw:Cal P w K mg base 1 "_law_draw" ["_law_pen_here","_law_many"] (conSp K cDraw)
 law_cut:Cal P w K mg base 1 "_law_cut" ["_law_box_here","_law_way","_law_at"] (conSp K cCut)
noncomputable def cPap:Nat -> Con
 | 0=>fun _ _=>False
 | n + 1=>fun args Q=>∃ (a b c:Int) (sd cl:List Int) (bx:Bxx) (much:Bool),args = [.io (penD a b c),.fz (tupD sd),.fz (liD cl),.fz (boxD bx),.fz (.bool much)] /\ 0 <= a /\ 0 <= b /\ 0 <= c /\ Sd sd /\ cl.length = (plc sd).length /\ (∀ x ∈ cl,Big x) /\ Bx bx.1 bx.2 sd /\ ex bx.1 bx.2 <= n /\
  ∀ (p:Pp) (a' b' c':Int) (o:Ev),Made sd cl bx (!much) p -> 0 <= a' -> 0 <= b' -> 0 <= c' -> Q (.fz (pD p)) (some (.io (penD a' b' c')) :: o)
structure CalsPa (n:Nat) (P:Program) (w:World) (K:PySem.W.Frag) (mg:Str -> Option Value) (base:Heap):Prop extends CalsP0 P w K mg base where
 law_paper:Cal P w K mg base (n + 3) "_law_paper" ["_law_pen_here","_law_sides_here","_law_numbers","_law_box_here","_law_much"] (conSp K (cPap n))
theorem scPap:FnScope ["_law_pen_here","_law_sides_here","_law_numbers","_law_box_here","_law_much","_law_some","_law_own","_law_way","_law_at","_law_here","_law_there","_law_first","_law_second","_law_one","_law_other","_law_claim"] ["_law_pen_here","_law_sides_here","_law_numbers","_law_box_here","_law_much"] (defScope (top 46)):=⟨rfl,rfl,rfl,by decide +kernel,rfl,by decide +kernel,by decide +kernel⟩
theorem ok_papG {n:Nat} {f:Addr} {fd:FuncData} (F:Fun K "_law_paper" "_law_paper" (top 46) f fd) (T:Txt mg) (C:CalsPa n P w K mg base):FnOk P w K mg base CX0 (n + 4) f fd ["_law_pen_here","_law_sides_here","_law_numbers","_law_box_here","_law_much"] (conSp K (cPap (n + 1))):=by
 have S:=scPap
 refine wfn F S (fun cdv A outer s H E hr=>(s_cons (s_set (i:=5) S.nd rfl (Or.inl rfl) (w_fn C.law_ways (hr.mono (by first | decide | omega)) (wa_cons (wn 3) wa_nil)))
     (s_cons (s_if (t_cmp ok_eq (op_eqE (K:=K) rfl hr.units) (wn 5) (wx (w_lst wa_nil))) (s_cons (s_set (i:=6) S.nd rfl (Or.inl rfl) (w_fn C.law_cell (hr.mono (by first | decide | omega)) (wa_cons (wn 1) (wa_cons (wn 2) (wa_cons (wx (w_ix rfl (wn 3) (wx w_int))) wa_nil)))))
     (s_one (s_ret (w_tup (wa_cons (wx w_str) (wa_cons (wx (w_fnI C.law_slack (hr.mono (by first | decide | omega)) (wa_cons (wn 0) (wa_cons (wx (w_tup (wa_cons (wx (wv 6)) (wa_cons (wx (wv 6)) (wa_cons (wx (wv 6)) wa_nil))))) (wa_cons (wn 4) wa_nil))))) wa_nil)))))) s_nil)
     (s_cons (s_set (i:=7) S.nd rfl (Or.inl rfl) (w_ix rfl (wn 5) (wx (w_fnI C.law_draw (hr.mono (by first | decide | omega)) (wa_cons (wn 0) (wa_cons (wx (w_callB ok_len (call_lenK (K:=K) rfl) T.len_ PySem.boot_len (wa_cons (wn 5) wa_nil))) wa_nil))))))
     (s_cons (s_set (i:=8) S.nd rfl (Or.inl rfl) (w_bin ok_add op_addD (wx (w_ix rfl (wx (w_ix rfl (wn 3) (wx w_int))) (wn 7))) (wx (w_fnI C.law_draw (hr.mono (by first | decide | omega)) (wa_cons (wn 0) (wa_cons (wx (w_bin ok_sub op_sub (wx (w_ix rfl (wx (w_ix rfl (wn 3) (wx w_int))) (wn 7))) (wx (w_ix rfl (wx (w_ix rfl (wn 3) (wx w_int))) (wn 7))))) wa_nil))))))
     (s_cons (s_asgG (w_fn C.law_cut (hr.mono (by first | decide | omega)) (wa_cons (wn 3) (wa_cons (wn 7) (wa_cons (wn 8) wa_nil)))) (g_tup rfl rfl (gs_cons (g_name (i:=9) S.nd rfl (Or.inl rfl)) (gs_cons (g_name (i:=10) S.nd rfl (Or.inl rfl)) gs_nil))))
     (s_cons (s_set (i:=11) S.nd rfl (Or.inl rfl) (w_fnI C.law_paper (hr.mono (by first | decide | omega)) (wa_cons (wn 0) (wa_cons (wn 1) (wa_cons (wn 2) (wa_cons (wn 9) (wa_cons (wn 4) wa_nil)))))))
     (s_cons (s_set (i:=12) S.nd rfl (Or.inl rfl) (w_fnI C.law_paper (hr.mono (by first | decide | omega)) (wa_cons (wn 0) (wa_cons (wn 1) (wa_cons (wn 2) (wa_cons (wn 10) (wa_cons (wn 4) wa_nil)))))))
     (s_cons (s_set (i:=13) S.nd rfl (Or.inl rfl) (w_ix rfl (wn 11) (wx w_int)))
     (s_cons (s_set (i:=14) S.nd rfl (Or.inl rfl) (w_ix rfl (wn 12) (wx w_int)))
     (s_cons (s_set (i:=15) S.nd rfl (Or.inl rfl) (w_tup (wa_cons (wx (w_bin ok_add op_addD (wx (w_ix rfl (wn 13) (wx w_int))) (wx (w_ix rfl (wn 14) (wx w_int))))) (wa_cons (wx (w_callB ok_2I (call_min2 rfl) T.min_ boot_min (wa_cons (wx (w_ix rfl (wn 13) (wx w_int))) (wa_cons (wx (w_ix rfl (wn 14) (wx w_int))) wa_nil)))) (wa_cons (wx (w_callB ok_2I (call_max2 rfl) T.max_ boot_max (wa_cons (wx (w_ix rfl (wn 13) (wx w_int))) (wa_cons (wx (w_ix rfl (wn 14) (wx w_int))) wa_nil)))) wa_nil)))))
     (s_one (s_ret (w_tup (wa_cons (wx w_str) (wa_cons (wx (w_fnI C.law_slack (hr.mono (by first | decide | omega)) (wa_cons (wn 0) (wa_cons (wn 15) (wa_cons (wn 4) wa_nil))))) (wa_cons (wx (wv 7)) (wa_cons (wx (wv 8)) (wa_cons (wx (wv 11)) (wa_cons (wx (wv 12)) wa_nil)))))))))))))))))))) ?_ ?_
 ·rintro args Qd ⟨a,b,c,sd,cl,bx,much,rfl,_⟩; rfl
 ·rintro args Qd ⟨a,b,c,sd,cl,bx,much,rfl,ha,hb,hc,hsd,hcl,hB,hbx,hex,q⟩
  refine ⟨noOw_of rfl,?_⟩
  have hbl:=bx_len hbx
  have h3:=hsd.l3
  with_reducible refine cutS (fun ρ=>ρ = [some (.io (penD a b c)),some (.fz (tupD sd)),some (.fz (liD cl)),some (.fz (boxD bx)),some (.fz (.bool much)),some (.ow (.list ((lws bx).map PyData.int))),none,none,none,none,none,none,none,none,none,none]) ?_ ?_
  ·intro N hN
   exact ⟨bx,rfl,by omega,by omega,fun o=>hN _ rfl⟩
  rintro _ rfl
  have nl:=Nice.ints (lws bx)
  have nn:Nice 1 (PyData.list []):=Nice.ints []
  with_reducible refine cutS (fun ρ=>ρ = [some (.io (penD a b c)),some (.fz (tupD sd)),some (.fz (liD cl)),some (.fz (boxD bx)),some (.fz (.bool much)),some (.ow (.list ((lws bx).map PyData.int))),none,none,none,none,none,none,none,none,none,none] /\ lws bx ≠ []) ?_ ?_
  ·intro N hN
   refine ⟨nl.p,nn.p,nl.sh (by decide),nn.sh (by decide),mix_nil _,ite2 (fun h=>?_) (fun h=>?_)⟩
   ·have h:same (.list ((lws bx).map PyData.int)) (.list []) = true:=h
    rw [same_nil] at h
    have hnil:=of_decide_eq_true h
    have heq:=(lws_nil hbx hnil).symm
    refine ⟨_,rfl,sd,cl,bx.1,rfl,hsd,hcl,(bx_wi hbx).1,fun o=>?_⟩
    refine ⟨a,b,c,_,_,_,much,rfl,ha,hb,hc,fun x y a1 b1 c1 _ x0 x2 y0 y2 ht ha1 hb1 hc1=>?_⟩
    exact q (.cell (cel sd cl bx.1) (cel sd cl bx.1 - x) (cel sd cl bx.1 + y)) a1 b1 c1 _ (made_cell hB heq x0 x2 y0 y2 fun z=>ht (by simpa using z)) ha1 hb1 hc1
   ·have h:¬ same (.list ((lws bx).map PyData.int)) (.list []) = true:=h
    rw [same_nil] at h
    exact hN _ ⟨rfl,fun z=>h (decide_eq_true z)⟩
  rintro _ ⟨rfl,hne⟩
  with_reducible refine cutS (fun ρ=>∃ (wy a b c:Int),ρ = [some (.io (penD a b c)),some (.fz (tupD sd)),some (.fz (liD cl)),some (.fz (boxD bx)),some (.fz (.bool much)),some (.ow (.list ((lws bx).map PyData.int))),none,some (.fz (.int wy)),none,none,none,none,none,none,none,none] /\ wy ∈ lws bx /\ 0 <= a /\ 0 <= b /\ 0 <= c) ?_ ?_
  ·intro N hN
   have hpos:0 < (lws bx).length:=List.length_pos_iff.mpr hne
   have hlen:(lws bx).length <= 3:=by unfold lws; rw [List.length_map]; exact Nat.le_trans (List.length_filter_le _ _) (by rw [List.length_range]; omega)
   refine ⟨a,b,c,((lws bx).length:Int),by rw [<- List.length_map (f:=PyData.int) (as:=lws bx)]; rfl,ha,hb,hc,by omega,by omega,fun r a1 b1 c1 _ r0 r1 ha1 hb1 hc1=>?_⟩
   obtain ⟨j,rfl⟩:=Int.eq_ofNat_of_zero_le r0
   have hj:j < (lws bx).length:=by omega
   refine ⟨_,at_ints hj,hN _ ⟨_,a1,b1,c1,rfl,?_,ha1,hb1,hc1⟩⟩
   rw [List.getD_eq_getElem?_getD,List.getElem?_eq_getElem hj]
   exact List.getElem_mem _
  rintro _ ⟨wy,a,b,c,rfl,hwy,ha,hb,hc⟩
  obtain ⟨i,lo,hi,rfl,hi1,e1,e2,hlt⟩:=lws_mem (by omega) hwy
  have g1:bx.1.getD i 0 = lo:=getD_at e1
  have g2:bx.2.getD i 0 = hi:=getD_at e2
  have hlo:=(bx_pair hbx (lo,hi) ?_)
  rotate_left
  ·have hz:(bx.1.zip bx.2)[i]? = some (lo,hi):=by rw [List.getElem?_zip_eq_some]; exact ⟨e1,e2⟩
   exact List.mem_of_getElem? hz
  obtain ⟨hl0,_,sx,hsx,hsx2⟩:=hlo
  have hsx3:=le_prodI hsd.p sx hsx
  have hsm:=hsd.m
  with_reducible refine cutS (fun ρ=>∃ (at_ a b c:Int),ρ = [some (.io (penD a b c)),some (.fz (tupD sd)),some (.fz (liD cl)),some (.fz (boxD bx)),some (.fz (.bool much)),some (.ow (.list ((lws bx).map PyData.int))),none,some (.fz (.int (i:Int))),some (.fz (.int at_)),none,none,none,none,none,none,none] /\ lo <= at_ /\ at_ < hi /\ 0 <= a /\ 0 <= b /\ 0 <= c) ?_ ?_
  ·intro N hN
   refine ⟨_,rfl,_,at_ints hi1,_,rfl,_,at_ints (by omega),_,rfl,_,at_ints hi1,a,b,c,_,rfl,ha,hb,hc,?_,?_,fun r a1 b1 c1 _ r0 r1 ha1 hb1 hc1=>?_⟩
   ·rw [g1,g2]; omega
   ·rw [g1,g2]; simp only at hsx2 hl0; omega
   ·rw [g1,g2] at r1
    rw [g1]
    exact hN _ ⟨lo + r,a1,b1,c1,rfl,by omega,by omega,ha1,hb1,hc1⟩
  rintro _ ⟨at_,a,b,c,rfl,h1,h2,ha,hb,hc⟩
  generalize ewy:(i:Int) = wy at hwy
  have hcut:cutB bx wy at_ = true:=by
   unfold cutB
   have ei:wy.toNat = i:=by omega
   rw [ei,g1,g2,decide_eq_true (show 0 <= wy by omega),decide_eq_true (show wy < (bx.1.length:Int) by omega),decide_eq_true h1,decide_eq_true h2]
   rfl
  obtain ⟨k1,k2,k3,k4⟩:=cutB_is hcut
  have hexc:=ex_cut (b:=bx) (w:=wy) (a:=at_) (by omega) hcut
  obtain ⟨m,rfl⟩:∃ m,n = m + 1:=⟨n - 1,by omega⟩
  with_reducible refine cutS (fun ρ=>ρ = [some (.io (penD a b c)),some (.fz (tupD sd)),some (.fz (liD cl)),some (.fz (boxD bx)),some (.fz (.bool much)),some (.ow (.list ((lws bx).map PyData.int))),none,some (.fz (.int wy)),some (.fz (.int at_)),some (.fz (boxD (bxL bx wy at_))),some (.fz (boxD (bxR bx wy at_))),none,none,none,none,none]) ?_ ?_
  ·intro N hN
   exact ⟨bx,wy,at_,rfl,k1,k2,by omega,by omega,fun o=>⟨rfl,hN _ rfl⟩⟩
  rintro _ rfl
  with_reducible refine cutS (fun ρ=>∃ (p:Pp) (a b c:Int),ρ = [some (.io (penD a b c)),some (.fz (tupD sd)),some (.fz (liD cl)),some (.fz (boxD bx)),some (.fz (.bool much)),some (.ow (.list ((lws bx).map PyData.int))),none,some (.fz (.int wy)),some (.fz (.int at_)),some (.fz (boxD (bxL bx wy at_))),some (.fz (boxD (bxR bx wy at_))),some (.fz (pD p)),none,none,none,none] /\ Made sd cl (bxL bx wy at_) (!much) p /\ 0 <= a /\ 0 <= b /\ 0 <= c) ?_ ?_
  ·intro N hN
   exact ⟨a,b,c,sd,cl,bxL bx wy at_,much,rfl,ha,hb,hc,hsd,hcl,hB,bxL_bx hbx hcut,by omega,fun p a1 b1 c1 _ mp ha1 hb1 hc1=>hN _ ⟨p,a1,b1,c1,rfl,mp,ha1,hb1,hc1⟩⟩
  rintro _ ⟨p,a,b,c,rfl,mp,ha,hb,hc⟩
  with_reducible refine cutS (fun ρ=>∃ (q:Pp) (a b c:Int),ρ = [some (.io (penD a b c)),some (.fz (tupD sd)),some (.fz (liD cl)),some (.fz (boxD bx)),some (.fz (.bool much)),some (.ow (.list ((lws bx).map PyData.int))),none,some (.fz (.int wy)),some (.fz (.int at_)),some (.fz (boxD (bxL bx wy at_))),some (.fz (boxD (bxR bx wy at_))),some (.fz (pD p)),some (.fz (pD q)),none,none,none] /\ Made sd cl (bxR bx wy at_) (!much) q /\ 0 <= a /\ 0 <= b /\ 0 <= c) ?_ ?_
  ·intro N hN
   exact ⟨a,b,c,sd,cl,bxR bx wy at_,much,rfl,ha,hb,hc,hsd,hcl,hB,bxR_bx hbx hcut,by omega,fun q a1 b1 c1 _ mq ha1 hb1 hc1=>hN _ ⟨q,a1,b1,c1,rfl,mq,ha1,hb1,hc1⟩⟩
  rintro _ ⟨p2,a,b,c,rfl,mq,ha,hb,hc⟩
  have hlp:=mp.lv (bxL_bx hbx hcut) hsd
  have hlq:=mq.lv (bxR_bx hbx hcut) hsd
  obtain ⟨w1,r1,e1⟩:=pD_is p
  obtain ⟨w2,r2,e2⟩:=pD_is p2
  with_reducible refine cutS (fun ρ=>ρ = [some (.io (penD a b c)),some (.fz (tupD sd)),some (.fz (liD cl)),some (.fz (boxD bx)),some (.fz (.bool much)),some (.ow (.list ((lws bx).map PyData.int))),none,some (.fz (.int wy)),some (.fz (.int at_)),some (.fz (boxD (bxL bx wy at_))),some (.fz (boxD (bxR bx wy at_))),some (.fz (pD p)),some (.fz (pD p2)),some (.fz (tupD p.cl)),none,none]) ?_ ?_
  ·intro N hN
   rw [e1] at hN ⊢
   exact ⟨_,atI_nat (j:=1) rfl,hN _ rfl⟩
  rintro _ rfl
  with_reducible refine cutS (fun ρ=>ρ = [some (.io (penD a b c)),some (.fz (tupD sd)),some (.fz (liD cl)),some (.fz (boxD bx)),some (.fz (.bool much)),some (.ow (.list ((lws bx).map PyData.int))),none,some (.fz (.int wy)),some (.fz (.int at_)),some (.fz (boxD (bxL bx wy at_))),some (.fz (boxD (bxR bx wy at_))),some (.fz (pD p)),some (.fz (pD p2)),some (.fz (tupD p.cl)),some (.fz (tupD p2.cl)),none]) ?_ ?_
  ·intro N hN
   rw [e2] at hN ⊢
   exact ⟨_,atI_nat (j:=1) rfl,hN _ rfl⟩
  rintro _ rfl
  with_reducible refine cutS (fun ρ=>ρ = [some (.io (penD a b c)),some (.fz (tupD sd)),some (.fz (liD cl)),some (.fz (boxD bx)),some (.fz (.bool much)),some (.ow (.list ((lws bx).map PyData.int))),none,some (.fz (.int wy)),some (.fz (.int at_)),some (.fz (boxD (bxL bx wy at_))),some (.fz (boxD (bxR bx wy at_))),some (.fz (pD p)),some (.fz (pD p2)),some (.fz (tupD p.cl)),some (.fz (tupD p2.cl)),some (.fz (tupD (comb p.cl p2.cl)))]) ?_ ?_
  ·intro N hN
   obtain ⟨u1,v1,z1,f1⟩:=cl_is p
   obtain ⟨u2,v2,z2,f2⟩:=cl_is p2
   rw [f1,f2] at hN ⊢
   rw [comb_if] at hN
   exact ⟨_,rfl,_,rfl,_,rfl,_,rfl,_,rfl,_,rfl,hN _ rfl⟩
  rintro _ rfl
  refine ⟨a,b,c,_,_,_,much,rfl,ha,hb,hc,fun x y a1 b1 c1 _ x0 x2 y0 y2 ht ha1 hb1 hc1=>?_⟩
  exact q (.cut (p.cl.getD 0 0 + p2.cl.getD 0 0) (min (p.cl.getD 1 0) (p2.cl.getD 1 0) - x) (max (p.cl.getD 2 0) (p2.cl.getD 2 0) + y) wy at_ p p2) a1 b1 c1 _ (made_cut hcut hbx hsd mp mq (by omega) (by omega) x0 x2 y0 y2 fun z=>ht (by simpa using z)) ha1 hb1 hc1
theorem ok_pap {f:Addr} {fd:FuncData} (F:Fun K "_law_paper" "_law_paper" (top 46) f fd) (T:Txt mg) (C:CalsP0 P w K mg base) (R:Slf K mg "_law_paper" f fd ["_law_pen_here","_law_sides_here","_law_numbers","_law_box_here","_law_much"]):FnOk P w K mg base CX0 34 f fd ["_law_pen_here","_law_sides_here","_law_numbers","_law_box_here","_law_much"] (conSp K (cPap 31)):=by
 have all:∀ n,Cal P w K mg base (n + 3) "_law_paper" ["_law_pen_here","_law_sides_here","_law_numbers","_law_box_here","_law_much"] (conSp K (cPap n)):=fun n=>by
  induction n with
  | zero=>exact ⟨⟨f,fd,ok_no,R.m,R.k,R.b⟩⟩
  | succ n ih=>exact ⟨⟨f,fd,ok_papG F T ⟨C,ih⟩,R.m,R.k,R.b⟩⟩
 exact ok_papG F T ⟨C,all 30⟩
end
end R76
namespace R76
open PySem PySem.Spec L2 L3 PyProof.Rows
noncomputable def Pp.go:Pp -> Bxx -> List Int -> Option (Bxx × Pp)
 | p,b,[]=>some (b,p)
 | .cut _ _ _ w a p q,b,x :: r=>if x = 4 then p.go (bxL b w a) r else if x = 5 then q.go (bxR b w a) r else none
 | .cell _ _ _,_,_ :: _=>none
theorem go_nil (p:Pp) (b:Bxx):p.go b [] = some (b,p):=by cases p <;> rfl
theorem Pp.go_le (p:Pp):∀ {b:Bxx} {r:List Int} {z:Bxx × Pp},p.go b r = some z -> r.length + z.2.sz <= p.sz /\ r.length + z.2.lv <= p.lv:=by
 induction p with
 | cell t l h =>
  intro b r z e
  cases r with
  | nil=>cases e; exact ⟨by simp,by simp⟩
  | cons x r=>cases e
 | cut t l h w a p q ihp ihq =>
  intro b r z e
  cases r with
  | nil=>cases e; exact ⟨by simp,by simp⟩
  | cons x r =>
   have e:(if x = 4 then p.go (bxL b w a) r else if x = 5 then q.go (bxR b w a) r else none) = some z:=e
   show (x :: r).length + z.2.sz <= 1 + p.sz + q.sz /\ (x :: r).length + z.2.lv <= p.lv + q.lv
   rw [List.length_cons]
   have h1:=p.lv1
   have h2:=q.lv1
   by_cases h4:x = 4
   ·rw [if_pos h4] at e
    have:=ihp e
    omega
   ·rw [if_neg h4] at e
    by_cases h5:x = 5
    ·rw [if_pos h5] at e
     have:=ihq e
     omega
    ·rw [if_neg h5] at e
     cases e
theorem Pp.go_snoc (p:Pp):∀ {b b':Bxx} {r:List Int} {t l h w a:Int} {p1 p2:Pp},p.go b r = some (b',.cut t l h w a p1 p2) -> p.go b (r ++ [4]) = some (bxL b' w a,p1) /\ p.go b (r ++ [5]) = some (bxR b' w a,p2):=by
 induction p with
 | cell t l h =>
  intro b b' r t l h w a p1 p2 e
  cases r with
  | nil=>cases e
  | cons x r=>cases e
 | cut t l h w a p q ihp ihq =>
  intro b b' r t' l' h' w' a' p1 p2 e
  cases r with
  | nil=>cases e; exact ⟨by simp [Pp.go,go_nil],by simp [Pp.go,go_nil]⟩
  | cons x r =>
   have e:(if x = 4 then p.go (bxL b w a) r else if x = 5 then q.go (bxR b w a) r else none) = some (b',.cut t' l' h' w' a' p1 p2):=e
   show (if x = 4 then p.go (bxL b w a) (r ++ [4]) else if x = 5 then q.go (bxR b w a) (r ++ [4]) else none) = some _ /\ (if x = 4 then p.go (bxL b w a) (r ++ [5]) else if x = 5 then q.go (bxR b w a) (r ++ [5]) else none) = some _
   by_cases h4:x = 4
   ·rw [if_pos h4] at e ⊢
    rw [if_pos h4]
    exact ihp e
   ·rw [if_neg h4] at e ⊢
    rw [if_neg h4]
    by_cases h5:x = 5
    ·rw [if_pos h5] at e ⊢
     rw [if_pos h5]
     exact ihq e
    ·rw [if_neg h5] at e
     cases e
structure Rt (sd cl:List Int) (b:Bxx) (p:Pp):Prop where
 bx:Bx b.1 b.2 sd
 ok:okP sd cl b p = true
 tg:p.tg
 sm:p.sm
theorem Pp.go_rt {sd cl:List Int} (p:Pp):∀ {b:Bxx} {r:List Int} {z:Bxx × Pp},Rt sd cl b p -> p.go b r = some z -> Rt sd cl z.1 z.2:=by
 induction p with
 | cell t l h =>
  intro b r z R e
  cases r with
  | nil=>cases e; exact R
  | cons x r=>cases e
 | cut t l h w a p q ihp ihq =>
  intro b r z R e
  cases r with
  | nil=>cases e; exact R
  | cons x r =>
   have e:(if x = 4 then p.go (bxL b w a) r else if x = 5 then q.go (bxR b w a) r else none) = some z:=e
   obtain ⟨h1,_,h3,k4⟩:=okP_cut R.ok
   by_cases h4:x = 4
   ·rw [if_pos h4] at e
    exact ihp ⟨bxL_bx R.bx h1,h3,R.tg.2.1,R.sm.2.1⟩ e
   ·rw [if_neg h4] at e
    by_cases h5:x = 5
    ·rw [if_pos h5] at e
     exact ihq ⟨bxR_bx R.bx h1,k4,R.tg.2.2,R.sm.2.2⟩ e
    ·rw [if_neg h5] at e
     cases e
noncomputable def putT:Pp -> List Int -> Tr -> Tr
 | _,[],f=>f
 | .cut t l h w a p q,x :: r,f=>if x = 4 then .cut t l h (.int w) (.int a) (putT p r f) (pT q) else .cut t l h (.int w) (.int a) (pT p) (putT q r f)
 | .cell t l h,_ :: _,_=>.cell t l h
theorem put_nil (p:Pp) (f:Tr):putT p [] f = f:=by cases p <;> rfl
theorem put_no {sd cl:List Int} {f:Tr} (p:Pp):∀ {b:Bxx} {r:List Int} {z:Bxx × Pp},p.go b r = some z -> okT sd cl z.1 f = false -> okT sd cl b (putT p r f) = false:=by
 induction p with
 | cell t l h =>
  intro b r z e hf
  cases r with
  | nil=>cases e; exact hf
  | cons x r=>cases e
 | cut t l h w a p q ihp ihq =>
  intro b r z e hf
  cases r with
  | nil=>cases e; exact hf
  | cons x r =>
   have e:(if x = 4 then p.go (bxL b w a) r else if x = 5 then q.go (bxR b w a) r else none) = some z:=e
   show okT sd cl b (if x = 4 then Tr.cut t l h (.int w) (.int a) (putT p r f) (pT q) else .cut t l h (.int w) (.int a) (pT p) (putT q r f)) = false
   by_cases h4:x = 4
   ·rw [if_pos h4] at e ⊢
    rw [okT_cut,show okT sd cl (bxL b (unI (.int w)) (unI (.int a))) (putT p r f) = false from ihp e hf,Bool.false_and,Bool.and_false]
   ·rw [if_neg h4] at e ⊢
    by_cases h5:x = 5
    ·rw [if_pos h5] at e
     rw [okT_cut,show okT sd cl (bxR b (unI (.int w)) (unI (.int a))) (putT q r f) = false from ihq e hf,Bool.and_false,Bool.and_false]
    ·rw [if_neg h5] at e
     cases e
noncomputable def kdD (e:Bool) (d:PyData):Bool:=if e then plainD d else tupE d
structure Smd (e:Bool) (d:PyData):Prop where
 kk:kdD e d = true
 ss:d.showable = true
 dd:d.depth <= 2
 ll:d.shown.length <= 60
noncomputable def Tr.shb (e:Bool):Tr -> Prop
 | .cell t l h=>∀ x ∈ [t,l,h],x.natAbs < 10 ^ 41
 | .cut t l h w a p q=>(∀ x ∈ [t,l,h],x.natAbs < 10 ^ 41) /\ Smd e w /\ Smd e a /\ p.shb e /\ q.shb e
 | .odd d=>kdD e d = true /\ d.showable = true /\ d.shown.length <= 100000
noncomputable def Tr.dp:Tr -> Nat
 | .cell _ _ _=>1
 | .cut _ _ _ _ _ p q=>1 + max p.dp q.dp
 | .odd d=>d.depth
theorem smd_int {e:Bool} {x:Int} (h:x.natAbs < 10 ^ 41):Smd e (.int x) :=
 ⟨by cases e <;> rfl,showable_int (k:=200) (Nat.lt_trans h (by decide +kernel)) (by decide),by simp [PyData.depth],Nat.le_trans (shown_int (by decide) h) (by decide)⟩
theorem shown_cl1 {t l h:Int} (hx:∀ x ∈ [t,l,h],x.natAbs < 10 ^ 41):(tupD [t,l,h]).shown.length <= 140 /\ (tupD [t,l,h]).showable = true:=by
 have one:∀ x:Int,x ∈ [t,l,h] -> (PyData.int x).shown.length <= 42:=fun x hx'=>shown_int (by decide) (hx x hx')
 constructor
 ·have:=shown_tupS ([t,l,h].map PyData.int)
  have h1:=one t (by simp)
  have h2:=one l (by simp)
  have h3:=one h (by simp)
  simp only [List.map_cons,List.map_nil,List.sum_cons,List.sum_nil] at this
  show (PyData.tuple ([t,l,h].map PyData.int)).shown.length <= 140
  simp only [List.map_cons,List.map_nil]
  omega
 ·refine showableAll_of (l:=[t,l,h].map PyData.int) fun d hd=>?_
  obtain ⟨x,hx',rfl⟩:=List.mem_map.mp hd
  exact (smd_int (e:=true) (hx x hx')).ss
theorem kd_tup {e:Bool}:∀ {xs:List PyData},(∀ d ∈ xs,kdD e d = true) -> kdD e (.tuple xs) = true:=by
 intro xs h
 cases e
 ·show tupEs xs = true
  induction xs with
  | nil=>rfl
  | cons x xs ih =>
   show (tupE x && tupEs xs) = true
   rw [show tupE x = true from h x (by simp),ih fun d hd=>h d (by simp [hd])]
   rfl
 ·show plainAll xs = true
  induction xs with
  | nil=>rfl
  | cons x xs ih =>
   show (plainD x && plainAll xs) = true
   rw [show plainD x = true from h x (by simp),ih fun d hd=>h d (by simp [hd])]
   rfl
theorem kd_ints {e:Bool} (l:List Int):kdD e (tupD l) = true:=kd_tup fun d hd=>by
 obtain ⟨x,_,rfl⟩:=List.mem_map.mp hd
 cases e <;> rfl
theorem depth_all:∀ {xs:List PyData} {n:Nat},(∀ d ∈ xs,d.depth <= n) -> PyData.depthAll xs <= n
 | [],_,_=>by simp [PyData.depthAll]
 | x :: xs,n,h=>by
  have h1:=h x (by simp)
  have h2:=depth_all (xs:=xs) fun d hd=>h d (by simp [hd])
  simp only [PyData.depthAll]
  omega
theorem depth_tup {xs:List PyData} {n:Nat} (h:∀ d ∈ xs,d.depth <= n):(PyData.tuple xs).depth <= n + 1:=by
 have:=depth_all h
 simp only [PyData.depth]
 omega
theorem depth_ints (l:List Int):(tupD l).depth <= 1:=depth_tup fun d hd=>by
 obtain ⟨x,_,rfl⟩:=List.mem_map.mp hd
 simp [PyData.depth]
structure Shw (n m:Nat) (d:PyData):Prop where
 kk:shw d = true
 ss:d.showable = true
 dd:d.depth <= n
 ll:d.shown.length <= m
theorem Tr.shows {e:Bool} (t:Tr) (h:t.shb e):kdD e (tD t) = true /\ (tD t).showable = true /\ (tD t).depth <= t.dp + 2 /\ (tD t).shown.length <= 100000 * t.sz:=by
 induction t with
 | cell t l hh =>
  have hc:=shown_cl1 h
  refine ⟨kd_tup fun d hd=>?_,showableAll_of (l:=[.str "cell",tupD [t,l,hh]]) fun d hd=>?_,Nat.le_trans (depth_tup (n:=1) (xs:=[.str "cell",tupD [t,l,hh]]) fun d hd=>?_) (by show 2 <= 1 + 2; decide),?_⟩
  ·have hd:d = .str "cell" \/ d = tupD [t,l,hh]:=by simpa using hd
   rcases hd with rfl | rfl
   ·cases e <;> rfl
   ·exact kd_ints _
  ·have hd:d = .str "cell" \/ d = tupD [t,l,hh]:=by simpa using hd
   rcases hd with rfl | rfl
   ·rfl
   ·exact hc.2
  ·have hd:d = .str "cell" \/ d = tupD [t,l,hh]:=by simpa using hd
   rcases hd with rfl | rfl
   ·simp [PyData.depth]
   ·exact depth_ints _
  ·have:=shown_tupS [.str "cell",tupD [t,l,hh]]
   have e:=len_word.1
   simp only [List.map_cons,List.map_nil,List.sum_cons,List.sum_nil] at this
   show (PyData.tuple [.str "cell",tupD [t,l,hh]]).shown.length <= 100000 * 1
   have h2:=hc.1
   simp only [tupD,List.map_cons,List.map_nil] at this h2 ⊢
   omega
 | odd d=>exact ⟨h.1,h.2.1,by show d.depth <= d.depth + 2; omega,by show d.shown.length <= 100000 * 1; have:=h.2.2; omega⟩
 | cut t l hh w a p q ih1 ih2 =>
  obtain ⟨h0,hw,ha,h1,h2⟩:=h
  obtain ⟨k1,g1,d1,l1⟩:=ih1 h1
  obtain ⟨k2,g2,d2,l2⟩:=ih2 h2
  have hc:=shown_cl1 h0
  have cs:∀ d ∈ [.str "cut",tupD [t,l,hh],w,a,tD p,tD q],d = .str "cut" \/ d = tupD [t,l,hh] \/ d = w \/ d = a \/ d = tD p \/ d = tD q:=fun d hd=>by simpa using hd
  refine ⟨kd_tup fun d hd=>?_,showableAll_of (l:=[.str "cut",tupD [t,l,hh],w,a,tD p,tD q]) fun d hd=>?_,?_,?_⟩
  ·rcases cs d hd with rfl | rfl | rfl | rfl | rfl | rfl
   ·cases e <;> rfl
   ·exact kd_ints _
   ·exact hw.kk
   ·exact ha.kk
   ·exact k1
   ·exact k2
  ·rcases cs d hd with rfl | rfl | rfl | rfl | rfl | rfl
   ·rfl
   ·exact hc.2
   ·exact hw.ss
   ·exact ha.ss
   ·exact g1
   ·exact g2
  ·refine Nat.le_trans (depth_tup (n:=max p.dp q.dp + 2) fun d hd=>?_) (by show _ <= 1 + max p.dp q.dp + 2; omega)
   rcases cs d hd with rfl | rfl | rfl | rfl | rfl | rfl
   ·simp [PyData.depth]
   ·exact Nat.le_trans (depth_ints _) (by omega)
   ·exact Nat.le_trans hw.dd (by omega)
   ·exact Nat.le_trans ha.dd (by omega)
   ·omega
   ·omega
  ·have:=shown_tupS [.str "cut",tupD [t,l,hh],w,a,tD p,tD q]
   have e:=len_word.2
   have e1:=hw.ll
   have e2:=ha.ll
   have e3:=hc.1
   simp only [List.map_cons,List.map_nil,List.sum_cons,List.sum_nil] at this
   show (PyData.tuple [.str "cut",tupD [t,l,hh],w,a,tD p,tD q]).shown.length <= 100000 * (1 + p.sz + q.sz)
   simp only [tupD,List.map_cons,List.map_nil] at this e3 ⊢
   omega
theorem pT_shb {e:Bool} (p:Pp) (h:p.sm):(pT p).shb e:=by
 induction p with
 | cell t l hh=>exact fun x hx=>Nat.lt_trans (h x hx) (by decide +kernel)
 | cut t l hh w a p q ih1 ih2 =>
  obtain ⟨h0,h1,h2⟩:=h
  exact ⟨fun x hx=>Nat.lt_trans (h0 x (by simp at hx ⊢; omega)) (by decide +kernel),smd_int (Nat.lt_trans (h0 w (by simp)) (by decide +kernel)),smd_int (Nat.lt_trans (h0 a (by simp)) (by decide +kernel)),ih1 h1,ih2 h2⟩
theorem pT_dp (p:Pp):(pT p).dp <= p.lv:=by
 induction p with
 | cell=>exact Nat.le_refl _
 | cut t l h w a p q ih1 ih2 =>
  have h1:=p.lv1
  have h2:=q.lv1
  show 1 + max (pT p).dp (pT q).dp <= p.lv + q.lv
  omega
theorem put_all {e:Bool} {f:Tr} (hf:f.wf) (hs:f.shb e) (p:Pp):∀ {r:List Int},p.sm -> (putT p r f).wf /\ (putT p r f).shb e /\ (putT p r f).sz <= p.sz + f.sz /\ (putT p r f).dp <= max p.lv (r.length + f.dp):=by
 induction p with
 | cell t l h =>
  intro r hm
  cases r with
  | nil=>exact ⟨hf,hs,by show f.sz <= _; omega,by show f.dp <= _; simp; omega⟩
  | cons x r=>exact ⟨trivial,pT_shb (.cell t l h) hm,by show 1 <= 1 + _; omega,by show 1 <= max 1 _; omega⟩
 | cut t l h w a p q ihp ihq =>
  intro r hm
  cases r with
  | nil=>exact ⟨hf,hs,by show f.sz <= _; omega,by show f.dp <= _; simp; omega⟩
  | cons x r =>
   obtain ⟨h0,h1,h2⟩:=hm
   have hc:∀ x ∈ [t,l,h],x.natAbs < 10 ^ 41:=fun x hx=>Nat.lt_trans (h0 x (by simp at hx ⊢; omega)) (by decide +kernel)
   have sw:∀ e,Smd e (.int w):=fun e=>smd_int (Nat.lt_trans (h0 w (by simp)) (by decide +kernel))
   have sa:∀ e,Smd e (.int a):=fun e=>smd_int (Nat.lt_trans (h0 a (by simp)) (by decide +kernel))
   obtain ⟨a1,a2,a3,a4⟩:=ihp (r:=r) h1
   obtain ⟨b1,b2,b3,b4⟩:=ihq (r:=r) h2
   have l1:=p.lv1
   have l2:=q.lv1
   have d1:=pT_dp p
   have d2:=pT_dp q
   have z1:=pT_sz p
   have z2:=pT_sz q
   show (if x = 4 then Tr.cut t l h (.int w) (.int a) (putT p r f) (pT q) else .cut t l h (.int w) (.int a) (pT p) (putT q r f)).wf /\ _
   rw [show putT (.cut t l h w a p q) (x :: r) f = if x = 4 then Tr.cut t l h (.int w) (.int a) (putT p r f) (pT q) else .cut t l h (.int w) (.int a) (pT p) (putT q r f) from rfl,List.length_cons]
   by_cases h4:x = 4
   ·rw [if_pos h4]
    exact ⟨⟨rfl,rfl,a1,pT_wf q⟩,⟨hc,sw e,sa e,a2,pT_shb q h2⟩,by show 1 + (putT p r f).sz + (pT q).sz <= 1 + p.sz + q.sz + f.sz; omega,by show 1 + max (putT p r f).dp (pT q).dp <= max (p.lv + q.lv) _; omega⟩
   ·rw [if_neg h4]
    exact ⟨⟨rfl,rfl,pT_wf p,b1⟩,⟨hc,sw e,sa e,pT_shb p h1,b2⟩,by show 1 + (pT p).sz + (putT q r f).sz <= 1 + p.sz + q.sz + f.sz; omega,by show 1 + max (pT p).dp (putT q r f).dp <= max (p.lv + q.lv) _; omega⟩
structure Frs (sd cl:List Int) (b:Bxx) (n:Nat) (f:Tr):Prop where
 no:okT sd cl b f = false
 wf:f.wf
 sz:f.sz <= 60
 dp:f.dp <= n + 6
 sh:∃ e,f.shb e
structure Bad (sd cl:List Int) (b:Bxx) (t:Tr):Prop where
 no:okT sd cl b t = false
 wf:t.wf
 sz:t.sz <= 110
 sh:Shw 50 11000000 (tD t)
theorem bad_of {sd cl:List Int} {b:Bxx} {t:Tr} {e:Bool} (no:okT sd cl b t = false) (wf:t.wf) (sz:t.sz <= 110) (dp:t.dp <= 40) (sh:t.shb e):Bad sd cl b t:=by
 obtain ⟨k,s,d,l⟩:=t.shows sh
 refine ⟨no,wf,sz,?_,s,by omega,by omega⟩
 cases e
 ·unfold shw; rw [show tupE (tD t) = true from k,Bool.or_true]
 ·unfold shw; rw [show plainD (tD t) = true from k]; rfl
theorem put_bad {sd cl:List Int} {b:Bxx} {p:Pp} {r:List Int} {z:Bxx × Pp} {f:Tr} (hm:p.sm) (hl:p.lv <= 24) (e:p.go b r = some z) (h:Frs sd cl z.1 z.2.lv f):Bad sd cl b (putT p r f):=by
 obtain ⟨k,hk⟩:=h.sh
 obtain ⟨h1,h2,h3,h4⟩:=put_all h.wf hk p (r:=r) hm
 obtain ⟨g1,g2⟩:=p.go_le e
 have hz:=p.szl
 have h5:=h.sz
 have h6:=h.dp
 exact bad_of (put_no p e h.no) h1 (by omega) (by omega) h2
theorem frs_pp {sd cl:List Int} {b:Bxx} {n:Nat} {p:Pp} (no:okP sd cl b p = false) (hl:p.lv <= 24) (hn:p.lv <= n) (hs:(pT p).shb true):Frs sd cl b n (pT p):=by
 have hz:=p.szl
 have hd:=pT_dp p
 exact ⟨by rw [okT_pT]; exact no,pT_wf p,by rw [pT_sz]; omega,by omega,true,hs⟩
end R76
namespace R76
open PySem PySem.Spec L2 L3 PyProof.Rows
noncomputable abbrev Wn:=(Bxx × Pp) × List Int
noncomputable abbrev wnD (z:Wn):PyData:=.tuple [boxD z.1.1,pD z.1.2,tupD z.2]
noncomputable def szs (ws:List Wn):Nat:=(ws.map fun z=>z.1.2.sz).sum
theorem szs_app (a b:List Wn):szs (a ++ b) = szs a + szs b:=by unfold szs; rw [List.map_append,List.sum_append]
theorem szs_len:∀ ws:List Wn,ws.length <= szs ws
 | []=>by simp
 | z :: ws=>by
  have:=z.1.2.sz1
  have:=szs_len ws
  unfold szs at *
  simp only [List.map_cons,List.sum_cons,List.length_cons]
  omega
theorem same_nilR (l:List PyData):same (.list l) (.list []) = decide (l = []):=by
 cases l with
 | nil=>rfl
 | cons a l=>simp [same,sameAll]
theorem mix_nilR (l:List PyData):SeqAt.noMix (.list l) (.list []) = true:=by
 cases l <;> simp [SeqAt.noMix,SeqAt.noMixAll]
section
variable {P:Program} {w:World} {K:PySem.W.Frag} {mg:Str -> Option Value} {base:Heap}
structure CalsWn (P:Program) (w:World) (K:PySem.W.Frag) (mg:Str -> Option Value) (base:Heap):Prop where
 law_cut:Cal P w K mg base 1 "_law_cut" ["_law_box_here","_law_way","_law_at"] (conSp K cCut)
noncomputable def cWn:Con:=fun args Q=>∃ (sd cl:List Int) (b:Bxx) (p:Pp),args = [.fz (boxD b),.fz (pD p)] /\ Sd sd /\ Rt sd cl b p /\ p.lv <= 24 /\ ∀ (rs:List Wn) (o:Ev),rs ≠ [] -> rs.length <= 47 -> (∀ z ∈ rs,p.go b z.2 = some z.1) -> Q (.ow (.list (rs.map wnD))) o
theorem scWn:FnScope ["_law_box_here","_law_paper_here","_law_left","_law_found","_law_here","_law_one","_law_road","_law_first","_law_second"] ["_law_box_here","_law_paper_here"] (defScope (top 47)):=⟨rfl,rfl,rfl,by decide +kernel,rfl,by decide +kernel,by decide +kernel⟩
theorem ok_wn {f:Addr} {fd:FuncData} (F:Fun K "_law_within" "_law_within" (top 47) f fd) (C:CalsWn P w K mg base):FnOk P w K mg base CX0 2 f fd ["_law_box_here","_law_paper_here"] (conSp K cWn):=by
 have S:=scWn
 refine wfn F S (fun cdv A outer s H E hr=>(s_cons (s_set (i:=2) S.nd rfl (Or.inl rfl) (w_lst (wa_cons (wx (w_tup (wa_cons (wx (wv 0)) (wa_cons (wx (wv 1)) (wa_cons (wx (w_tup wa_nil)) wa_nil))))) wa_nil)))
     (s_cons (s_set (i:=3) S.nd rfl (Or.inl rfl) (w_lst wa_nil))
     (s_cons (s_while PassesOwn.never (t_cmp ok_ne (op_neE (K:=K) rfl hr.units) (wn 2) (wx (w_lst wa_nil))) (s_cons (s_asgG (w_m0 ok_pop rfl PySem.F.slot_list_pop PySem.F.type_list_pop mt_pop (wn 2)) (g_tup rfl rfl (gs_cons (g_name (i:=4) S.nd rfl (Or.inl rfl)) (gs_cons (g_name (i:=5) S.nd rfl (Or.inl rfl)) (gs_cons (g_name (i:=6) S.nd rfl (Or.inl rfl)) gs_nil)))))
     (s_cons (s_expr (w_m ok_append rfl PySem.F.slot_list_append PySem.F.type_list_append mt_append (wn 3) (wa_cons (wx (w_tup (wa_cons (wx (wv 4)) (wa_cons (wx (wv 5)) (wa_cons (wx (wv 6)) wa_nil))))) wa_nil)))
     (s_one (s_if (t_cmp ok_eq (op_eqE (K:=K) rfl hr.units) (wx (w_ix rfl (wn 5) (wx w_int))) (wx w_str)) (s_cons (s_asgG (w_fn C.law_cut (hr.mono (by first | decide | omega)) (wa_cons (wn 4) (wa_cons (wx (w_ix rfl (wn 5) (wx w_int))) (wa_cons (wx (w_ix rfl (wn 5) (wx w_int))) wa_nil)))) (g_tup rfl rfl (gs_cons (g_name (i:=7) S.nd rfl (Or.inl rfl)) (gs_cons (g_name (i:=8) S.nd rfl (Or.inl rfl)) gs_nil))))
     (s_one (s_expr (w_m ok_extend rfl PySem.F.slot_list_extend PySem.F.type_list_extend mt_extend (wn 2) (wa_cons (wx (w_lst (wa_cons (wx (w_tup (wa_cons (wx (wv 7)) (wa_cons (wx (w_ix rfl (wn 5) (wx w_int))) (wa_cons (wx (w_bin ok_add op_addD (wn 6) (wx (w_tup (wa_cons (wx w_int) wa_nil))))) wa_nil))))) (wa_cons (wx (w_tup (wa_cons (wx (wv 8)) (wa_cons (wx (w_ix rfl (wn 5) (wx w_int))) (wa_cons (wx (w_bin ok_add op_addD (wn 6) (wx (w_tup (wa_cons (wx w_int) wa_nil))))) wa_nil))))) wa_nil)))) wa_nil))))) s_nil)))))
     (s_one (s_retV (wn 3))))))) ?_ ?_
 ·rintro args Qd ⟨sd,cl,b,p,rfl,_⟩; rfl
 ·rintro args Qd ⟨sd,cl,b,p,rfl,hsd,hR,hlv,q⟩
  refine ⟨noOw_of rfl,?_⟩
  have h3:=hsd.l3
  have hpz:=p.szl
  refine ⟨fun m ρ=>∃ (ws fs:List Wn) (x y z u v:Option Sl),ρ = [some (.fz (boxD b)),some (.fz (pD p)),some (.ow (.list (ws.map wnD))),some (.ow (.list (fs.map wnD))),x,y,z,u,v] /\ (∀ z ∈ ws,p.go b z.2 = some z.1) /\ (∀ z ∈ fs,p.go b z.2 = some z.1) /\ fs.length + szs ws = p.sz /\ m = szs ws /\ ((x = none /\ y = none /\ z = none /\ u = none /\ v = none) \/ ∃ d e f,x = some (.fz d) /\ y = some (.fz e) /\ z = some (.fz f) /\ ((u = none /\ v = none) \/ ∃ g h,u = some (.fz g) /\ v = some (.fz h))),⟨_,[((b,p),[])],[],none,none,none,none,none,rfl,by intro z hz; rw [List.mem_singleton.mp hz]; exact go_nil p b,by simp,by simp [szs],rfl,.inl ⟨rfl,rfl,rfl,rfl,rfl⟩⟩,?_⟩
  rintro m ρ ⟨ws,fs,x,y,z,u,v,rfl,hws,hfs,hsz,rfl,hxy⟩
  have hwl:=szs_len ws
  have nn:Nice 1 (PyData.list []):=Nice.ints []
  have nl:Nice 30 (.list (ws.map wnD)):=Nice.list fun d hd=>by
   obtain ⟨z,hz,rfl⟩:=List.mem_map.mp hd
   refine Nice.tuple (n:=28) fun d hd=>?_
   have hd:d = boxD z.1.1 \/ d = pD z.1.2 \/ d = tupD z.2:=by simpa using hd
   have h50:=p.go_le (hws z hz)
   rcases hd with rfl | rfl | rfl
   ·exact Nice.mono (n:=2) (Nice.tuple fun d hd=>by
      have hd:d = tupD z.1.1.1 \/ d = tupD z.1.1.2:=by simpa using hd
      rcases hd with rfl | rfl <;> exact Nice.tup _) (by decide)
   ·exact z.1.2.nice.mono (by omega)
   ·exact (Nice.tup z.2).mono (by decide)
  rcases hxy with ⟨rfl,rfl,rfl,rfl,rfl⟩ | ⟨_,_,_,rfl,rfl,rfl,⟨rfl,rfl⟩ | ⟨_,_,rfl,rfl⟩⟩
  all_goals
   refine ⟨nl.p,nn.p,nl.sh (by decide),nn.sh (by decide),mix_nilR _,ite2 (fun h=>?_) (fun h=>?_)⟩
   ·have h:(!same (.list (ws.map wnD)) (.list [])) = true:=h
    rw [same_nilR] at h
    refine ⟨fun ρ'=>∃ m',m' < szs ws /\ _,fun ρ' h=>h,?_⟩
    obtain ⟨ws,⟨⟨bb,pp⟩,rr⟩,rfl⟩:∃ ws' x,ws = ws' ++ [x]:=by
     rcases List.eq_nil_or_concat ws with e | ⟨a,b,e⟩
     ·subst e; simp at h
     ·exact ⟨a,b,by simpa using e⟩
    have e1:((ws ++ [((bb,pp),rr)]).map wnD)[((ws ++ [((bb,pp),rr)]).map wnD).length - 1]? = some (wnD ((bb,pp),rr)):=by simp
    have e2:((ws ++ [((bb,pp),rr)]).map wnD).dropLast = ws.map wnD:=by simp
    have hko:p.go b rr = some (bb,pp):=hws ((bb,pp),rr) (by simp)
    have hw':∀ z ∈ ws,p.go b z.2 = some z.1:=fun z hz=>hws z (by simp [hz])
    have hf':∀ z ∈ fs ++ [((bb,pp),rr)],p.go b z.2 = some z.1:=fun z hz=>by
     rcases List.mem_append.mp hz with hz | hz
     ·exact hfs z hz
     ·rw [List.mem_singleton.mp hz]; exact hko
    have hsum:szs (ws ++ [((bb,pp),rr)]) = szs ws + pp.sz:=by rw [szs_app]; simp [szs]
    have ef:(fs ++ [((bb,pp),rr)]).map wnD = fs.map wnD ++ [wnD ((bb,pp),rr)]:=by rw [List.map_append]; rfl
    rw [hsum] at hsz ⊢
    have hpos:=pp.sz1
    have hrl:=(p.go_le hko).1
    have hwl:=szs_len ws
    have hRR:=p.go_rt hR hko
    refine ⟨_,e1,?_⟩
    rw [e2]
    refine ⟨rfl,?_⟩
    refine ⟨by rw [List.length_map]; exact Nat.lt_of_le_of_lt (show fs.length <= 47 by omega) (by decide),?_⟩
    cases pp with
    | cell t l hh =>
     refine ⟨_,rfl,?_⟩
     exact ⟨_,by show szs ws < szs ws + 1; omega,ws,fs ++ [((bb,.cell t l hh),rr)],_,_,_,_,_,by rw [ef]; rfl,hw',hf',by rw [List.length_append]; simp only [Pp.sz,List.length_singleton] at hsz ⊢; omega,rfl,.inr ⟨_,_,_,rfl,rfl,rfl,by first | exact .inl ⟨rfl,rfl⟩ | exact .inr ⟨_,_,rfl,rfl⟩⟩⟩
    | cut t l hh wy at_ p1 p2 =>
     obtain ⟨k1,k2⟩:=p.go_snoc hko
     obtain ⟨hcut,_,_,_⟩:=okP_cut hRR.ok
     obtain ⟨g1,g2,g3,g4⟩:=cutB_is hcut
     have hbl:=bx_len hRR.bx
     have esz:(Pp.cut t l hh wy at_ p1 p2).sz = 1 + p1.sz + p2.sz:=rfl
     rw [esz] at hsz ⊢
     have hrl:rr.length + (1 + p1.sz + p2.sz) <= p.sz:=hrl
     have z1:=p1.sz1
     have z2:=p2.sz1
     have eb:(ws ++ [((bxL bb wy at_,p1),rr ++ [4]),((bxR bb wy at_,p2),rr ++ [5])]).map wnD = ws.map wnD ++ [.tuple [boxD (bxL bb wy at_),pD p1,.tuple (rr.map PyData.int ++ [.int 4])],.tuple [boxD (bxR bb wy at_),pD p2,.tuple (rr.map PyData.int ++ [.int 5])]]:=by rw [List.map_append]; simp
     have es:szs (ws ++ [((bxL bb wy at_,p1),rr ++ [4]),((bxR bb wy at_,p2),rr ++ [5])]) = szs ws + (p1.sz + p2.sz):=by rw [szs_app]; simp [szs]
     refine ⟨_,rfl,?_⟩
     refine ⟨_,rfl,_,rfl,bb,wy,at_,rfl,g1,g2,by have:=hbl; simp only at this; omega,by have:=hbl; simp only at this; omega,fun o=>⟨rfl,?_⟩⟩
     refine ⟨_,rfl,le_size (by simp; omega),_,rfl,le_size (by simp; omega),le_size (by simp; omega),?_⟩
     refine ⟨_,?_,ws ++ [((bxL bb wy at_,p1),rr ++ [4]),((bxR bb wy at_,p2),rr ++ [5])],fs ++ [((bb,.cut t l hh wy at_ p1 p2),rr)],_,_,_,_,_,by rw [eb,ef]; rfl,fun z hz=>?_,hf',?_,rfl,.inr ⟨_,_,_,rfl,rfl,rfl,.inr ⟨_,_,rfl,rfl⟩⟩⟩
     ·rw [es]; omega
     ·rcases List.mem_append.mp hz with hz | hz
      ·exact hw' z hz
      ·have hz:z = ((bxL bb wy at_,p1),rr ++ [4]) \/ z = ((bxR bb wy at_,p2),rr ++ [5]):=by simpa using hz
       rcases hz with rfl | rfl
       ·exact k1
       ·exact k2
     ·rw [es,List.length_append,List.length_singleton]; omega
   ·have h:¬ (!same (.list (ws.map wnD)) (.list [])) = true:=h
    rw [same_nilR] at h
    have e:ws = []:=by
     cases ws with
     | nil=>rfl
     | cons a b=>simp at h
    subst e
    have hsz:fs.length + 0 = p.sz:=hsz
    have:=p.sz1
    exact q fs _ (fun z=>by rw [z] at hsz; simp at hsz; omega) (by omega) hfs
end
end R76
namespace R76
open PySem PySem.Spec L2 L3 PyProof.Rows
noncomputable def mkC (w a:Int) (p q:Pp):Pp:=.cut (p.cl.getD 0 0 + q.cl.getD 0 0) (min (p.cl.getD 1 0) (q.cl.getD 1 0)) (max (p.cl.getD 2 0) (q.cl.getD 2 0)) w a p q
noncomputable def anP:Pp -> List Int -> Pp -> Pp
 | _,[],f=>f
 | .cut _ _ _ w a p q,x :: r,f=>if x = 4 then mkC w a (anP p r f) q else mkC w a p (anP q r f)
 | .cell t l h,_ :: _,_=>.cell t l h
noncomputable def near (c d:List Int):Prop:=(c.getD 0 0 - d.getD 0 0).natAbs <= 3 /\ (c.getD 1 0 - d.getD 1 0).natAbs <= 3 /\ (c.getD 2 0 - d.getD 2 0).natAbs <= 3
theorem far {x y:Int} (h1:(x - y).natAbs <= 3) (h2:y.natAbs < 10 ^ 40):x.natAbs < 10 ^ 41:=by omega
theorem lip {u1 u2 v1 v2 w1 w2 u3 u4 v3 v4 w3 w4:Int} (n1:(u3 - u1).natAbs <= 3 /\ (v3 - v1).natAbs <= 3 /\ (w3 - w1).natAbs <= 3) (n2:(u4 - u2).natAbs <= 3 /\ (v4 - v2).natAbs <= 3 /\ (w4 - w2).natAbs <= 3) (hx:u3 = u1 \/ u4 = u2) :
  (u3 + u4 - (u1 + u2)).natAbs <= 3 /\ (min v3 v4 - min v1 v2).natAbs <= 3 /\ (max w3 w4 - max w1 w2).natAbs <= 3:=by
 obtain ⟨a1,a2,a3⟩:=n1
 obtain ⟨b1,b2,b3⟩:=n2
 refine ⟨?_,?_,?_⟩
 ·clear a2 a3 b2 b3
  omega
 ·clear a1 a3 b1 b3 hx
  omega
 ·clear a2 a1 b2 b1 hx
  omega
theorem an_all {sd cl:List Int} {f:Pp} (p:Pp):∀ {b:Bxx} {r:List Int} {z:Bxx × Pp},p.go b r = some z -> okP sd cl z.1 f = false -> near f.cl z.2.cl -> f.lv = z.2.lv -> (pT f).shb true -> p.tg -> p.sm ->
  okP sd cl b (anP p r f) = false /\ near (anP p r f).cl p.cl /\ (anP p r f).lv = p.lv /\ (pT (anP p r f)).shb true:=by
 induction p with
 | cell t l h =>
  intro b r z e hf hn hl hs _ _
  cases r with
  | nil=>cases e; exact ⟨hf,hn,hl,hs⟩
  | cons x r=>cases e
 | cut t l h w a p q ihp ihq =>
  intro b r z e hf hn hl hs ht hm
  cases r with
  | nil=>cases e; exact ⟨hf,hn,hl,hs⟩
  | cons x r =>
   have e:(if x = 4 then p.go (bxL b w a) r else if x = 5 then q.go (bxR b w a) r else none) = some z:=e
   obtain ⟨t0,t1,t2⟩:=ht
   obtain ⟨m0,m1,m2⟩:=hm
   have sw:Smd true (.int w):=smd_int (Nat.lt_trans (m0 w (by simp)) (by decide +kernel))
   have sa:Smd true (.int a):=smd_int (Nat.lt_trans (m0 a (by simp)) (by decide +kernel))
   have mt:=m0 t (by simp)
   have ml:=m0 l (by simp)
   have mh:=m0 h (by simp)
   have fin:∀ p' q':Pp,near p'.cl p.cl -> near q'.cl q.cl -> p'.cl = p.cl \/ q'.cl = q.cl -> okP sd cl (bxL b w a) p' = false \/ okP sd cl (bxR b w a) q' = false -> p'.lv = p.lv -> q'.lv = q.lv -> (pT p').shb true -> (pT q').shb true ->
     okP sd cl b (mkC w a p' q') = false /\ near (mkC w a p' q').cl [t,l,h] /\ (mkC w a p' q').lv = p.lv + q.lv /\ (pT (mkC w a p' q')).shb true:=fun p' q' n1 n2 hx ho l1 l2 s1 s2=>by
    obtain ⟨u1,v1,w1,e1⟩:=cl_is p
    obtain ⟨u2,v2,w2,e2⟩:=cl_is q
    obtain ⟨u3,v3,w3,e3⟩:=cl_is p'
    obtain ⟨u4,v4,w4,e4⟩:=cl_is q'
    rw [e1,e2] at t0
    rw [e1,e3] at n1 hx
    rw [e2,e4] at n2 hx
    have hx:(u3 = u1 /\ v3 = v1 /\ w3 = w1) \/ (u4 = u2 /\ v4 = v2 /\ w4 = w2):=by simpa using hx
    have n1:(u3 - u1).natAbs <= 3 /\ (v3 - v1).natAbs <= 3 /\ (w3 - w1).natAbs <= 3:=n1
    have n2:(u4 - u2).natAbs <= 3 /\ (v4 - v2).natAbs <= 3 /\ (w4 - w2).natAbs <= 3:=n2
    have t0:[t,l,h] = [u1 + u2,min v1 v2,max w1 w2]:=t0
    injection t0 with et t0
    injection t0 with el t0
    injection t0 with eh _
    have ec:(mkC w a p' q').cl = [u3 + u4,min v3 v4,max w3 w4]:=by show [p'.cl.getD 0 0 + q'.cl.getD 0 0,_,_] = _; rw [e3,e4]; rfl
    have nn:near [u3 + u4,min v3 v4,max w3 w4] [t,l,h]:=by
     show (u3 + u4 - t).natAbs <= 3 /\ (min v3 v4 - l).natAbs <= 3 /\ (max w3 w4 - h).natAbs <= 3
     rw [et,el,eh]
     exact lip n1 n2 (hx.imp (·.1) (·.1))
    refine ⟨?_,?_,?_,?_⟩
    ·show (cutB b w a && (letB _ (comb p'.cl q'.cl) && (okP sd cl (bxL b w a) p' && okP sd cl (bxR b w a) q'))) = false
     rcases ho with ho | ho <;> rw [ho]
     ·rw [Bool.false_and,Bool.and_false,Bool.and_false]
     ·rw [Bool.and_false,Bool.and_false,Bool.and_false]
    ·rw [ec]
     exact nn
    ·show p'.lv + q'.lv = _
     rw [l1,l2]
    ·refine ⟨fun x hx=>?_,sw,sa,s1,s2⟩
     have hx:x ∈ (mkC w a p' q').cl:=hx
     rw [ec] at hx
     have nn:(u3 + u4 - t).natAbs <= 3 /\ (min v3 v4 - l).natAbs <= 3 /\ (max w3 w4 - h).natAbs <= 3:=nn
     have hx:x = u3 + u4 \/ x = min v3 v4 \/ x = max w3 w4:=by simpa using hx
     rcases hx with rfl | rfl | rfl
     ·exact far nn.1 mt
     ·exact far nn.2.1 ml
     ·exact far nn.2.2 mh
   show okP sd cl b (if x = 4 then mkC w a (anP p r f) q else mkC w a p (anP q r f)) = false /\ near (if x = 4 then mkC w a (anP p r f) q else mkC w a p (anP q r f)).cl [t,l,h] /\ (if x = 4 then mkC w a (anP p r f) q else mkC w a p (anP q r f)).lv = p.lv + q.lv /\ (pT (if x = 4 then mkC w a (anP p r f) q else mkC w a p (anP q r f))).shb true
   have self:∀ c:List Int,near c c:=fun c=>by unfold near; simp
   by_cases h4:x = 4
   ·rw [if_pos h4] at e
    simp only [if_pos h4]
    obtain ⟨i1,i2,i3,i4⟩:=ihp e hf hn hl hs t1 m1
    exact fin _ _ i2 (self _) (.inr rfl) (.inl i1) i3 rfl i4 (pT_shb q m2)
   ·rw [if_neg h4] at e
    simp only [if_neg h4]
    by_cases h5:x = 5
    ·rw [if_pos h5] at e
     obtain ⟨i1,i2,i3,i4⟩:=ihq e hf hn hl hs t2 m2
     exact fin _ _ (self _) i2 (.inl rfl) (.inr i1) rfl i3 (pT_shb p m1) i4
    ·rw [if_neg h5] at e
     cases e
theorem an_bad {sd cl:List Int} {b:Bxx} {p f:Pp} {r:List Int} {z:Bxx × Pp} (R:Rt sd cl b p) (hl:p.lv <= 24) (e:p.go b r = some z) (no:okP sd cl z.1 f = false) (hn:near f.cl z.2.cl) (hv:f.lv = z.2.lv) (hs:(pT f).shb true):Bad sd cl b (pT (anP p r f)):=by
 obtain ⟨h1,_,h3,h4⟩:=an_all p e no hn hv hs R.tg R.sm
 have hz:=(anP p r f).szl
 have hd:=pT_dp (anP p r f)
 exact bad_of (by rw [okT_pT]; exact h1) (pT_wf _) (by rw [pT_sz]; omega) (by omega) h4
noncomputable def Bent (t l h t' l' h':Int):Prop:=((t' - t).natAbs <= 3 /\ (l' - l).natAbs <= 3 /\ (h' - h).natAbs <= 3) /\ (t' ≠ t \/ l < l' \/ h' < h)
noncomputable def Pp.re:Pp -> Int -> Int -> Int -> Pp
 | .cell _ _ _,t,l,h=>.cell t l h
 | .cut _ _ _ w a p q,t,l,h=>.cut t l h w a p q
theorem bent_let {t l h t' l' h':Int} (hb:Bent t l h t' l' h'):letB [t',l',h'] [t,l,h] = false:=by
 show (decide (t' = t) && (decide (l' <= l) && decide (h <= h'))) = false
 rcases hb.2 with z | z | z
 ·rw [decide_eq_false z]; rfl
 ·rw [decide_eq_false (show ¬ l' <= l by omega),Bool.false_and,Bool.and_false]
 ·rw [decide_eq_false (show ¬ h <= h' by omega),Bool.and_false,Bool.and_false]
theorem re_no {sd cl:List Int} {b:Bxx} {p:Pp} {t l h t' l' h':Int} (R:Rt sd cl b p) (e:p.cl = [t,l,h]) (hb:Bent t l h t' l' h'):okP sd cl b (p.re t' l' h') = false:=by
 cases p with
 | cell t0 l0 h0 =>
  cases e
  obtain ⟨h1,h2,_⟩:=okP_cell R.ok
  obtain ⟨rfl,rfl⟩:=R.tg
  subst h2
  show (decide (b.1 = b.2) && letB [t',l',h'] _) = false
  rw [bent_let hb,Bool.and_false]
 | cut t0 l0 h0 w a p q =>
  cases e
  have ht:=R.tg.1
  show (cutB b w a && (letB [t',l',h'] (comb p.cl q.cl) && _)) = false
  rw [<- ht,bent_let hb,Bool.false_and,Bool.and_false]
theorem re_facts {p:Pp} {t l h t' l' h':Int} (hm:p.sm) (e:p.cl = [t,l,h]) (hb:Bent t l h t' l' h'):(p.re t' l' h').lv = p.lv /\ near (p.re t' l' h').cl p.cl /\ (pT (p.re t' l' h')).shb true:=by
 obtain ⟨b1,b2,b3⟩:=hb.1
 cases p with
 | cell t0 l0 h0 =>
  cases e
  refine ⟨rfl,⟨b1,b2,b3⟩,fun x hx=>?_⟩
  have hx:x = t' \/ x = l' \/ x = h':=by simpa using hx
  rcases hx with rfl | rfl | rfl
  ·exact far b1 (hm _ (by simp))
  ·exact far b2 (hm _ (by simp))
  ·exact far b3 (hm _ (by simp))
 | cut t0 l0 h0 w a p q =>
  cases e
  obtain ⟨m0,m1,m2⟩:=hm
  refine ⟨rfl,⟨b1,b2,b3⟩,fun x hx=>?_,smd_int (Nat.lt_trans (m0 w (by simp)) (by decide +kernel)),smd_int (Nat.lt_trans (m0 a (by simp)) (by decide +kernel)),pT_shb p m1,pT_shb q m2⟩
  have hx:x = t' \/ x = l' \/ x = h':=by simpa using hx
  rcases hx with rfl | rfl | rfl
  ·exact far b1 (m0 _ (by simp))
  ·exact far b2 (m0 _ (by simp))
  ·exact far b3 (m0 _ (by simp))
theorem re_frs {sd cl:List Int} {b:Bxx} {p:Pp} {t l h t' l' h':Int} (R:Rt sd cl b p) (hl:p.lv <= 24) (e:p.cl = [t,l,h]) (hb:Bent t l h t' l' h'):Frs sd cl b p.lv (pT (p.re t' l' h')):=by
 obtain ⟨h1,_,h3⟩:=re_facts R.sm e hb
 exact frs_pp (re_no R e hb) (by omega) (by omega) h3
section
variable {P:Program} {w:World} {K:PySem.W.Frag} {mg:Str -> Option Value} {base:Heap}
noncomputable def cWi:Nat -> Con
 | 0=>fun _ _=>False
 | n + 1=>fun args Q=>∃ (p:Pp) (f:Tr) (b:Bxx) (z:Bxx × Pp) (r:List Int),args = [.fz (pD p),.fz (tupD r),.fz (tD f)] /\ p.go b r = some z /\ r.length <= n /\ n <= 100 /\ ∀ o,Q (.fz (tD (putT p r f))) o
structure CalsWi (n:Nat) (P:Program) (w:World) (K:PySem.W.Frag) (mg:Str -> Option Value) (base:Heap):Prop where
 law_with:Cal P w K mg base n "_law_with" ["_law_paper_here","_law_road","_law_fresh"] (conSp K (cWi n))
theorem scWi:FnScope ["_law_paper_here","_law_road","_law_fresh","_law_at","_law_inner"] ["_law_paper_here","_law_road","_law_fresh"] (defScope (top 48)):=⟨rfl,rfl,rfl,by decide +kernel,rfl,by decide +kernel,by decide +kernel⟩
theorem ok_wiG {n:Nat} {f:Addr} {fd:FuncData} (F:Fun K "_law_with" "_law_with" (top 48) f fd) (C:CalsWi n P w K mg base):FnOk P w K mg base CX0 (n + 1) f fd ["_law_paper_here","_law_road","_law_fresh"] (conSp K (cWi (n + 1))):=by
 have S:=scWi
 refine wfn F S (fun cdv A outer s H E hr=>(s_cons (s_if (t_cmp ok_eq (op_eqE (K:=K) rfl hr.units) (wn 1) (wx (w_tup wa_nil))) (s_one (s_retV (wn 2))) s_nil)
     (s_cons (s_set (i:=3) S.nd rfl (Or.inl rfl) (w_ix rfl (wn 1) (wx w_int)))
     (s_cons (s_set (i:=4) S.nd rfl (Or.inl rfl) (w_fn C.law_with (hr.mono (by first | decide | omega)) (wa_cons (wx (w_ix rfl (wn 0) (wn 3))) (wa_cons (wx (w_sl1T rfl (wn 1) (wx w_int))) (wa_cons (wn 2) wa_nil)))))
     (s_one (s_ret (w_bin ok_add op_addD (wx (w_bin ok_add op_addD (wx (w_sl2T rfl (wn 0) (wn 3))) (wx (w_tup (wa_cons (wx (wv 4)) wa_nil))))) (wx (w_sl1T rfl (wn 0) (wx (w_bin ok_add op_addD (wn 3) (wx w_int)))))))))))) ?_ ?_
 ·rintro args Qd ⟨p,f,b,z,r,rfl,_⟩; rfl
 ·rintro args Qd ⟨p,f,b,z,r,rfl,hs,hl,hn,q⟩
  refine ⟨noOw_of rfl,?_⟩
  have n1:=Nice.tup r
  have n2:=Nice.tup []
  refine ⟨n1.p,n2.p,n1.sh (by decide),n2.sh (by decide),mix_tup r [],ite2 (fun h=>?_) (fun h=>?_)⟩
  ·have h:same (tupD r) (tupD []) = true:=h
   rw [same_tup] at h
   have h:=of_decide_eq_true h
   subst h
   rw [put_nil] at q
   exact q _
  ·have h:¬ same (tupD r) (tupD []) = true:=h
   rw [same_tup] at h
   cases r with
   | nil=>exact absurd (decide_eq_true rfl) h
   | cons x r =>
    cases p with
    | cell t l hh=>cases hs
    | cut t l hh wy at_ p1 p2 =>
     have hs:(if x = 4 then p1.go (bxL b wy at_) r else if x = 5 then p2.go (bxR b wy at_) r else none) = some z:=hs
     rw [List.length_cons] at hl
     obtain ⟨m,rfl⟩:∃ m,n = m + 1:=⟨n - 1,by omega⟩
     by_cases h4:x = 4
     ·subst h4
      rw [if_pos rfl] at hs
      have q:∀ o,Qd (.fz (.tuple [.str "cut",tupD [t,l,hh],.int wy,.int at_,tD (putT p1 r f),tD (pT p2)])) o:=q
      rw [tD_pT] at q
      refine ⟨_,atI_nat (j:=0) rfl,?_⟩
      refine ⟨_,rfl,by decide,p1,f,_,z,r,rfl,hs,by omega,by omega,fun o'=>?_⟩
      exact ⟨by decide,le_size (by simp),by decide,le_size (by simp),q _⟩
     ·rw [if_neg h4] at hs
      by_cases h5:x = 5
      ·subst h5
       rw [if_pos rfl] at hs
       have q:∀ o,Qd (.fz (.tuple [.str "cut",tupD [t,l,hh],.int wy,.int at_,tD (pT p1),tD (putT p2 r f)])) o:=q
       rw [tD_pT] at q
       refine ⟨_,atI_nat (j:=0) rfl,?_⟩
       refine ⟨_,rfl,by decide,p2,f,_,z,r,rfl,hs,by omega,by omega,fun o'=>?_⟩
       exact ⟨by decide,le_size (by simp),by decide,le_size (by simp),q _⟩
      ·rw [if_neg h5] at hs
       cases hs
theorem ok_wi {f:Addr} {fd:FuncData} (F:Fun K "_law_with" "_law_with" (top 48) f fd) (R:Slf K mg "_law_with" f fd ["_law_paper_here","_law_road","_law_fresh"]):FnOk P w K mg base CX0 38 f fd ["_law_paper_here","_law_road","_law_fresh"] (conSp K (cWi 38)):=by
 have all:∀ n,Cal P w K mg base n "_law_with" ["_law_paper_here","_law_road","_law_fresh"] (conSp K (cWi n)):=fun n=>by
  induction n with
  | zero=>exact ⟨⟨f,fd,ok_no,R.m,R.k,R.b⟩⟩
  | succ n ih=>exact ⟨⟨f,fd,ok_wiG F ⟨ih⟩,R.m,R.k,R.b⟩⟩
 exact ok_wiG F ⟨all 37⟩
end
end R76
namespace R76
open PySem PySem.Spec L2 L3 PyProof.Rows
section
variable {P:Program} {w:World} {K:PySem.W.Frag} {mg:Str -> Option Value} {base:Heap}
noncomputable def cAw:Nat -> Con
 | 0=>fun _ _=>False
 | n + 1=>fun args Q=>∃ (p f:Pp) (b:Bxx) (z:Bxx × Pp) (r:List Int),args = [.fz (pD p),.fz (tupD r),.fz (pD f)] /\ p.go b r = some z /\ r.length <= n /\ n <= 100 /\ ∀ o,Q (.fz (pD (anP p r f))) o
structure CalsAw (n:Nat) (P:Program) (w:World) (K:PySem.W.Frag) (mg:Str -> Option Value) (base:Heap):Prop where
 law_anew:Cal P w K mg base n "_law_anew" ["_law_paper_here","_law_road","_law_fresh"] (conSp K (cAw n))
theorem scAw:FnScope ["_law_paper_here","_law_road","_law_fresh","_law_at","_law_inner","_law_found","_law_one","_law_other","_law_claim"] ["_law_paper_here","_law_road","_law_fresh"] (defScope (top 49)):=⟨rfl,rfl,rfl,by decide +kernel,rfl,by decide +kernel,by decide +kernel⟩
theorem ok_awG {n:Nat} {f:Addr} {fd:FuncData} (F:Fun K "_law_anew" "_law_anew" (top 49) f fd) (T:Txt mg) (C:CalsAw n P w K mg base):FnOk P w K mg base CX0 (n + 1) f fd ["_law_paper_here","_law_road","_law_fresh"] (conSp K (cAw (n + 1))):=by
 have S:=scAw
 refine wfn F S (fun cdv A outer s H E hr=>(s_cons (s_if (t_cmp ok_eq (op_eqE (K:=K) rfl hr.units) (wn 1) (wx (w_tup wa_nil))) (s_one (s_retV (wn 2))) s_nil)
     (s_cons (s_set (i:=3) S.nd rfl (Or.inl rfl) (w_ix rfl (wn 1) (wx w_int)))
     (s_cons (s_set (i:=4) S.nd rfl (Or.inl rfl) (w_fn C.law_anew (hr.mono (by first | decide | omega)) (wa_cons (wx (w_ix rfl (wn 0) (wn 3))) (wa_cons (wx (w_sl1T rfl (wn 1) (wx w_int))) (wa_cons (wn 2) wa_nil)))))
     (s_cons (s_set (i:=5) S.nd rfl (Or.inl rfl) (w_bin ok_add op_addD (wx (w_bin ok_add op_addD (wx (w_sl2T rfl (wn 0) (wn 3))) (wx (w_tup (wa_cons (wx (wv 4)) wa_nil))))) (wx (w_sl1T rfl (wn 0) (wx (w_bin ok_add op_addD (wn 3) (wx w_int)))))))
     (s_cons (s_set (i:=6) S.nd rfl (Or.inl rfl) (w_ix rfl (wx (w_ix rfl (wn 5) (wx w_int))) (wx w_int)))
     (s_cons (s_set (i:=7) S.nd rfl (Or.inl rfl) (w_ix rfl (wx (w_ix rfl (wn 5) (wx w_int))) (wx w_int)))
     (s_cons (s_set (i:=8) S.nd rfl (Or.inl rfl) (w_tup (wa_cons (wx (w_bin ok_add op_addD (wx (w_ix rfl (wn 6) (wx w_int))) (wx (w_ix rfl (wn 7) (wx w_int))))) (wa_cons (wx (w_callB ok_2I (call_min2 rfl) T.min_ boot_min (wa_cons (wx (w_ix rfl (wn 6) (wx w_int))) (wa_cons (wx (w_ix rfl (wn 7) (wx w_int))) wa_nil)))) (wa_cons (wx (w_callB ok_2I (call_max2 rfl) T.max_ boot_max (wa_cons (wx (w_ix rfl (wn 6) (wx w_int))) (wa_cons (wx (w_ix rfl (wn 7) (wx w_int))) wa_nil)))) wa_nil)))))
     (s_one (s_ret (w_bin ok_add op_addD (wx (w_bin ok_add op_addD (wx (w_sl2T rfl (wn 5) (wx w_int))) (wx (w_tup (wa_cons (wx (wv 8)) wa_nil))))) (wx (w_sl1T rfl (wn 5) (wx w_int)))))))))))))) ?_ ?_
 ·rintro args Qd ⟨p,f,b,z,r,rfl,_⟩; rfl
 ·rintro args Qd ⟨p,f,b,z,r,rfl,hs,hl,hn,q⟩
  refine ⟨noOw_of rfl,?_⟩
  have n1:=Nice.tup r
  have n2:=Nice.tup []
  with_reducible refine cutS (fun ρ=>ρ = [some (.fz (pD p)),some (.fz (tupD r)),some (.fz (pD f)),none,none,none,none,none,none] /\ r ≠ []) ?_ ?_
  ·intro N hN
   refine ⟨n1.p,n2.p,n1.sh (by decide),n2.sh (by decide),mix_tup r [],ite2 (fun h=>?_) (fun h=>?_)⟩
   ·have h:same (tupD r) (tupD []) = true:=h
    rw [same_tup] at h
    have h:=of_decide_eq_true h
    subst h
    have e:anP p [] f = f:=by cases p <;> rfl
    rw [e] at q
    exact q _
   ·have h:¬ same (tupD r) (tupD []) = true:=h
    rw [same_tup] at h
    exact hN _ ⟨rfl,fun z=>h (decide_eq_true z)⟩
  rintro _ ⟨rfl,hne⟩
  cases r with
  | nil=>exact absurd rfl hne
  | cons x r =>
   cases p with
   | cell t l hh=>cases hs
   | cut t l hh wy at_ p1 p2 =>
    have hs:(if x = 4 then p1.go (bxL b wy at_) r else if x = 5 then p2.go (bxR b wy at_) r else none) = some z:=hs
    rw [List.length_cons] at hl
    obtain ⟨m,rfl⟩:∃ m,n = m + 1:=⟨n - 1,by omega⟩
    have hx:(x = 4 /\ p1.go (bxL b wy at_) r = some z) \/ (x = 5 /\ p2.go (bxR b wy at_) r = some z):=by
     by_cases h4:x = 4
     ·rw [if_pos h4] at hs; exact .inl ⟨h4,hs⟩
     ·rw [if_neg h4] at hs
      by_cases h5:x = 5
      ·rw [if_pos h5] at hs; exact .inr ⟨h5,hs⟩
      ·rw [if_neg h5] at hs; cases hs
    with_reducible refine cutS (fun ρ=>ρ = [some (.fz (pD (.cut t l hh wy at_ p1 p2))),some (.fz (tupD (x :: r))),some (.fz (pD f)),some (.fz (.int x)),none,none,none,none,none]) ?_ ?_
    ·intro N hN
     exact ⟨_,atI_nat (j:=0) rfl,hN _ rfl⟩
    rintro _ rfl
    with_reducible refine cutS (fun ρ=>∃ (i:Pp) (p1' p2':Pp) (y:Option Sl),ρ = [some (.fz (pD (.cut t l hh wy at_ p1 p2))),some (.fz (tupD (x :: r))),some (.fz (pD f)),some (.fz (.int x)),some (.fz (pD i)),none,none,none,none] /\ ((x = 4 /\ i = p1' /\ p2' = p2) \/ (x = 5 /\ p1' = p1 /\ i = p2')) /\ anP (.cut t l hh wy at_ p1 p2) (x :: r) f = mkC wy at_ p1' p2') ?_ ?_
    ·intro N hN
     rcases hx with ⟨rfl,hs⟩ | ⟨rfl,hs⟩
     ·refine ⟨_,rfl,by decide,p1,f,_,z,r,rfl,hs,by omega,by omega,fun o'=>hN _ ⟨anP p1 r f,anP p1 r f,p2,none,rfl,.inl ⟨rfl,rfl,rfl⟩,rfl⟩⟩
     ·refine ⟨_,rfl,by decide,p2,f,_,z,r,rfl,hs,by omega,by omega,fun o'=>hN _ ⟨anP p2 r f,p1,anP p2 r f,none,rfl,.inr ⟨rfl,rfl,rfl⟩,rfl⟩⟩
    rintro _ ⟨i,p1',p2',_,rfl,hi,er⟩
    rw [er] at q
    clear er hx hs hl hn n1 n2 C
    with_reducible refine cutS (fun ρ=>∃ a b c d,ρ = [a,b,c,d,some (.fz (pD i)),some (.fz (.tuple [.str "cut",tupD [t,l,hh],.int wy,.int at_,pD p1',pD p2'])),none,none,none] /\ ∃ x y z u,a = some (.fz x) /\ b = some (.fz y) /\ c = some (.fz z) /\ d = some (.fz u)) ?_ ?_
    ·intro N hN
     rcases hi with ⟨rfl,rfl,rfl⟩ | ⟨rfl,rfl,rfl⟩
     all_goals exact ⟨by decide,le_size (by simp),by decide,le_size (by simp),hN _ ⟨_,_,_,_,rfl,_,_,_,_,rfl,rfl,rfl,rfl⟩⟩
    rintro _ ⟨_,_,_,_,rfl,_,_,_,_,rfl,rfl,rfl,rfl⟩
    obtain ⟨w1,r1,e1⟩:=pD_is p1'
    obtain ⟨w2,r2,e2⟩:=pD_is p2'
    obtain ⟨u1,v1,z1,f1⟩:=cl_is p1'
    obtain ⟨u2,v2,z2,f2⟩:=cl_is p2'
    have q:∀ o,Qd (.fz (.tuple [.str "cut",tupD [p1'.cl.getD 0 0 + p2'.cl.getD 0 0,min (p1'.cl.getD 1 0) (p2'.cl.getD 1 0),max (p1'.cl.getD 2 0) (p2'.cl.getD 2 0)],.int wy,.int at_,pD p1',pD p2'])) o:=q
    have ec:[p1'.cl.getD 0 0 + p2'.cl.getD 0 0,min (p1'.cl.getD 1 0) (p2'.cl.getD 1 0),max (p1'.cl.getD 2 0) (p2'.cl.getD 2 0)] = [u1 + u2,if v2 < v1 then v2 else v1,if z2 > z1 then z2 else z1]:=by
     rw [<- comb_if,f1,f2]; rfl
    rw [ec] at q
    have e1:pD p1' = .tuple (w1 :: tupD [u1,v1,z1] :: r1):=by rw [e1,f1]
    have e2:pD p2' = .tuple (w2 :: tupD [u2,v2,z2] :: r2):=by rw [e2,f2]
    generalize pD p1' = d1 at *
    generalize pD p2' = d2 at *
    subst e1 e2
    with_reducible refine cutS (fun ρ=>∃ a b c d e,ρ = [some (.fz a),some (.fz b),some (.fz c),some (.fz d),some (.fz e),some (.fz (.tuple [.str "cut",tupD [t,l,hh],.int wy,.int at_,.tuple (w1 :: tupD [u1,v1,z1] :: r1),.tuple (w2 :: tupD [u2,v2,z2] :: r2)])),some (.fz (tupD [u1,v1,z1])),none,none]) ?_ ?_
    ·intro N hN
     exact ⟨_,rfl,_,atI_nat (j:=1) rfl,hN _ ⟨_,_,_,_,_,rfl⟩⟩
    rintro _ ⟨_,_,_,_,_,rfl⟩
    with_reducible refine cutS (fun ρ=>∃ a b c d e,ρ = [some (.fz a),some (.fz b),some (.fz c),some (.fz d),some (.fz e),some (.fz (.tuple [.str "cut",tupD [t,l,hh],.int wy,.int at_,.tuple (w1 :: tupD [u1,v1,z1] :: r1),.tuple (w2 :: tupD [u2,v2,z2] :: r2)])),some (.fz (tupD [u1,v1,z1])),some (.fz (tupD [u2,v2,z2])),none]) ?_ ?_
    ·intro N hN
     exact ⟨_,rfl,_,atI_nat (j:=1) rfl,hN _ ⟨_,_,_,_,_,rfl⟩⟩
    rintro _ ⟨_,_,_,_,_,rfl⟩
    with_reducible refine cutS (fun ρ=>∃ a b c d e g h,ρ = [some (.fz a),some (.fz b),some (.fz c),some (.fz d),some (.fz e),some (.fz (.tuple [.str "cut",tupD [t,l,hh],.int wy,.int at_,.tuple (w1 :: tupD [u1,v1,z1] :: r1),.tuple (w2 :: tupD [u2,v2,z2] :: r2)])),some (.fz g),some (.fz h),some (.fz (tupD [u1 + u2,if v2 < v1 then v2 else v1,if z2 > z1 then z2 else z1]))]) ?_ ?_
    ·intro N hN
     exact ⟨_,rfl,_,rfl,_,rfl,_,rfl,_,rfl,_,rfl,hN _ ⟨_,_,_,_,_,_,_,rfl⟩⟩
    rintro _ ⟨_,_,_,_,_,_,_,rfl⟩
    exact ⟨by decide,le_size (by simp),by decide,le_size (by simp),q _⟩
theorem ok_aw {f:Addr} {fd:FuncData} (F:Fun K "_law_anew" "_law_anew" (top 49) f fd) (T:Txt mg) (R:Slf K mg "_law_anew" f fd ["_law_paper_here","_law_road","_law_fresh"]):FnOk P w K mg base CX0 38 f fd ["_law_paper_here","_law_road","_law_fresh"] (conSp K (cAw 38)):=by
 have all:∀ n,Cal P w K mg base n "_law_anew" ["_law_paper_here","_law_road","_law_fresh"] (conSp K (cAw n)):=fun n=>by
  induction n with
  | zero=>exact ⟨⟨f,fd,ok_no,R.m,R.k,R.b⟩⟩
  | succ n ih=>exact ⟨⟨f,fd,ok_awG F T ⟨ih⟩,R.m,R.k,R.b⟩⟩
 exact ok_awG F T ⟨all 37⟩
structure CalsB (P:Program) (w:World) (K:PySem.W.Frag) (mg:Str -> Option Value) (base:Heap):Prop where
 law_draw:Cal P w K mg base 1 "_law_draw" ["_law_pen_here","_law_many"] (conSp K cDraw)
noncomputable def cCb:Con:=fun args Q=>∃ (a b c t l h:Int),args = [.io (penD a b c),.fz (tupD [t,l,h])] /\ 0 <= a /\ 0 <= b /\ 0 <= c /\
 ∀ (t' l' h' a' b' c':Int) (o:Ev),Bent t l h t' l' h' -> 0 <= a' -> 0 <= b' -> 0 <= c' -> Q (.fz (tupD [t',l',h'])) (some (.io (penD a' b' c')) :: o)
theorem scCb:FnScope ["_law_pen_here","_law_claim","_law_spot","_law_more"] ["_law_pen_here","_law_claim"] (defScope (top 50)):=⟨rfl,rfl,rfl,by decide +kernel,rfl,by decide +kernel,by decide +kernel⟩
theorem ok_clb {f:Addr} {fd:FuncData} (F:Fun K "_law_claim_bent" "_law_claim_bent" (top 50) f fd) (C:CalsB P w K mg base):FnOk P w K mg base CX0 2 f fd ["_law_pen_here","_law_claim"] (conSp K cCb):=by
 have S:=scCb
 refine wfn F S (fun cdv A outer s H E hr=>(s_cons (s_set (i:=2) S.nd rfl (Or.inl rfl) (w_fnI C.law_draw (hr.mono (by first | decide | omega)) (wa_cons (wn 0) (wa_cons (wx w_int) wa_nil))))
     (s_cons (s_set (i:=3) S.nd rfl (Or.inl rfl) (w_bin ok_add op_addD (wx w_int) (wx (w_fnI C.law_draw (hr.mono (by first | decide | omega)) (wa_cons (wn 0) (wa_cons (wx w_int) wa_nil))))))
     (s_cons (s_if (t_cmp ok_eq (op_eqE (K:=K) rfl hr.units) (wn 2) (wx w_int)) (s_one (s_ret (w_tup (wa_cons (wx (w_bin ok_add op_addD (wx (w_ix rfl (wn 1) (wx w_int))) (wx (w_bin ok_mul op_mulD (wn 3) (wx (w_bin ok_sub op_sub (wx w_int) (wx (w_bin ok_mul op_mulD (wx w_int) (wx (w_fnI C.law_draw (hr.mono (by first | decide | omega)) (wa_cons (wn 0) (wa_cons (wx w_int) wa_nil)))))))))))) (wa_cons (wx (w_ix rfl (wn 1) (wx w_int))) (wa_cons (wx (w_ix rfl (wn 1) (wx w_int))) wa_nil)))))) s_nil)
     (s_cons (s_if (t_cmp ok_eq (op_eqE (K:=K) rfl hr.units) (wn 2) (wx w_int)) (s_one (s_ret (w_tup (wa_cons (wx (w_ix rfl (wn 1) (wx w_int))) (wa_cons (wx (w_bin ok_add op_addD (wx (w_ix rfl (wn 1) (wx w_int))) (wn 3))) (wa_cons (wx (w_ix rfl (wn 1) (wx w_int))) wa_nil)))))) s_nil)
     (s_one (s_ret (w_tup (wa_cons (wx (w_ix rfl (wn 1) (wx w_int))) (wa_cons (wx (w_ix rfl (wn 1) (wx w_int))) (wa_cons (wx (w_bin ok_sub op_sub (wx (w_ix rfl (wn 1) (wx w_int))) (wn 3))) wa_nil))))))))))) ?_ ?_
 ·rintro args Qd ⟨a,b,c,t,l,h,rfl,_⟩; rfl
 ·rintro args Qd ⟨a,b,c,t,l,h,rfl,ha,hb,hc,q⟩
  refine ⟨noOw_of rfl,?_⟩
  refine ⟨a,b,c,_,rfl,ha,hb,hc,by decide,by decide,fun sp a1 b1 c1 _ s0 s1 ha1 hb1 hc1=>?_⟩
  refine ⟨a1,b1,c1,_,rfl,ha1,hb1,hc1,by decide,by decide,fun mo a2 b2 c2 _ m0 m1 ha2 hb2 hc2=>?_⟩
  refine ite2 (fun h1=>?_) (fun h1=>?_)
  ·refine ⟨_,rfl,a2,b2,c2,_,rfl,ha2,hb2,hc2,by decide,by decide,fun x a3 b3 c3 _ x0 x1 ha3 hb3 hc3=>?_⟩
   refine ⟨.inl ⟨by decide,by decide⟩,.inl ⟨by omega,by omega⟩,_,rfl,_,rfl,?_⟩
   refine q _ _ _ a3 b3 c3 _ ?_ ha3 hb3 hc3
   have hy:(1 + mo) * (1 - 2 * x) = 1 + mo \/ (1 + mo) * (1 - 2 * x) = - (1 + mo):=by
    rcases (show x = 0 \/ x = 1 by omega) with rfl | rfl
    ·exact .inl (by omega)
    ·exact .inr (by omega)
   refine ⟨⟨?_,by simp,by simp⟩,.inl ?_⟩ <;> omega
  ·refine ite2 (fun h2=>?_) (fun h2=>?_)
   ·exact ⟨_,rfl,_,rfl,_,rfl,q _ _ _ a2 b2 c2 _ ⟨⟨by simp,by omega,by simp⟩,.inr (.inl (by omega))⟩ ha2 hb2 hc2⟩
   ·exact ⟨_,rfl,_,rfl,_,rfl,q _ _ _ a2 b2 c2 _ ⟨⟨by simp,by simp,by omega⟩,.inr (.inr (by omega))⟩ ha2 hb2 hc2⟩
end
end R76
namespace R76
open PySem PySem.Spec L2 L3 PyProof.Rows
structure OddX (x:PyData):Prop where
 ok:okD x = true
 no:∀ y,x ≠ .int y
 sm:Smd true x
theorem odd_none:OddX .none:=⟨rfl,fun _ z=>(nomatch z),rfl,rfl,by simp [PyData.depth],by decide +kernel⟩
theorem odd_zero:OddX (.str "0"):=⟨rfl,fun _ z=>(nomatch z),rfl,rfl,by simp [PyData.depth],by rw [PyData.shown]; decide +kernel⟩
theorem odd_bool (b:Bool):OddX (.bool b):=⟨rfl,fun _ z=>(nomatch z),rfl,rfl,by simp [PyData.depth],by cases b <;> decide +kernel⟩
theorem odd_tup {x:Int} (h:x.natAbs < 10 ^ 41):OddX (.tuple [.int x]):=by
 have s:=smd_int (e:=true) h
 refine ⟨rfl,fun _ z=>(nomatch z),rfl,showableAll_of (l:=[.int x]) fun d hd=>by rw [List.mem_singleton.mp hd]; exact s.ss,by simp [PyData.depth,PyData.depthAll],?_⟩
 have:=shown_tuple (b:=42) (l:=[.int x]) fun d hd=>by rw [List.mem_singleton.mp hd]; exact shown_int (by decide) h
 simp only [List.length_singleton] at this
 omega
theorem odd_lst {x:Int} (h:x.natAbs < 10 ^ 41):OddX (.list [.int x]):=by
 have s:=smd_int (e:=true) h
 refine ⟨rfl,fun _ z=>(nomatch z),rfl,showableAll_of (l:=[.int x]) fun d hd=>by rw [List.mem_singleton.mp hd]; exact s.ss,by simp [PyData.depth,PyData.depthAll],?_⟩
 have:=shown_list (b:=42) (l:=[.int x]) fun d hd=>by rw [List.mem_singleton.mp hd]; exact shown_int (by decide) h
 simp only [List.length_singleton] at this
 omega
theorem odd_str {x:Int} (h0:0 <= x) (h1:x < 120):OddX (.str (Str.ofString (toString x))):=by
 refine ⟨rfl,fun _ z=>(nomatch z),rfl,rfl,by simp [PyData.depth],?_⟩
 obtain ⟨n,rfl⟩:=Int.eq_ofNat_of_zero_le h0
 have all:∀ n < 120,(PyData.str (Str.ofString (toString ((n:Nat):Int)))).shown.length <= 60:=by
  simp only [PyData.shown]
  decide +kernel
 exact all n (by omega)
structure Pc (n m:Nat) (d:PyData):Prop where
 kk:plainD d = true
 ss:d.showable = true
 dd:d.depth <= n
 ll:d.shown.length <= m
theorem Pc.mono {n m n' m':Nat} {d:PyData} (h:Pc n m d) (h1:n <= n') (h2:m <= m'):Pc n' m' d:=⟨h.kk,h.ss,Nat.le_trans h.dd h1,Nat.le_trans h.ll h2⟩
theorem Pc.tup {n m:Nat} {xs:List PyData} (h:∀ d ∈ xs,Pc n m d):Pc (n + 1) (xs.length * (m + 2) + 3) (.tuple xs) :=
 ⟨kd_tup (e:=true) fun d hd=>(h d hd).kk,showableAll_of (l:=xs) fun d hd=>(h d hd).ss,depth_tup fun d hd=>(h d hd).dd,shown_tuple fun d hd=>(h d hd).ll⟩
theorem Pc.lst {n m:Nat} {xs:List PyData} (h:∀ d ∈ xs,Pc n m d):Pc (n + 1) (xs.length * (m + 2) + 3) (.list xs) :=
 ⟨kd_tup (e:=true) fun d hd=>(h d hd).kk,showableAll_of (l:=xs) fun d hd=>(h d hd).ss,depth_tup (xs:=xs) fun d hd=>(h d hd).dd,shown_list fun d hd=>(h d hd).ll⟩
theorem Smd.pc {d:PyData} (h:Smd true d):Pc 2 60 d:=⟨h.kk,h.ss,h.dd,h.ll⟩
theorem pc_int {x:Int} (h:x.natAbs < 10 ^ 41):Pc 2 60 (.int x):=(smd_int (e:=true) h).pc
theorem pc_cl {t l h:Int} (hx:∀ x ∈ [t,l,h],x.natAbs < 10 ^ 41):Pc 2 140 (tupD [t,l,h]):=⟨kd_ints (e:=true) _,(shown_cl1 hx).2,Nat.le_trans (depth_ints _) (by decide),(shown_cl1 hx).1⟩
theorem pc_pp (p:Pp) (h:p.sm) (hl:p.lv <= 24):Pc (p.lv + 1) 12000 (pD p):=by
 obtain ⟨h1,h2⟩:=p.shows h
 exact ⟨p.nice.p,h1,p.nice.d,by omega⟩
theorem frs_odd {sd cl:List Int} {b:Bxx} {n:Nat} {d:PyData} (ho:OddD d) (h:Pc (n + 6) 100000 d):Frs sd cl b n (.odd d):=⟨rfl,ho,by show 1 <= 60; decide,h.dd,true,h.kk,h.ss,h.ll⟩
theorem word_odd:OddX (.str "Cut") /\ OddX (.str "cuts") /\ OddX (.str "") /\ OddX (.str "cell") /\ OddX (.str "Cell") /\ OddX (.str "cells") /\ OddX (.str "cut"):=by
 refine ⟨?_,?_,?_,?_,?_,?_,?_⟩ <;> exact ⟨rfl,fun _ z=>(nomatch z),rfl,rfl,by simp [PyData.depth],by rw [PyData.shown]; decide +kernel⟩
theorem wl_odd:OddX (.list [.str "cut"]) /\ OddX (.list [.str "cell"]):=by
 have g:∀ z:Str,OddX (.str z) -> (PyData.str z).shown.length <= 10 -> OddX (.list [.str z]):=fun z h hl=>by
  refine ⟨rfl,fun _ z=>(nomatch z),rfl,rfl,by simp [PyData.depth,PyData.depthAll],?_⟩
  have:=shown_list (b:=10) (l:=[.str z]) fun d hd=>by rw [List.mem_singleton.mp hd]; exact hl
  simp only [List.length_singleton] at this
  omega
 exact ⟨g _ word_odd.2.2.2.2.2.2 (by rw [len_word.2]; decide),g _ word_odd.2.2.2.1 (by rw [len_word.1]; decide)⟩
theorem okD_pD (p:Pp):okD (pD p) = true:=by
 induction p with
 | cell=>rfl
 | cut t l h w a p q ih1 ih2 =>
  show (true && (true && (true && (true && (okD (pD p) && (okD (pD q) && true)))))) = true
  rw [ih1,ih2]; rfl
theorem odd3:OddD (.tuple [.str "cell",tupD [0,0,0],.int 0]) /\ Pc 3 500 (.tuple [.str "cell",tupD [0,0,0],.int 0]):=by
 refine ⟨⟨rfl,fun xs k e hl=>by cases e; cases k <;> simp at hl⟩,Pc.mono (Pc.tup (n:=2) (m:=140) fun d hd=>?_) (by decide) (by decide)⟩
 have hd:d = .str "cell" \/ d = tupD [0,0,0] \/ d = .int 0:=by simpa using hd
 rcases hd with rfl | rfl | rfl
 ·exact word_odd.2.2.2.1.sm.pc.mono (by decide) (by decide)
 ·exact pc_cl (by intro x hx; simp at hx; subst hx; decide +kernel)
 ·exact (pc_int (by decide +kernel)).mono (by decide) (by decide)
theorem box_small {sd:List Int} {b:Bxx} {i:Nat} (hsd:Sd sd) (hb:Bx b.1 b.2 sd) (h:i < b.1.length):0 <= b.1.getD i 0 /\ b.1.getD i 0 <= b.2.getD i 0 /\ b.2.getD i 0 < 120:=by
 have hl:=bx_len hb
 have e1:b.1[i]? = some (b.1.getD i 0):=by rw [List.getD_eq_getElem?_getD,List.getElem?_eq_getElem (by omega)]; rfl
 have e2:b.2[i]? = some (b.2.getD i 0):=by rw [List.getD_eq_getElem?_getD,List.getElem?_eq_getElem (by omega)]; rfl
 have hz:(b.1.zip b.2)[i]? = some (b.1.getD i 0,b.2.getD i 0):=by rw [List.getElem?_zip_eq_some]; exact ⟨e1,e2⟩
 obtain ⟨k1,k4,s,k2,k3⟩:=bx_pair hb _ (List.mem_of_getElem? hz)
 have:=le_prodI hsd.p s k2
 have:=hsd.m
 simp only at k1 k3 k4
 omega
theorem small_log {x:Int} (h:x.natAbs <= 1000):x.natAbs.log2 < 1920:=by
 by_cases z:x.natAbs = 0
 ·rw [z]; decide
 ·rw [Nat.log2_lt z]
  exact Nat.lt_of_le_of_lt h (by decide +kernel)
theorem cut_small {sd:List Int} {b:Bxx} {w a:Int} (hsd:Sd sd) (hb:Bx b.1 b.2 sd) (h:cutB b w a = true):0 <= a /\ a < 119:=by
 obtain ⟨h1,h2,h3,h4⟩:=cutB_is h
 obtain ⟨k1,k2,k3⟩:=box_small hsd hb (i:=w.toNat) (by omega)
 omega
section
variable {P:Program} {w:World} {K:PySem.W.Frag} {mg:Str -> Option Value} {base:Heap}
noncomputable def cCt:Con:=fun args Q=>∃ (a b c:Int) (sd cl:List Int) (bx:Bxx) (t l h wy at_:Int) (p1 p2:Pp),args = [.io (penD a b c),.fz (boxD bx),.fz (pD (.cut t l h wy at_ p1 p2))] /\ 0 <= a /\ 0 <= b /\ 0 <= c /\ Sd sd /\ Rt sd cl bx (.cut t l h wy at_ p1 p2) /\ (Pp.cut t l h wy at_ p1 p2).lv <= 24 /\
 ∀ (f:Tr) (a' b' c':Int) (o:Ev),Frs sd cl bx (Pp.cut t l h wy at_ p1 p2).lv f -> 0 <= a' -> 0 <= b' -> 0 <= c' -> Q (.fz (tD f)) (some (.io (penD a' b' c')) :: o)
theorem scCt:FnScope ["_law_pen_here","_law_here","_law_one","_law_word","_law_claim","_law_way","_law_at","_law_first","_law_second","_law_way_at","_law_odd_here","_law_low","_law_high"] ["_law_pen_here","_law_here","_law_one"] (defScope (top 51)):=⟨rfl,rfl,rfl,by decide +kernel,rfl,by decide +kernel,by decide +kernel⟩
theorem ok_ct {f:Addr} {fd:FuncData} (F:Fun K "_law_cut_bent" "_law_cut_bent" (top 51) f fd) (T:Txt mg) (C:CalsB P w K mg base):FnOk P w K mg base CX0 2 f fd ["_law_pen_here","_law_here","_law_one"] (conSp K cCt):=by
 have S:=scCt
 refine wfn F S (fun cdv A outer s H E hr=>(s_cons (s_asgG (wv 2) (g_tup rfl rfl (gs_cons (g_name (i:=3) S.nd rfl (Or.inl rfl)) (gs_cons (g_name (i:=4) S.nd rfl (Or.inl rfl)) (gs_cons (g_name (i:=5) S.nd rfl (Or.inl rfl)) (gs_cons (g_name (i:=6) S.nd rfl (Or.inl rfl)) (gs_cons (g_name (i:=7) S.nd rfl (Or.inl rfl)) (gs_cons (g_name (i:=8) S.nd rfl (Or.inl rfl)) gs_nil))))))))
     (s_cons (s_set (i:=9) S.nd rfl (Or.inl rfl) (w_fnI C.law_draw (hr.mono (by first | decide | omega)) (wa_cons (wn 0) (wa_cons (wx w_int) wa_nil))))
     (s_cons (s_set (i:=10) S.nd rfl (Or.inl rfl) (w_ix rfl (wx (w_lst (wa_cons (wx w_non) (wa_cons (wx w_str) (wa_cons (wx (w_tup (wa_cons (wx (wv 5)) wa_nil))) (wa_cons (wx (w_lst (wa_cons (wx (wv 6)) wa_nil))) (wa_cons (wx (w_callT ok_strI call_str_int T.str_ boot_str (wa_cons (wn 6) wa_nil))) (wa_cons (wx w_bl) (wa_cons (wx w_bl) wa_nil))))))))) (wx (w_fnI C.law_draw (hr.mono (by first | decide | omega)) (wa_cons (wn 0) (wa_cons (wx w_int) wa_nil))))))
     (s_cons (s_set (i:=11) S.nd rfl (Or.inl rfl) (w_ix rfl (wx (w_ix rfl (wn 1) (wx w_int))) (wn 5)))
     (s_cons (s_set (i:=12) S.nd rfl (Or.inl rfl) (w_ix rfl (wx (w_ix rfl (wn 1) (wx w_int))) (wn 5)))
     (s_cons (s_if (t_cmp ok_eq (op_eqE (K:=K) rfl hr.units) (wn 9) (wx w_int)) (s_one (s_ret (w_tup (wa_cons (wx (wv 3)) (wa_cons (wx (wv 4)) (wa_cons (wx (wv 5)) (wa_cons (wx (w_ix rfl (wx (w_lst (wa_cons (wx (wv 12)) (wa_cons (wx (w_bin ok_sub op_sub (wn 11) (wx w_int))) wa_nil)))) (wx (w_fnI C.law_draw (hr.mono (by first | decide | omega)) (wa_cons (wn 0) (wa_cons (wx w_int) wa_nil)))))) (wa_cons (wx (wv 7)) (wa_cons (wx (wv 8)) wa_nil))))))))) s_nil)
     (s_cons (s_if (t_cmp ok_eq (op_eqE (K:=K) rfl hr.units) (wn 9) (wx w_int)) (s_one (s_ret (w_tup (wa_cons (wx (wv 3)) (wa_cons (wx (wv 4)) (wa_cons (wx (w_bin ok_add op_addD (wx (w_callB ok_len (call_lenK (K:=K) rfl) T.len_ PySem.boot_len (wa_cons (wx (w_ix rfl (wn 1) (wx w_int))) wa_nil))) (wx (w_fnI C.law_draw (hr.mono (by first | decide | omega)) (wa_cons (wn 0) (wa_cons (wx w_int) wa_nil)))))) (wa_cons (wx (wv 6)) (wa_cons (wx (wv 7)) (wa_cons (wx (wv 8)) wa_nil))))))))) s_nil)
     (s_cons (s_if (t_cmp ok_eq (op_eqE (K:=K) rfl hr.units) (wn 9) (wx w_int)) (s_one (s_ret (w_tup (wa_cons (wx (wv 3)) (wa_cons (wx (wv 4)) (wa_cons (wx (w_bin ok_sub op_sub (wx (w_neg (wx w_int))) (wx (w_fnI C.law_draw (hr.mono (by first | decide | omega)) (wa_cons (wn 0) (wa_cons (wx w_int) wa_nil)))))) (wa_cons (wx (wv 6)) (wa_cons (wx (wv 7)) (wa_cons (wx (wv 8)) wa_nil))))))))) s_nil)
     (s_cons (s_if (t_cmp ok_eq (op_eqE (K:=K) rfl hr.units) (wn 9) (wx w_int)) (s_one (s_ret (w_tup (wa_cons (wx w_str) (wa_cons (wx (wv 4)) wa_nil))))) s_nil)
     (s_cons (s_if (t_cmp ok_eq (op_eqE (K:=K) rfl hr.units) (wn 9) (wx w_int)) (s_one (s_ret (w_tup (wa_cons (wx (wv 3)) (wa_cons (wx (wv 4)) (wa_cons (wx (wv 5)) (wa_cons (wx (wv 6)) (wa_cons (wx (wv 7)) (wa_cons (wx (w_tup (wa_cons (wx w_str) (wa_cons (wx (w_tup (wa_cons (wx w_int) (wa_cons (wx w_int) (wa_cons (wx w_int) wa_nil))))) (wa_cons (wx w_int) wa_nil))))) wa_nil))))))))) s_nil)
     (s_cons (s_if (t_cmp ok_eq (op_eqE (K:=K) rfl hr.units) (wn 9) (wx w_int)) (s_one (s_ret (w_tup (wa_cons (wx (w_ix rfl (wx (w_lst (wa_cons (wx w_str) (wa_cons (wx w_str) (wa_cons (wx w_str) (wa_cons (wx w_str) (wa_cons (wx (w_lst (wa_cons (wx w_str) wa_nil))) wa_nil))))))) (wx (w_fnI C.law_draw (hr.mono (by first | decide | omega)) (wa_cons (wn 0) (wa_cons (wx w_int) wa_nil)))))) (wa_cons (wx (wv 4)) (wa_cons (wx (wv 5)) (wa_cons (wx (wv 6)) (wa_cons (wx (wv 7)) (wa_cons (wx (wv 8)) wa_nil))))))))) s_nil)
     (s_cons (s_if (t_cmp ok_eq (op_eqE (K:=K) rfl hr.units) (wn 9) (wx w_int)) (s_one (s_ret (w_tup (wa_cons (wx (wv 3)) (wa_cons (wx (wv 4)) (wa_cons (wx (w_ix rfl (wx (w_lst (wa_cons (wx (wv 10)) (wa_cons (wx (w_cmp ok_eq (op_eqE (K:=K) rfl hr.units) (wn 5) (wx w_int))) wa_nil)))) (wx (w_callT ok_int call_int1 T.int_ boot_int (wa_cons (wx (w_and (w_cmp ok_lt op_lt (wn 5) (wx w_int)) (w_one (w_cmp ok_eq (op_eqE (K:=K) rfl hr.units) (wx (w_fnI C.law_draw (hr.mono (by first | decide | omega)) (wa_cons (wn 0) (wa_cons (wx w_int) wa_nil)))) (wx w_int))))) wa_nil))))) (wa_cons (wx (wv 6)) (wa_cons (wx (wv 7)) (wa_cons (wx (wv 8)) wa_nil))))))))) s_nil)
     (s_cons (s_if (t_cmp ok_eq (op_eqE (K:=K) rfl hr.units) (wn 9) (wx w_int)) (s_one (s_ret (w_tup (wa_cons (wx (wv 3)) (wa_cons (wx (wv 4)) (wa_cons (wx (wv 5)) (wa_cons (wx (w_ix rfl (wx (w_lst (wa_cons (wx (wv 10)) (wa_cons (wx (w_cmp ok_eq (op_eqE (K:=K) rfl hr.units) (wn 6) (wx w_int))) wa_nil)))) (wx (w_callT ok_int call_int1 T.int_ boot_int (wa_cons (wx (w_and (w_cmp ok_lt op_lt (wn 6) (wx w_int)) (w_one (w_cmp ok_eq (op_eqE (K:=K) rfl hr.units) (wx (w_fnI C.law_draw (hr.mono (by first | decide | omega)) (wa_cons (wn 0) (wa_cons (wx w_int) wa_nil)))) (wx w_int))))) wa_nil))))) (wa_cons (wx (wv 7)) (wa_cons (wx (wv 8)) wa_nil))))))))) s_nil)
     (s_cons (s_if (t_cmp ok_eq (op_eqE (K:=K) rfl hr.units) (wn 9) (wx w_int)) (s_one (s_ret (w_tup (wa_cons (wx (wv 3)) (wa_cons (wx (wv 4)) (wa_cons (wx (wv 10)) (wa_cons (wx (wv 10)) (wa_cons (wx (wv 7)) (wa_cons (wx (wv 8)) wa_nil))))))))) s_nil)
     (s_one (s_ret (w_tup (wa_cons (wx (wv 3)) (wa_cons (wx (wv 4)) (wa_cons (wx (wv 5)) (wa_cons (wx (wv 6)) (wa_cons (wx (wv 7)) wa_nil))))))))))))))))))))))) ?_ ?_
 ·rintro args Qd ⟨a,b,c,sd,cl,bx,t,l,h,wy,at_,p1,p2,rfl,_⟩; rfl
 ·rintro args Qd ⟨a,b,c,sd,cl,bx,t,l,h,wy,at_,p1,p2,rfl,ha,hb,hc,hsd,hR,hlv,q⟩
  refine ⟨noOw_of rfl,?_⟩
  obtain ⟨hcut,hlet,k1,k2⟩:=okP_cut hR.ok
  obtain ⟨g1,g2,g3,g4⟩:=cutB_is hcut
  obtain ⟨at0,at1⟩:=cut_small hsd hR.bx hcut
  have hbl:=bx_len hR.bx
  have h3:=hsd.l3
  with_reducible refine cutS (fun ρ=>ρ = [some (.io (penD a b c)),some (.fz (boxD bx)),some (.fz (pD (.cut t l h wy at_ p1 p2))),some (.fz (.str "cut")),some (.fz (tupD [t,l,h])),some (.fz (.int wy)),some (.fz (.int at_)),some (.fz (pD p1)),some (.fz (pD p2)),none,none,none,none]) ?_ ?_
  ·intro N hN
   exact ⟨rfl,hN _ rfl⟩
  rintro _ rfl
  with_reducible refine cutS (fun ρ=>∃ wa a b c:Int,ρ = [some (.io (penD a b c)),some (.fz (boxD bx)),some (.fz (pD (.cut t l h wy at_ p1 p2))),some (.fz (.str "cut")),some (.fz (tupD [t,l,h])),some (.fz (.int wy)),some (.fz (.int at_)),some (.fz (pD p1)),some (.fz (pD p2)),some (.fz (.int wa)),none,none,none] /\ 0 <= a /\ 0 <= b /\ 0 <= c /\ 0 <= wa /\ wa < 10) ?_ ?_
  ·intro N hN
   exact ⟨a,b,c,_,rfl,ha,hb,hc,by decide,by decide,fun r a1 b1 c1 _ r0 r1 ha1 hb1 hc1=>hN _ ⟨r,a1,b1,c1,rfl,ha1,hb1,hc1,r0,r1⟩⟩
  clear ha hb hc
  rintro _ ⟨wa,a,b,c,rfl,ha,hb,hc,w0,w9⟩
  with_reducible refine cutS (fun ρ=>∃ (x:PyData) (a b c:Int),ρ = [some (.io (penD a b c)),some (.fz (boxD bx)),some (.fz (pD (.cut t l h wy at_ p1 p2))),some (.fz (.str "cut")),some (.fz (tupD [t,l,h])),some (.fz (.int wy)),some (.fz (.int at_)),some (.fz (pD p1)),some (.fz (pD p2)),some (.fz (.int wa)),some (.fz x),none,none] /\ OddX x /\ 0 <= a /\ 0 <= b /\ 0 <= c) ?_ ?_
  ·intro N hN
   refine ⟨small_log (by omega),a,b,c,_,rfl,ha,hb,hc,by decide,by decide,fun r a1 b1 c1 _ r0 r1 ha1 hb1 hc1=>?_⟩
   rcases (show r = 0 \/ r = 1 \/ r = 2 \/ r = 3 \/ r = 4 \/ r = 5 \/ r = 6 by omega) with rfl | rfl | rfl | rfl | rfl | rfl | rfl
   ·exact ⟨_,rfl,hN _ ⟨_,a1,b1,c1,rfl,odd_none,ha1,hb1,hc1⟩⟩
   ·exact ⟨_,rfl,hN _ ⟨_,a1,b1,c1,rfl,odd_zero,ha1,hb1,hc1⟩⟩
   ·exact ⟨_,rfl,hN _ ⟨_,a1,b1,c1,rfl,odd_tup (by omega),ha1,hb1,hc1⟩⟩
   ·exact ⟨_,rfl,hN _ ⟨_,a1,b1,c1,rfl,odd_lst (by omega),ha1,hb1,hc1⟩⟩
   ·exact ⟨_,rfl,hN _ ⟨_,a1,b1,c1,rfl,odd_str (by omega) (by omega),ha1,hb1,hc1⟩⟩
   ·exact ⟨_,rfl,hN _ ⟨_,a1,b1,c1,rfl,odd_bool _,ha1,hb1,hc1⟩⟩
   ·exact ⟨_,rfl,hN _ ⟨_,a1,b1,c1,rfl,odd_bool _,ha1,hb1,hc1⟩⟩
  clear ha hb hc
  rintro _ ⟨x,a,b,c,rfl,hx,ha,hb,hc⟩
  with_reducible refine cutS (fun ρ=>ρ = [some (.io (penD a b c)),some (.fz (boxD bx)),some (.fz (pD (.cut t l h wy at_ p1 p2))),some (.fz (.str "cut")),some (.fz (tupD [t,l,h])),some (.fz (.int wy)),some (.fz (.int at_)),some (.fz (pD p1)),some (.fz (pD p2)),some (.fz (.int wa)),some (.fz x),some (.fz (.int (bx.1.getD wy.toNat 0))),none]) ?_ ?_
  ·intro N hN
   exact ⟨_,rfl,_,at_nat g1 g2,hN _ rfl⟩
  rintro _ rfl
  obtain ⟨ρ0,hρ⟩:∃ ρ0:Ev,ρ0 = [some (.io (penD a b c)),some (.fz (boxD bx)),some (.fz (pD (.cut t l h wy at_ p1 p2))),some (.fz (.str "cut")),some (.fz (tupD [t,l,h])),some (.fz (.int wy)),some (.fz (.int at_)),some (.fz (pD p1)),some (.fz (pD p2)),some (.fz (.int wa)),some (.fz x),some (.fz (.int (bx.1.getD wy.toNat 0))),some (.fz (.int (bx.2.getD wy.toNat 0)))]:=⟨_,rfl⟩
  with_reducible refine cutS (fun ρ=>ρ = ρ0) ?_ ?_
  ·intro N hN
   exact ⟨_,rfl,_,at_nat g1 (by omega),hN _ hρ.symm⟩
  obtain ⟨m0,m1,m2⟩:=hR.sm
  have hc3:∀ x ∈ [t,l,h],x.natAbs < 10 ^ 41:=fun x hx=>Nat.lt_trans (m0 x (by simp at hx ⊢; omega)) (by decide +kernel)
  have sw:Smd true (.int wy):=smd_int (by omega)
  have sa:Smd true (.int at_):=smd_int (by omega)
  have l1:=p1.lv1
  have l2:=p2.lv1
  have hlv:p1.lv + p2.lv <= 24:=hlv
  have d1:=pT_dp p1
  have d2:=pT_dp p2
  have z1:=p1.szl
  have z2:=p2.szl
  have e1:=pT_sz p1
  have e2:=pT_sz p2
  have qc:∀ (X Y:PyData) (a' b' c':Int) (o:Ev),cutsD bx X Y = false -> okD X = true -> okD Y = true -> Smd true X -> Smd true Y -> 0 <= a' -> 0 <= b' -> 0 <= c' -> Qd (.fz (.tuple [.str "cut",tupD [t,l,h],X,Y,pD p1,pD p2])) (some (.io (penD a' b' c')) :: o):=fun X Y a' b' c' o no kX kY sX sY g1 g2 g3=>by
   have:=q (.cut t l h X Y (pT p1) (pT p2)) a' b' c' o ⟨?_,⟨kX,kY,pT_wf p1,pT_wf p2⟩,?_,?_,true,hc3,sX,sY,pT_shb p1 m1,pT_shb p2 m2⟩ g1 g2 g3
   ·rw [<- tD_pT p1,<- tD_pT p2]
    exact this
   ·show (cutsD bx X Y && _) = false
    rw [no]; rfl
   ·show 1 + (pT p1).sz + (pT p2).sz <= 60
    omega
   ·show 1 + max (pT p1).dp (pT p2).dp <= p1.lv + p2.lv + 6
    omega
  have hbig:∀ y:Int,y = bx.2.getD wy.toNat 0 \/ y = bx.1.getD wy.toNat 0 - 1 -> Smd true (.int y) /\ cutsD bx (.int wy) (.int y) = false:=fun y hy=>by
   obtain ⟨i1,i2⟩:=box_small hsd hR.bx (i:=wy.toNat) (by omega)
   refine ⟨smd_int (by omega),?_⟩
   show (decide (0 <= wy) && (decide (wy < bx.1.length) && (decide (bx.1.getD wy.toNat 0 <= y) && decide (y < bx.2.getD wy.toNat 0)))) = false
   rcases hy with rfl | rfl
   ·rw [decide_eq_false (Int.lt_irrefl _),Bool.and_false,Bool.and_false,Bool.and_false]
   ·rw [decide_eq_false (show ¬ bx.1.getD wy.toNat 0 <= bx.1.getD wy.toNat 0 - 1 by omega),Bool.false_and,Bool.and_false,Bool.and_false]
  have hway:∀ y:Int,y < 0 \/ (bx.1.length:Int) <= y -> cutsD bx (.int y) (.int at_) = false:=fun y hy=>by
   show (decide (0 <= y) && (decide (y < bx.1.length) && _)) = false
   rcases hy with hy | hy
   ·rw [decide_eq_false (show ¬ 0 <= y by omega)]; rfl
   ·rw [decide_eq_false (show ¬ y < bx.1.length by omega),Bool.false_and,Bool.and_false]
  have hnx:∀ y,cutsD bx x y = false:=fun y=>by
   have:=hx.no
   cases x <;> first | rfl | exact absurd rfl (this _)
  have hxn:∀ y,cutsD bx y x = false:=fun y=>by
   have:=hx.no
   cases y <;> cases x <;> first | rfl | exact absurd rfl (this _)
  have hne:bx.1 ≠ bx.2:=fun z=>by rw [z] at g3; omega
  clear hR hlet k1 k2
  intro ρ hr
  rw [hr,hρ]
  clear hr ρ
  with_reducible refine cutS (fun ρ=>ρ = ρ0) ?_ ?_
  ·intro N hN
   refine ite2 (fun _=>?_) (fun _=>hN _ hρ.symm)
   refine ⟨a,b,c,_,rfl,ha,hb,hc,by decide,by decide,fun r a1 b1 c1 _ r0 r1 ha1 hb1 hc1=>?_⟩
   rcases (show r = 0 \/ r = 1 by omega) with rfl | rfl
   ·exact ⟨_,rfl,qc _ _ a1 b1 c1 _ (hbig _ (.inl rfl)).2 rfl rfl sw (hbig _ (.inl rfl)).1 ha1 hb1 hc1⟩
   ·exact ⟨_,rfl,qc _ _ a1 b1 c1 _ (hbig _ (.inr rfl)).2 rfl rfl sw (hbig _ (.inr rfl)).1 ha1 hb1 hc1⟩
  intro ρ hr
  rw [hr,hρ]
  clear hr ρ
  with_reducible refine cutS (fun ρ=>ρ = ρ0) ?_ ?_
  ·intro N hN
   refine ite2 (fun _=>?_) (fun _=>hN _ hρ.symm)
   refine ⟨_,rfl,a,b,c,_,rfl,ha,hb,hc,by decide,by decide,fun r a1 b1 c1 _ r0 r1 ha1 hb1 hc1=>?_⟩
   refine (?_:Qd (.fz (.tuple [.str "cut",tupD [t,l,h],.int ((((bx.1.map PyData.int).length:Nat):Int) + r),.int at_,pD p1,pD p2])) _)
   rw [List.length_map]
   exact qc _ _ a1 b1 c1 _ (hway _ (.inr (by omega))) rfl rfl (smd_int (by omega)) sa ha1 hb1 hc1
  intro ρ hr
  rw [hr,hρ]
  clear hr ρ
  with_reducible refine cutS (fun ρ=>ρ = ρ0) ?_ ?_
  ·intro N hN
   refine ite2 (fun _=>?_) (fun _=>hN _ hρ.symm)
   refine ⟨a,b,c,_,rfl,ha,hb,hc,by decide,by decide,fun r a1 b1 c1 _ r0 r1 ha1 hb1 hc1=>?_⟩
   exact qc _ _ a1 b1 c1 _ (hway _ (.inl (by omega))) rfl rfl (smd_int (by omega)) sa ha1 hb1 hc1
  intro ρ hr
  rw [hr,hρ]
  clear hr ρ
  with_reducible refine cutS (fun ρ=>ρ = ρ0) ?_ ?_
  ·intro N hN
   refine ite2 (fun _=>?_) (fun _=>hN _ hρ.symm)
   refine q (.cell t l h) a b c _ ⟨?_,trivial,by show 1 <= 60; decide,by show 1 <= _; omega,true,hc3⟩ ha hb hc
   show (decide (bx.1 = bx.2) && _) = false
   rw [decide_eq_false hne]; rfl
  intro ρ hr
  rw [hr,hρ]
  clear hr ρ
  with_reducible refine cutS (fun ρ=>ρ = ρ0) ?_ ?_
  ·intro N hN
   refine ite2 (fun _=>?_) (fun _=>hN _ hρ.symm)
   refine (?_:Qd (.fz (.tuple [.str "cut",tupD [t,l,h],.int wy,.int at_,pD p1,.tuple [.str "cell",tupD [0,0,0],.int 0]])) _)
   rw [<- tD_pT p1]
   refine q (.cut t l h (.int wy) (.int at_) (pT p1) (.odd (.tuple [.str "cell",tupD [0,0,0],.int 0]))) a b c _ ⟨?_,⟨rfl,rfl,pT_wf p1,odd3.1⟩,?_,?_,true,hc3,sw,sa,pT_shb p1 m1,odd3.2.kk,odd3.2.ss,Nat.le_trans odd3.2.ll (by decide)⟩ ha hb hc
   ·show (cutsD bx _ _ && ((pT p1).clm && (false && _))) = false
    rw [Bool.false_and,Bool.and_false,Bool.and_false]
   ·show 1 + (pT p1).sz + 1 <= 60
    omega
   ·have:=odd3.2.dd
    show 1 + max (pT p1).dp (PyData.tuple [.str "cell",tupD [0,0,0],.int 0]).depth <= p1.lv + p2.lv + 6
    omega
  intro ρ hr
  rw [hr,hρ]
  clear hr ρ
  have P1:=(pc_pp p1 m1 (by omega)).mono (n':=p1.lv + p2.lv + 2) (m':=12000) (by omega) (by omega)
  have P2:=(pc_pp p2 m2 (by omega)).mono (n':=p1.lv + p2.lv + 2) (m':=12000) (by omega) (by omega)
  have P3:=(pc_cl hc3).mono (n':=p1.lv + p2.lv + 2) (m':=12000) (by omega) (by decide)
  have P4:=sw.pc.mono (n':=p1.lv + p2.lv + 2) (m':=12000) (by omega) (by decide)
  have P5:=sa.pc.mono (n':=p1.lv + p2.lv + 2) (m':=12000) (by omega) (by decide)
  have q6:∀ (W:PyData) (a' b' c':Int) (o:Ev),OddX W -> (W = .list [.str "cut"] \/ ∃ z,W = .str z /\ z ≠ Str.ofString "cut") -> 0 <= a' -> 0 <= b' -> 0 <= c' -> Qd (.fz (.tuple [W,tupD [t,l,h],.int wy,.int at_,pD p1,pD p2])) (some (.io (penD a' b' c')) :: o):=fun W a' b' c' o hW hz i1 i2 i3=>by
   refine q (.odd (.tuple [W,tupD [t,l,h],.int wy,.int at_,pD p1,pD p2])) a' b' c' o (frs_odd ⟨?_,fun xs k e hl=>?_⟩ ?_) i1 i2 i3
   ·show (okD W && (true && (true && (true && (okD (pD p1) && (okD (pD p2) && true)))))) = true
    rw [hW.ok,okD_pD,okD_pD]; rfl
   ·cases e
    cases k
    ·simp at hl
    ·refine ⟨W,_,_,rfl,?_⟩
     rcases hz with hz | ⟨z,hz,hn⟩
     ·exact .inl (.inr (.inl hz))
     ·exact .inr ⟨z,hz,.inl hn⟩
   ·refine Pc.mono (Pc.tup (n:=p1.lv + p2.lv + 2) (m:=12000) fun d hd=>?_) (by show _ <= p1.lv + p2.lv + 6; omega) (by simp)
    have hd:d = W \/ d = tupD [t,l,h] \/ d = .int wy \/ d = .int at_ \/ d = pD p1 \/ d = pD p2:=by simpa using hd
    rcases hd with rfl | rfl | rfl | rfl | rfl | rfl
    ·exact hW.sm.pc.mono (by omega) (by decide)
    ·exact P3
    ·exact P4
    ·exact P5
    ·exact P1
    ·exact P2
  with_reducible refine cutS (fun ρ=>ρ = ρ0) ?_ ?_
  ·intro N hN
   refine ite2 (fun _=>?_) (fun _=>hN _ hρ.symm)
   refine ⟨a,b,c,_,rfl,ha,hb,hc,by decide,by decide,fun r a1 b1 c1 _ r0 r1 ha1 hb1 hc1=>?_⟩
   rcases (show r = 0 \/ r = 1 \/ r = 2 \/ r = 3 \/ r = 4 by omega) with rfl | rfl | rfl | rfl | rfl
   ·exact ⟨_,rfl,q6 _ a1 b1 c1 _ word_odd.1 (.inr ⟨_,rfl,by decide +kernel⟩) ha1 hb1 hc1⟩
   ·exact ⟨_,rfl,q6 _ a1 b1 c1 _ word_odd.2.1 (.inr ⟨_,rfl,by decide +kernel⟩) ha1 hb1 hc1⟩
   ·exact ⟨_,rfl,q6 _ a1 b1 c1 _ word_odd.2.2.1 (.inr ⟨_,rfl,by decide +kernel⟩) ha1 hb1 hc1⟩
   ·exact ⟨_,rfl,q6 _ a1 b1 c1 _ word_odd.2.2.2.1 (.inr ⟨_,rfl,by decide +kernel⟩) ha1 hb1 hc1⟩
   ·exact ⟨_,rfl,q6 _ a1 b1 c1 _ wl_odd.1 (.inl rfl) ha1 hb1 hc1⟩
  intro ρ hr
  rw [hr,hρ]
  clear hr ρ
  with_reducible refine cutS (fun ρ=>ρ = ρ0) ?_ ?_
  ·intro N hN
   refine ite2 (fun _=>?_) (fun _=>hN _ hρ.symm)
   refine ite2 (fun h6=>?_) (fun h6=>?_)
   ·refine ⟨a,b,c,_,rfl,ha,hb,hc,by decide,by decide,fun r a1 b1 c1 _ r0 r1 ha1 hb1 hc1=>?_⟩
    rcases (show r = 0 \/ r = 1 by omega) with rfl | rfl
    ·exact ⟨_,rfl,qc _ _ a1 b1 c1 _ rfl rfl rfl (odd_bool _).sm sa ha1 hb1 hc1⟩
    ·exact ⟨_,rfl,qc _ _ a1 b1 c1 _ (hnx _) hx.ok rfl hx.sm sa ha1 hb1 hc1⟩
   ·have h6:decide (wy < 2) = false:=Bool.eq_false_iff.mpr h6
    exact ⟨_,rfl,qc _ _ a b c _ (hnx _) hx.ok rfl hx.sm sa ha hb hc⟩
  intro ρ hr
  rw [hr,hρ]
  clear hr ρ
  with_reducible refine cutS (fun ρ=>ρ = ρ0) ?_ ?_
  ·intro N hN
   refine ite2 (fun _=>?_) (fun _=>hN _ hρ.symm)
   refine ite2 (fun h6=>?_) (fun h6=>?_)
   ·refine ⟨a,b,c,_,rfl,ha,hb,hc,by decide,by decide,fun r a1 b1 c1 _ r0 r1 ha1 hb1 hc1=>?_⟩
    rcases (show r = 0 \/ r = 1 by omega) with rfl | rfl
    ·exact ⟨_,rfl,qc _ _ a1 b1 c1 _ rfl rfl rfl sw (odd_bool _).sm ha1 hb1 hc1⟩
    ·exact ⟨_,rfl,qc _ _ a1 b1 c1 _ (hxn _) rfl hx.ok sw hx.sm ha1 hb1 hc1⟩
   ·exact ⟨_,rfl,qc _ _ a b c _ (hxn _) rfl hx.ok sw hx.sm ha hb hc⟩
  intro ρ hr
  rw [hr,hρ]
  clear hr ρ
  with_reducible refine cutS (fun ρ=>ρ = ρ0) ?_ ?_
  ·intro N hN
   refine ite2 (fun _=>?_) (fun _=>hN _ hρ.symm)
   exact qc _ _ a b c _ (hnx _) hx.ok hx.ok hx.sm hx.sm ha hb hc
  intro ρ hr
  rw [hr,hρ]
  clear hr ρ
  refine q (.odd (.tuple [.str "cut",tupD [t,l,h],.int wy,.int at_,pD p1])) a b c _ (frs_odd ⟨?_,fun xs k e hl=>?_⟩ ?_) ha hb hc
  ·show (true && (true && (true && (true && (okD (pD p1) && true))))) = true
   rw [okD_pD]; rfl
  ·cases e
   cases k <;> simp at hl
  ·refine Pc.mono (Pc.tup (n:=p1.lv + p2.lv + 2) (m:=12000) fun d hd=>?_) (by show _ <= p1.lv + p2.lv + 6; omega) (by simp)
   have hd:d = .str "cut" \/ d = tupD [t,l,h] \/ d = .int wy \/ d = .int at_ \/ d = pD p1:=by simpa using hd
   rcases hd with rfl | rfl | rfl | rfl | rfl
   ·exact word_odd.2.2.2.2.2.2.sm.pc.mono (by omega) (by decide)
   ·exact P3
   ·exact P4
   ·exact P5
   ·exact P1
end
end R76
namespace R76
open PySem PySem.Spec L2 L3 PyProof.Rows
section
variable {P:Program} {w:World} {K:PySem.W.Frag} {mg:Str -> Option Value} {base:Heap}
noncomputable def cCe:Con:=fun args Q=>∃ (a b c:Int) (sd cl:List Int) (bx:Bxx) (t l h:Int),args = [.io (penD a b c),.fz (boxD bx),.fz (pD (.cell t l h))] /\ 0 <= a /\ 0 <= b /\ 0 <= c /\ Sd sd /\ Rt sd cl bx (.cell t l h) /\
 ∀ (f:Tr) (a' b' c':Int) (o:Ev),Frs sd cl bx 1 f -> 0 <= a' -> 0 <= b' -> 0 <= c' -> Q (.fz (tD f)) (some (.io (penD a' b' c')) :: o)
theorem scCe:FnScope ["_law_pen_here","_law_here","_law_one"] ["_law_pen_here","_law_here","_law_one"] (defScope (top 52)):=⟨rfl,rfl,rfl,by decide +kernel,rfl,by decide +kernel,by decide +kernel⟩
theorem ok_ce {f:Addr} {fd:FuncData} (F:Fun K "_law_cell_bent" "_law_cell_bent" (top 52) f fd) (T:Txt mg) (C:CalsB P w K mg base):FnOk P w K mg base CX0 2 f fd ["_law_pen_here","_law_here","_law_one"] (conSp K cCe):=by
 have S:=scCe
 refine wfn F S (fun cdv A outer s H E hr=>(s_cons (s_if (t_cmp ok_eq (op_eqE (K:=K) rfl hr.units) (wx (w_fnI C.law_draw (hr.mono (by first | decide | omega)) (wa_cons (wn 0) (wa_cons (wx w_int) wa_nil)))) (wx w_int)) (s_one (s_ret (w_tup (wa_cons (wx w_str) (wa_cons (wx (w_ix rfl (wn 2) (wx w_int))) (wa_cons (wx (w_fnI C.law_draw (hr.mono (by first | decide | omega)) (wa_cons (wn 0) (wa_cons (wx (w_callB ok_len (call_lenK (K:=K) rfl) T.len_ PySem.boot_len (wa_cons (wx (w_ix rfl (wn 1) (wx w_int))) wa_nil))) wa_nil)))) (wa_cons (wx (w_ix rfl (wx (w_ix rfl (wn 1) (wx w_int))) (wx w_int))) (wa_cons (wx (wv 2)) (wa_cons (wx (wv 2)) wa_nil))))))))) s_nil)
     (s_one (s_ret (w_tup (wa_cons (wx (w_ix rfl (wx (w_lst (wa_cons (wx w_str) (wa_cons (wx w_str) (wa_cons (wx w_str) (wa_cons (wx w_str) (wa_cons (wx (w_lst (wa_cons (wx w_str) wa_nil))) wa_nil))))))) (wx (w_fnI C.law_draw (hr.mono (by first | decide | omega)) (wa_cons (wn 0) (wa_cons (wx w_int) wa_nil)))))) (wa_cons (wx (w_ix rfl (wn 2) (wx w_int))) wa_nil))))))) ?_ ?_
 ·rintro args Qd ⟨a,b,c,sd,cl,bx,t,l,h,rfl,_⟩; rfl
 ·rintro args Qd ⟨a,b,c,sd,cl,bx,t,l,h,rfl,ha,hb,hc,hsd,hR,q⟩
  refine ⟨noOw_of rfl,?_⟩
  obtain ⟨heq,_⟩:=okP_cell hR.ok
  have hbl:=bx_len hR.bx
  have h1:=hsd.l1
  have h3:=hsd.l3
  have hc3:∀ x ∈ [t,l,h],x.natAbs < 10 ^ 41:=fun x hx=>Nat.lt_trans (hR.sm x hx) (by decide +kernel)
  with_reducible refine cutS (fun ρ=>∃ a b c:Int,ρ = [some (.io (penD a b c)),some (.fz (boxD bx)),some (.fz (pD (.cell t l h)))] /\ 0 <= a /\ 0 <= b /\ 0 <= c) ?_ ?_
  ·intro N hN
   refine ⟨a,b,c,_,rfl,ha,hb,hc,by decide,by decide,fun u a0 b0 c0 _ u0 u1 ha0 hb0 hc0=>?_⟩
   refine ite2 (fun _=>?_) (fun _=>hN _ ⟨a0,b0,c0,rfl,ha0,hb0,hc0⟩)
   refine ⟨_,rfl,_,rfl,a0,b0,c0,((bx.1.map PyData.int).length:Int),rfl,ha0,hb0,hc0,by rw [List.length_map]; omega,by rw [List.length_map]; omega,fun r a1 b1 c1 _ r0 r1 ha1 hb1 hc1=>?_⟩
   rw [List.length_map] at r1
   obtain ⟨i1,i2,i3⟩:=box_small hsd hR.bx (i:=0) (by omega)
   refine ⟨_,rfl,_,at_nat (i:=0) (by decide) (by omega),?_⟩
   refine q (.cut t l h (.int r) (.int (bx.1.getD (0:Int).toNat 0)) (.cell t l h) (.cell t l h)) a1 b1 c1 _ ⟨?_,⟨rfl,rfl,trivial,trivial⟩,by show 3 <= 60; decide,by show 2 <= 7; decide,true,hc3,smd_int (by omega),smd_int (by show (bx.1.getD 0 0).natAbs < _; omega),hc3,hc3⟩ ha1 hb1 hc1
   show ((decide (0 <= r) && (decide (r < bx.1.length) && (decide (bx.1.getD r.toNat 0 <= bx.1.getD 0 0) && decide (bx.1.getD 0 0 < bx.2.getD r.toNat 0)))) && _) = false
   rw [<- heq]
   by_cases z:bx.1.getD r.toNat 0 <= bx.1.getD 0 0
   ·rw [decide_eq_false (show ¬ bx.1.getD 0 0 < bx.1.getD r.toNat 0 by omega),Bool.and_false,Bool.and_false,Bool.and_false]; rfl
   ·rw [decide_eq_false z,Bool.false_and,Bool.and_false,Bool.and_false]; rfl
  clear ha hb hc
  rintro _ ⟨a,b,c,rfl,ha,hb,hc⟩
  have q2:∀ (W:PyData) (a' b' c':Int) (o:Ev),OddX W -> (W = .list [.str "cell"] \/ ∃ z,W = .str z /\ z ≠ Str.ofString "cell") -> 0 <= a' -> 0 <= b' -> 0 <= c' -> Qd (.fz (.tuple [W,tupD [t,l,h]])) (some (.io (penD a' b' c')) :: o):=fun W a' b' c' o hW hz i1 i2 i3=>by
   refine q (.odd (.tuple [W,tupD [t,l,h]])) a' b' c' o (frs_odd ⟨?_,fun xs k e hl=>?_⟩ ?_) i1 i2 i3
   ·show (okD W && (true && true)) = true
    rw [hW.ok]; rfl
   ·cases e
    cases k
    ·refine ⟨W,_,_,rfl,?_⟩
     rcases hz with hz | ⟨z,hz,hn⟩
     ·exact .inl (.inr (.inr hz))
     ·exact .inr ⟨z,hz,.inl hn⟩
    ·simp at hl
   ·refine Pc.mono (Pc.tup (n:=2) (m:=140) fun d hd=>?_) (by decide) (by simp)
    have hd:d = W \/ d = tupD [t,l,h]:=by simpa using hd
    rcases hd with rfl | rfl
    ·exact hW.sm.pc.mono (by omega) (by decide)
    ·exact pc_cl hc3
  refine ⟨a,b,c,_,rfl,ha,hb,hc,by decide,by decide,fun r a1 b1 c1 _ r0 r1 ha1 hb1 hc1=>?_⟩
  rcases (show r = 0 \/ r = 1 \/ r = 2 \/ r = 3 \/ r = 4 by omega) with rfl | rfl | rfl | rfl | rfl
  ·exact ⟨_,rfl,_,rfl,q2 _ a1 b1 c1 _ word_odd.2.2.2.2.1 (.inr ⟨_,rfl,by decide +kernel⟩) ha1 hb1 hc1⟩
  ·exact ⟨_,rfl,_,rfl,q2 _ a1 b1 c1 _ word_odd.2.2.2.2.2.1 (.inr ⟨_,rfl,by decide +kernel⟩) ha1 hb1 hc1⟩
  ·exact ⟨_,rfl,_,rfl,q2 _ a1 b1 c1 _ word_odd.2.2.1 (.inr ⟨_,rfl,by decide +kernel⟩) ha1 hb1 hc1⟩
  ·exact ⟨_,rfl,_,rfl,q2 _ a1 b1 c1 _ word_odd.2.2.2.2.2.2 (.inr ⟨_,rfl,by decide +kernel⟩) ha1 hb1 hc1⟩
  ·exact ⟨_,rfl,_,rfl,q2 _ a1 b1 c1 _ wl_odd.2 (.inl rfl) ha1 hb1 hc1⟩
end
end R76
namespace R76
open PySem PySem.Spec L2 L3 PyProof.Rows
theorem pD_parts (o:Pp) (hm:o.sm) (hl:o.lv <= 24):∃ (z:Str) (t l h:Int) (r:List PyData),pD o = .tuple (.str z :: tupD [t,l,h] :: r) /\ (r.length = 0 \/ r.length = 4) /\ (∀ x ∈ [t,l,h],x.natAbs < 10 ^ 41) /\ ∀ d ∈ .str z :: tupD [t,l,h] :: r,okD d = true /\ Pc (o.lv + 1) 12000 d:=by
 cases o with
 | cell t l h =>
  have hc:∀ x ∈ [t,l,h],x.natAbs < 10 ^ 41:=fun x hx=>Nat.lt_trans (hm x hx) (by decide +kernel)
  refine ⟨_,t,l,h,[],rfl,.inl rfl,hc,fun d hd=>?_⟩
  have hd:d = .str "cell" \/ d = tupD [t,l,h]:=by simpa using hd
  rcases hd with rfl | rfl
  ·exact ⟨rfl,word_odd.2.2.2.1.sm.pc.mono (by show 2 <= 1 + 1; decide) (by decide)⟩
  ·exact ⟨rfl,(pc_cl hc).mono (by show 2 <= 1 + 1; decide) (by decide)⟩
 | cut t l h w a p q =>
  obtain ⟨m0,m1,m2⟩:=hm
  have l1:=p.lv1
  have l2:=q.lv1
  have hl:p.lv + q.lv <= 24:=hl
  have hc:∀ x ∈ [t,l,h],x.natAbs < 10 ^ 41:=fun x hx=>Nat.lt_trans (m0 x (by simp at hx ⊢; omega)) (by decide +kernel)
  refine ⟨_,t,l,h,[.int w,.int a,pD p,pD q],rfl,.inr rfl,hc,fun d hd=>?_⟩
  have hd:d = .str "cut" \/ d = tupD [t,l,h] \/ d = .int w \/ d = .int a \/ d = pD p \/ d = pD q:=by simpa using hd
  show okD d = true /\ Pc (p.lv + q.lv + 1) 12000 d
  rcases hd with rfl | rfl | rfl | rfl | rfl | rfl
  ·exact ⟨rfl,word_odd.2.2.2.2.2.2.sm.pc.mono (by omega) (by decide)⟩
  ·exact ⟨rfl,(pc_cl hc).mono (by omega) (by decide)⟩
  ·exact ⟨rfl,(pc_int (Nat.lt_trans (m0 w (by simp)) (by decide +kernel))).mono (by omega) (by decide)⟩
  ·exact ⟨rfl,(pc_int (Nat.lt_trans (m0 a (by simp)) (by decide +kernel))).mono (by omega) (by decide)⟩
  ·exact ⟨okD_pD p,(pc_pp p m1 (by omega)).mono (by omega) (by omega)⟩
  ·exact ⟨okD_pD q,(pc_pp q m2 (by omega)).mono (by omega) (by omega)⟩
theorem ints_mem {P:Int -> Prop}:∀ {l:List PyData},(∀ d ∈ l,∃ k,d = .int k /\ P k) -> ∃ ks:List Int,l = ks.map PyData.int /\ ks.length = l.length /\ ∀ k ∈ ks,P k
 | [],_=>⟨[],rfl,rfl,fun k hk=>by simp at hk⟩
 | d :: l,h=>by
  obtain ⟨ks,e,hl,hk⟩:=ints_mem (l:=l) fun d hd=>h d (by simp [hd])
  obtain ⟨k,rfl,hp⟩:=h d (by simp)
  exact ⟨k :: ks,by rw [e]; rfl,by simp [hl],fun y hy=>by rcases List.mem_cons.mp hy with rfl | hy; exact hp; exact hk y hy⟩
structure NoC (d:PyData):Prop where
 no:areW 3 d = false
 ok:okD d = true
 pc:Pc 4 300 d
theorem noC_tup {x y z:PyData} (hx:okD x = true /\ Pc 2 60 x) (hy:okD y = true /\ Pc 2 60 y) (hz:okD z = true /\ Pc 2 60 z) (h:isI x = false \/ isI y = false \/ isI z = false):NoC (.tuple [x,y,z]):=by
 refine ⟨?_,?_,Pc.mono (Pc.tup (n:=2) (m:=60) fun d hd=>?_) (by decide) (by simp)⟩
 ·show (decide ([x,y,z].length = 3) && (isI x && (isI y && (isI z && true)))) = false
  rcases h with h | h | h <;> rw [h] <;> simp
 ·show (okD x && (okD y && (okD z && true))) = true
  rw [hx.1,hy.1,hz.1]; rfl
 ·have hd:d = x \/ d = y \/ d = z:=by simpa using hd
  rcases hd with rfl | rfl | rfl
  ·exact hx.2
  ·exact hy.2
  ·exact hz.2
theorem odd_nil:OddX (.list []):=⟨rfl,fun _ z=>(nomatch z),rfl,rfl,by simp [PyData.depth,PyData.depthAll],by decide +kernel⟩
theorem OddX.two {x:PyData} (h:OddX x):(okD x = true /\ Pc 2 60 x) /\ isI x = false:=⟨⟨h.ok,h.sm.pc⟩,by have:=h.no; cases x <;> first | rfl | exact absurd rfl (this _)⟩
section
variable {P:Program} {w:World} {K:PySem.W.Frag} {mg:Str -> Option Value} {base:Heap}
noncomputable def cOd:Con:=fun args Q=>∃ (a b c:Int) (p:Pp),args = [.io (penD a b c),.fz (pD p)] /\ 0 <= a /\ 0 <= b /\ 0 <= c /\ p.sm /\ p.lv <= 24 /\
 ∀ (f:Tr) (a' b' c':Int) (o:Ev),(∀ sd cl bx,Frs sd cl bx p.lv f) -> 0 <= a' -> 0 <= b' -> 0 <= c' -> Q (.fz (tD f)) (some (.io (penD a' b' c')) :: o)
theorem scOd:FnScope ["_law_pen_here","_law_one","_law_claim","_law_thing","_law_spot","_law_claims","_law_fresh","_law_truths","_law_k","_law_some"] ["_law_pen_here","_law_one"] (defScope (top 53)):=⟨rfl,rfl,rfl,by decide +kernel,rfl,by decide +kernel,by decide +kernel⟩
theorem ok_od {f:Addr} {fd:FuncData} (F:Fun K "_law_odd" "_law_odd" (top 53) f fd) (T:Txt mg) (C:CalsB P w K mg base):FnOk P w K mg base CX0 2 f fd ["_law_pen_here","_law_one"] (conSp K cOd):=by
 have S:=scOd
 refine wfn F S (fun cdv A outer s H E hr=>(s_cons (s_set (i:=2) S.nd rfl (Or.inr rfl) (w_ix rfl (wn 1) (wx w_int)))
     (s_cons (s_set (i:=3) S.nd rfl (Or.inl rfl) (w_ix rfl (wx (w_lst (wa_cons (wx w_non) (wa_cons (wx w_bl) (wa_cons (wx w_str) (wa_cons (wx (w_tup (wa_cons (wx w_int) wa_nil))) (wa_cons (wx (w_lst wa_nil)) wa_nil))))))) (wx (w_fnI C.law_draw (hr.mono (by first | decide | omega)) (wa_cons (wn 0) (wa_cons (wx w_int) wa_nil))))))
     (s_cons (s_set (i:=4) S.nd rfl (Or.inl rfl) (w_fnI C.law_draw (hr.mono (by first | decide | omega)) (wa_cons (wn 0) (wa_cons (wx w_int) wa_nil))))
     (s_cons (s_set (i:=5) S.nd rfl (Or.inl rfl) (w_lst (wa_cons (wx (w_bin ok_add op_addD (wx (w_bin ok_add op_addD (wx (w_sl2T rfl (wn 2) (wn 4))) (wx (w_tup (wa_cons (wx (wv 3)) wa_nil))))) (wx (w_sl1T rfl (wn 2) (wx (w_bin ok_add op_addD (wn 4) (wx w_int))))))) (wa_cons (wx (w_callT ok_list (call_listK (K:=K) rfl) T.list_ boot_list (wa_cons (wn 2) wa_nil))) (wa_cons (wx (w_bin ok_add op_addD (wn 2) (wx (w_tup (wa_cons (wx w_int) wa_nil))))) (wa_cons (wx (w_sl2T rfl (wn 2) (wx w_int))) (wa_cons (wx w_non) wa_nil)))))))
     (s_cons (s_set (i:=6) S.nd rfl (Or.inl rfl) (w_ix rfl (wn 5) (wx (w_fnI C.law_draw (hr.mono (by first | decide | omega)) (wa_cons (wn 0) (wa_cons (wx w_int) wa_nil))))))
     (s_cons (s_setC (i:=7) S.nd rfl rfl rfl (own:=["_law_k"]) (fr:=[2]) (by kernel_rfl) (i_rng1 T.range_ (wa_cons (wx w_int) wa_nil)) (fun _ _ _ _=>(g_name (i:=0) (by decide +kernel:List.Nodup (["_law_k","_law_claim"]:List Str)) rfl (Or.inl rfl))) (fun _ _ _ _=>if1 (t_inI rfl (wx (w_ix rfl (wn 1) (wn 0))) (wx (w_tup (wa_cons (wx w_int) (wa_cons (wx w_int) wa_nil)))))) (fun _ _ _ _=>(wv 0)))
     (s_cons (s_if (t_w (t_and (t_cmp ok_ne (op_neE (K:=K) rfl hr.units) (wn 7) (wx (w_lst wa_nil))) (t_and1 (t_cmp ok_eq (op_eqE (K:=K) rfl hr.units) (wx (w_fnI C.law_draw (hr.mono (by first | decide | omega)) (wa_cons (wn 0) (wa_cons (wx w_int) wa_nil)))) (wx w_int))))) (s_cons (s_set (i:=8) S.nd rfl (Or.inl rfl) (w_ix rfl (wn 7) (wx (w_fnI C.law_draw (hr.mono (by first | decide | omega)) (wa_cons (wn 0) (wa_cons (wx (w_callB ok_len (call_lenK (K:=K) rfl) T.len_ PySem.boot_len (wa_cons (wn 7) wa_nil))) wa_nil))))))
     (s_one (s_set (i:=6) S.nd rfl (Or.inl rfl) (w_bin ok_add op_addD (wx (w_bin ok_add op_addD (wx (w_sl2T rfl (wn 2) (wn 8))) (wx (w_tup (wa_cons (wx (w_cmp ok_eq (op_eqE (K:=K) rfl hr.units) (wx (w_ix rfl (wn 2) (wn 8))) (wx w_int))) wa_nil))))) (wx (w_sl1T rfl (wn 2) (wx (w_bin ok_add op_addD (wn 8) (wx w_int))))))))) s_nil)
     (s_cons (s_set (i:=9) S.nd rfl (Or.inl rfl) (w_lst (wa_cons (wx (w_bin ok_add op_addD (wx (w_bin ok_add op_addD (wx (w_sl2T rfl (wn 1) (wx w_int))) (wx (w_tup (wa_cons (wx (wv 6)) wa_nil))))) (wx (w_sl1T rfl (wn 1) (wx w_int))))) (wa_cons (wx (w_callT ok_list (call_listK (K:=K) rfl) T.list_ boot_list (wa_cons (wn 1) wa_nil))) (wa_cons (wx (w_bin ok_add op_addD (wn 1) (wx (w_tup (wa_cons (wx w_int) wa_nil))))) (wa_cons (wx (w_sl2T rfl (wn 1) (wx w_int))) (wa_cons (wx (w_bin ok_add op_addD (wx (w_tup (wa_cons (wx w_non) wa_nil))) (wx (w_sl1T rfl (wn 1) (wx w_int))))) wa_nil)))))))
     (s_one (s_ret (w_ix rfl (wx (w_bin ok_add op_addD (wn 9) (wx (w_lst (wa_cons (wx w_non) (wa_cons (wx w_int) (wa_cons (wx (w_tup wa_nil)) (wa_cons (wx w_str) (wa_cons (wx w_bl) (wa_cons (wx w_dnew) (wa_cons (wx (w_lst (wa_cons (wx (wv 1)) wa_nil))) (wa_cons (wx (w_tup (wa_cons (wx (wv 1)) wa_nil))) wa_nil)))))))))))) (wx (w_fnI C.law_draw (hr.mono (by first | decide | omega)) (wa_cons (wn 0) (wa_cons (wx w_int) wa_nil)))))))))))))))) ?_ ?_
 ·rintro args Qd ⟨a,b,c,p,rfl,_⟩; rfl
 ·rintro args Qd ⟨a,b,c,p,rfl,ha,hb,hc,hm,hlv,q⟩
  refine ⟨noOw_of rfl,?_⟩
  obtain ⟨z,t,l,h,r,e,hr4,hc3,hall⟩:=pD_parts p hm hlv
  rw [e]
  have it:okD (.int t) = true /\ Pc 2 60 (.int t):=⟨rfl,pc_int (hc3 t (by simp))⟩
  have il:okD (.int l) = true /\ Pc 2 60 (.int l):=⟨rfl,pc_int (hc3 l (by simp))⟩
  have ih:okD (.int h) = true /\ Pc 2 60 (.int h):=⟨rfl,pc_int (hc3 h (by simp))⟩
  generalize hod:(PyData.tuple (.str z :: tupD [t,l,h] :: r)) = od
  with_reducible refine cutS (fun ρ=>ρ = [some (.io (penD a b c)),some (.fz od),some (.fz (tupD [t,l,h])),none,none,none,none,none,none,none]) ?_ ?_
  ·intro N hN
   subst hod
   exact ⟨_,atI_nat (j:=1) rfl,hN _ rfl⟩
  rintro _ rfl
  with_reducible refine cutS (fun ρ=>∃ (x:PyData) (a b c:Int),ρ = [some (.io (penD a b c)),some (.fz od),some (.fz (tupD [t,l,h])),some (.fz x),none,none,none,none,none,none] /\ OddX x /\ 0 <= a /\ 0 <= b /\ 0 <= c) ?_ ?_
  ·intro N hN
   refine ⟨a,b,c,_,rfl,ha,hb,hc,by decide,by decide,fun u a1 b1 c1 _ u0 u1 ha1 hb1 hc1=>?_⟩
   rcases (show u = 0 \/ u = 1 \/ u = 2 \/ u = 3 \/ u = 4 by omega) with rfl | rfl | rfl | rfl | rfl
   ·exact ⟨_,rfl,hN _ ⟨_,a1,b1,c1,rfl,odd_none,ha1,hb1,hc1⟩⟩
   ·exact ⟨_,rfl,hN _ ⟨_,a1,b1,c1,rfl,odd_bool _,ha1,hb1,hc1⟩⟩
   ·exact ⟨_,rfl,hN _ ⟨_,a1,b1,c1,rfl,odd_zero,ha1,hb1,hc1⟩⟩
   ·exact ⟨_,rfl,hN _ ⟨_,a1,b1,c1,rfl,odd_tup (by decide +kernel),ha1,hb1,hc1⟩⟩
   ·exact ⟨_,rfl,hN _ ⟨_,a1,b1,c1,rfl,odd_nil,ha1,hb1,hc1⟩⟩
  clear ha hb hc
  rintro _ ⟨x,a,b,c,rfl,hx,ha,hb,hc⟩
  with_reducible refine cutS (fun ρ=>∃ (s a b c:Int),ρ = [some (.io (penD a b c)),some (.fz od),some (.fz (tupD [t,l,h])),some (.fz x),some (.fz (.int s)),none,none,none,none,none] /\ (s = 0 \/ s = 1 \/ s = 2) /\ 0 <= a /\ 0 <= b /\ 0 <= c) ?_ ?_
  ·intro N hN
   exact ⟨a,b,c,_,rfl,ha,hb,hc,by decide,by decide,fun u a1 b1 c1 _ u0 u1 ha1 hb1 hc1=>hN _ ⟨u,a1,b1,c1,rfl,by omega,ha1,hb1,hc1⟩⟩
  clear ha hb hc
  rintro _ ⟨s,a,b,c,rfl,hs,ha,hb,hc⟩
  with_reducible refine cutS (fun ρ=>∃ (d1 d2 d3 d4:PyData),ρ = [some (.io (penD a b c)),some (.fz od),some (.fz (tupD [t,l,h])),some (.fz x),some (.fz (.int s)),some (.ow (.list [d1,d2,d3,d4,.none])),none,none,none,none] /\ NoC d1 /\ NoC d2 /\ NoC d3 /\ NoC d4) ?_ ?_
  ·intro N hN
   obtain ⟨x1,x2⟩:=hx.two
   have n2:NoC (liD [t,l,h]):=⟨rfl,rfl,Pc.mono (Pc.lst (n:=2) (m:=60) fun d hd=>by
     obtain ⟨y,hy,rfl⟩:=List.mem_map.mp hd
     exact pc_int (hc3 y hy)) (by decide) (by simp)⟩
   have n3:NoC (tupD [t,l,h,0]):=⟨rfl,rfl,Pc.mono (Pc.tup (n:=2) (m:=60) fun d hd=>by
     obtain ⟨y,hy,rfl⟩:=List.mem_map.mp hd
     have hy:y = t \/ y = l \/ y = h \/ y = 0:=by simpa using hy
     rcases hy with rfl | rfl | rfl | rfl
     · exact it.2
     · exact il.2
     · exact ih.2
     · exact pc_int (by decide +kernel)) (by decide) (by simp)⟩
   have n4:NoC (tupD [t,l]):=⟨rfl,rfl,Pc.mono (Pc.tup (n:=2) (m:=60) fun d hd=>by
     obtain ⟨y,hy,rfl⟩:=List.mem_map.mp hd
     have hy:y = t \/ y = l:=by simpa using hy
     rcases hy with rfl | rfl
     · exact it.2
     · exact il.2) (by decide) (by simp)⟩
   rcases hs with rfl | rfl | rfl
   ·exact ⟨by decide,le_size (by simp),by decide,le_size (by simp),le_size (by simp),by decide,hN _ ⟨_,_,_,_,rfl,noC_tup x1 il ih (.inl x2),n2,n3,n4⟩⟩
   ·exact ⟨by decide,le_size (by simp),by decide,le_size (by simp),le_size (by simp),by decide,hN _ ⟨_,_,_,_,rfl,noC_tup it x1 ih (.inr (.inl x2)),n2,n3,n4⟩⟩
   ·exact ⟨by decide,le_size (by simp),by decide,le_size (by simp),le_size (by simp),by decide,hN _ ⟨_,_,_,_,rfl,noC_tup it il x1 (.inr (.inr x2)),n2,n3,n4⟩⟩
  rintro _ ⟨d1,d2,d3,d4,rfl,n1,n2,n3,n4⟩
  clear hs
  with_reducible refine cutS (fun ρ=>∃ (fr:PyData) (a b c:Int),ρ = [some (.io (penD a b c)),some (.fz od),some (.fz (tupD [t,l,h])),some (.fz x),some (.fz (.int s)),some (.ow (.list [d1,d2,d3,d4,.none])),some (.fz fr),none,none,none] /\ NoC fr /\ 0 <= a /\ 0 <= b /\ 0 <= c) ?_ ?_
  ·intro N hN
   refine ⟨a,b,c,_,rfl,ha,hb,hc,by decide,by decide,fun u a1 b1 c1 _ u0 u1 ha1 hb1 hc1=>?_⟩
   rcases (show u = 0 \/ u = 1 \/ u = 2 \/ u = 3 \/ u = 4 by omega) with rfl | rfl | rfl | rfl | rfl
   ·exact ⟨_,rfl,hN _ ⟨_,a1,b1,c1,rfl,n1,ha1,hb1,hc1⟩⟩
   ·exact ⟨_,rfl,hN _ ⟨_,a1,b1,c1,rfl,n2,ha1,hb1,hc1⟩⟩
   ·exact ⟨_,rfl,hN _ ⟨_,a1,b1,c1,rfl,n3,ha1,hb1,hc1⟩⟩
   ·exact ⟨_,rfl,hN _ ⟨_,a1,b1,c1,rfl,n4,ha1,hb1,hc1⟩⟩
   ·exact ⟨_,rfl,hN _ ⟨_,a1,b1,c1,rfl,⟨rfl,rfl,odd_none.sm.pc.mono (by decide) (by decide)⟩,ha1,hb1,hc1⟩⟩
  clear ha hb hc n1 n2 n3 n4
  rintro _ ⟨fr,a,b,c,rfl,hfr,ha,hb,hc⟩
  with_reducible refine cutS (fun ρ=>∃ (ks:List Int),ρ = [some (.io (penD a b c)),some (.fz od),some (.fz (tupD [t,l,h])),some (.fz x),some (.fz (.int s)),some (.ow (.list [d1,d2,d3,d4,.none])),some (.fz fr),some (.ow (liD ks)),none,none] /\ ks.length <= 3 /\ ∀ k ∈ ks,k = 0 \/ k = 1 \/ k = 2) ?_ ?_
  ·intro N hN
   refine ⟨by decide,by decide,?_⟩
   generalize hrg:rangeD 0 (Int.toNat 3) = rg
   have hrg2:∀ d ∈ rg,∃ k:Int,d = .int k /\ (k = 0 \/ k = 1 \/ k = 2):=fun d hd=>by
    rw [<- hrg] at hd
    have hd:d = .int (0 + 0) \/ d = .int (0 + 1) \/ d = .int (0 + 2):=by simpa [rangeD,List.range,List.range.loop] using hd
    rcases hd with rfl | rfl | rfl
    ·exact ⟨_,rfl,by omega⟩
    ·exact ⟨_,rfl,by omega⟩
    ·exact ⟨_,rfl,by omega⟩
   have hrl:rg.length = 3:=by rw [<- hrg]; simp [rangeD]
   refine ⟨le_size (by omega),filC (fun d=>decide ([t,l,h].getD (unI d).toNat 0 ∈ [(0:Int),1])) (fun d=>d) ?_ ?_⟩
   ·intro d hd N2 M hN2 hM
    obtain ⟨k,rfl,hk⟩:=hrg2 d hd
    rcases hk with rfl | rfl | rfl
    all_goals
     refine ⟨_,rfl,[0,1],rfl,ite2 (fun h3=>hN2 h3) (fun h3=>hM (Bool.eq_false_iff.mpr h3))⟩
   ·obtain ⟨ks,ek,hk1,hk2⟩:=ints_mem (P:=fun k=>k = 0 \/ k = 1 \/ k = 2) (l:=(rg.filter fun d=>decide ([t,l,h].getD (unI d).toNat 0 ∈ [(0:Int),1])).map fun d=>d) fun d hd=>by
     obtain ⟨d',hd2,rfl⟩:=List.mem_map.mp hd
     exact hrg2 _ (List.mem_filter.mp hd2).1
    have hkl:ks.length <= 3:=by
     rw [hk1,List.length_map,<- hrl]
     exact List.length_filter_le _ _
    rw [ek]
    exact hN _ ⟨ks,rfl,hkl,hk2⟩
  rintro _ ⟨ks,rfl,hkl,hks⟩
  with_reducible refine cutS (fun ρ=>∃ (fr:PyData) (x8 x5 x7:Option Sl) (a b c:Int),ρ = [some (.io (penD a b c)),some (.fz od),some (.fz (tupD [t,l,h])),some (.fz x),some (.fz (.int s)),x5,some (.fz fr),x7,x8,none] /\ x5 = some (.ow (.list [d1,d2,d3,d4,.none])) /\ x7 = some (.ow (liD ks)) /\ (x8 = none \/ ∃ k,x8 = some (.fz (.int k))) /\ NoC fr /\ 0 <= a /\ 0 <= b /\ 0 <= c) ?_ ?_
  ·intro N hN
   have nl:=Nice.ints ks
   have nn:Nice 1 (PyData.list []):=Nice.ints []
   refine ⟨nl.p,nn.p,nl.sh (by decide),nn.sh (by decide),mix_nil _,ite2 (fun h7=>?_) (fun h7=>hN _ ⟨fr,none,_,_,a,b,c,rfl,rfl,rfl,.inl rfl,hfr,ha,hb,hc⟩)⟩
   have h7:(!same (.list (ks.map PyData.int)) (.list [])) = true:=h7
   rw [same_nil] at h7
   have hne:ks ≠ []:=by simpa using h7
   have hpos:0 < ks.length:=List.length_pos_iff.mpr hne
   refine ⟨a,b,c,_,rfl,ha,hb,hc,by decide,by decide,fun u a1 b1 c1 _ u0 u1 ha1 hb1 hc1=>?_⟩
   refine ite2 (fun _=>?_) (fun _=>hN _ ⟨fr,none,_,_,a1,b1,c1,rfl,rfl,rfl,.inl rfl,hfr,ha1,hb1,hc1⟩)
   with_reducible refine cutS (fun ρ=>∃ (k a b c:Int),ρ = [some (.io (penD a b c)),some (.fz od),some (.fz (tupD [t,l,h])),some (.fz x),some (.fz (.int s)),some (.ow (.list [d1,d2,d3,d4,.none])),some (.fz fr),some (.ow (liD ks)),some (.fz (.int k)),none] /\ (k = 0 \/ k = 1 \/ k = 2) /\ 0 <= a /\ 0 <= b /\ 0 <= c) ?_ ?_
   ·intro N2 hN2
    refine ⟨a1,b1,c1,(ks.length:Int),by rw [<- List.length_map (f:=PyData.int) (as:=ks)]; rfl,ha1,hb1,hc1,by omega,by omega,fun v a2 b2 c2 _ v0 v1 ha2 hb2 hc2=>?_⟩
    obtain ⟨jj,rfl⟩:=Int.eq_ofNat_of_zero_le v0
    have hj:jj < ks.length:=by omega
    refine ⟨_,at_ints hj,hN2 _ ⟨_,a2,b2,c2,rfl,?_,ha2,hb2,hc2⟩⟩
    rw [List.getD_eq_getElem?_getD,List.getElem?_eq_getElem hj]
    exact hks _ (List.getElem_mem _)
   rintro _ ⟨k,a2,b2,c2,rfl,hk,ha2,hb2,hc2⟩
   obtain ⟨y1,y2⟩:=(odd_bool true).two
   obtain ⟨y3,y4⟩:=(odd_bool false).two
   have yb:∀ b:Bool,(okD (.bool b) = true /\ Pc 2 60 (.bool b)) /\ isI (.bool b) = false:=fun b=>(odd_bool b).two
   rcases hk with rfl | rfl | rfl
   ·exact ⟨by decide,_,rfl,le_size (by simp),by decide,le_size (by simp),hN _ ⟨_,_,_,_,a2,b2,c2,rfl,rfl,rfl,.inr ⟨_,rfl⟩,noC_tup (yb _).1 il ih (.inl (yb _).2),ha2,hb2,hc2⟩⟩
   ·exact ⟨by decide,_,rfl,le_size (by simp),by decide,le_size (by simp),hN _ ⟨_,_,_,_,a2,b2,c2,rfl,rfl,rfl,.inr ⟨_,rfl⟩,noC_tup it (yb _).1 ih (.inr (.inl (yb _).2)),ha2,hb2,hc2⟩⟩
   ·exact ⟨by decide,_,rfl,le_size (by simp),by decide,le_size (by simp),hN _ ⟨_,_,_,_,a2,b2,c2,rfl,rfl,rfl,.inr ⟨_,rfl⟩,noC_tup it il (yb _).1 (.inr (.inr (yb _).2)),ha2,hb2,hc2⟩⟩
  clear ha hb hc hfr
  rintro _ ⟨fr,x8,_,_,a,b,c,rfl,rfl,rfl,hx8,hfr,ha,hb,hc⟩
  with_reducible refine cutS (fun ρ=>∃ x5 x7,ρ = [some (.io (penD a b c)),some (.fz od),some (.fz (tupD [t,l,h])),some (.fz x),some (.fz (.int s)),x5,some (.fz fr),x7,x8,some (.ow (.list [.tuple (.str z :: fr :: r),.list (.str z :: tupD [t,l,h] :: r),.tuple ((.str z :: tupD [t,l,h] :: r) ++ [.int 0]),.tuple [.str z],.tuple (.none :: tupD [t,l,h] :: r)]))] /\ x5 = some (.ow (.list [d1,d2,d3,d4,.none])) /\ x7 = some (.ow (liD ks))) ?_ ?_
  ·intro N hN
   subst hod
   rcases hx8 with rfl | ⟨k,rfl⟩
   all_goals exact ⟨by decide,le_size (by simp),by decide,le_size (by simp; omega),le_size (by simp; omega),by decide,by decide,le_size (by simp; omega),hN _ ⟨_,_,rfl,rfl,rfl⟩⟩
  rintro _ ⟨_,_,rfl,rfl,rfl⟩
  have qo:∀ (d:PyData) (a' b' c':Int) (o:Ev),OddD d -> Pc (p.lv + 6) 100000 d -> 0 <= a' -> 0 <= b' -> 0 <= c' -> Qd (.fz d) (some (.io (penD a' b' c')) :: o):=fun d a' b' c' o h1 h2 i1 i2 i3=>q (.odd d) a' b' c' o (fun sd cl bx=>frs_odd h1 h2) i1 i2 i3
  have okl:∀ l:List PyData,(∀ d ∈ l,okD d = true) -> okD (.tuple l) = true:=fun l hl=>okAll_of hl
  have hp0:=hall (.str z) (by simp)
  have hp1:=hall (tupD [t,l,h]) (by simp)
  have hpr:∀ d ∈ r,okD d = true /\ Pc (p.lv + 1) 12000 d:=fun d hd=>hall d (by simp [hd])
  have l1:=p.lv1
  have pod:okD od = true /\ Pc (p.lv + 2) 73000 od:=by
   subst hod
   exact ⟨okl _ fun d hd=>(hall d hd).1,Pc.mono (Pc.tup fun d hd=>(hall d hd).2) (by omega) (by simp; omega)⟩
  have sml:∀ {d:PyData},OddX d -> Pc (p.lv + 6) 100000 d:=fun hd=>hd.sm.pc.mono (by omega) (by decide)
  have nt:∀ {d:PyData},okD d = true -> (∀ xs,d ≠ .tuple xs) -> OddD d:=fun h1 h2=>⟨h1,fun xs k e=>absurd e (h2 xs)⟩
  refine ⟨le_size (by simp),a,b,c,_,by rcases hx8 with rfl | ⟨k,rfl⟩ <;> rfl,ha,hb,hc,by decide,by decide,fun u a1 b1 c1 _ u0 u1 ha1 hb1 hc1=>?_⟩
  rcases (show u = 0 \/ u = 1 \/ u = 2 \/ u = 3 \/ u = 4 \/ u = 5 \/ u = 6 \/ u = 7 \/ u = 8 \/ u = 9 \/ u = 10 \/ u = 11 \/ u = 12 by omega) with rfl | rfl | rfl | rfl | rfl | rfl | rfl | rfl | rfl | rfl | rfl | rfl | rfl
  ·refine ⟨_,rfl,qo _ a1 b1 c1 _ ⟨okl _ fun d hd=>?_,fun xs k e hl=>?_⟩ (Pc.mono (Pc.tup (n:=p.lv + 4) (m:=12000) fun d hd=>?_) (by omega) (by simp; omega)) ha1 hb1 hc1⟩
   ·rcases List.mem_cons.mp hd with rfl | hd
    ·exact hp0.1
    ·rcases List.mem_cons.mp hd with rfl | hd
     ·exact hfr.ok
     ·exact (hpr d hd).1
   ·cases e
    exact ⟨_,_,_,rfl,.inr ⟨z,rfl,.inr hfr.no⟩⟩
   ·rcases List.mem_cons.mp hd with rfl | hd
    ·exact hp0.2.mono (by omega) (by decide)
    ·rcases List.mem_cons.mp hd with rfl | hd
     ·exact hfr.pc.mono (by omega) (by decide)
     ·exact (hpr d hd).2.mono (by omega) (by decide)
  ·exact ⟨_,rfl,qo _ a1 b1 c1 _ (nt (okl _ fun d hd=>(hall d hd).1) fun xs e=>by cases e) (Pc.mono (Pc.lst fun d hd=>(hall d hd).2) (by omega) (by simp; omega)) ha1 hb1 hc1⟩
  ·refine ⟨_,rfl,qo _ a1 b1 c1 _ ⟨okl _ fun d hd=>?_,fun xs k e hl=>?_⟩ (Pc.mono (Pc.tup (n:=p.lv + 4) (m:=12000) fun d hd=>?_) (by omega) (by simp; omega)) ha1 hb1 hc1⟩
   ·rcases List.mem_append.mp hd with hd | hd
    ·exact (hall d hd).1
    ·rw [List.mem_singleton.mp hd]; rfl
   ·cases e
    exfalso
    cases k <;> simp at hl <;> omega
   ·rcases List.mem_append.mp hd with hd | hd
    ·exact (hall d hd).2.mono (by omega) (by decide)
    ·rw [List.mem_singleton.mp hd]; exact (pc_int (by decide +kernel)).mono (by omega) (by decide)
  ·refine ⟨_,rfl,qo _ a1 b1 c1 _ ⟨okl _ fun d hd=>?_,fun xs k e hl=>?_⟩ (Pc.mono (Pc.tup (n:=p.lv + 4) (m:=12000) fun d hd=>?_) (by omega) (by simp)) ha1 hb1 hc1⟩
   ·rw [List.mem_singleton.mp hd]; exact hp0.1
   ·cases e
    exfalso
    cases k <;> simp at hl
   ·rw [List.mem_singleton.mp hd]; exact hp0.2.mono (by omega) (by decide)
  ·refine ⟨_,rfl,qo _ a1 b1 c1 _ ⟨okl _ fun d hd=>?_,fun xs k e hl=>?_⟩ (Pc.mono (Pc.tup (n:=p.lv + 4) (m:=12000) fun d hd=>?_) (by omega) (by simp; omega)) ha1 hb1 hc1⟩
   ·rcases List.mem_cons.mp hd with rfl | hd
    ·rfl
    ·exact (hall d (List.mem_cons_of_mem _ hd)).1
   ·cases e
    exact ⟨_,_,_,rfl,.inl (.inl rfl)⟩
   ·rcases List.mem_cons.mp hd with rfl | hd
    ·exact odd_none.sm.pc.mono (by omega) (by decide)
    ·exact (hall d (List.mem_cons_of_mem _ hd)).2.mono (by omega) (by decide)
  ·exact ⟨_,rfl,qo _ a1 b1 c1 _ (nt rfl fun xs e=>by cases e) (sml odd_none) ha1 hb1 hc1⟩
  ·exact ⟨_,rfl,qo _ a1 b1 c1 _ (nt rfl fun xs e=>by cases e) ((pc_int (by decide +kernel)).mono (by omega) (by decide)) ha1 hb1 hc1⟩
  ·exact ⟨_,rfl,qo _ a1 b1 c1 _ ⟨rfl,fun xs k e hl=>by cases e; cases k <;> simp at hl⟩ (Pc.mono (Pc.tup (n:=0) (m:=0) fun d hd=>by simp at hd) (by omega) (by simp)) ha1 hb1 hc1⟩
  ·exact ⟨_,rfl,qo _ a1 b1 c1 _ (nt rfl fun xs e=>by cases e) (sml word_odd.2.2.2.1) ha1 hb1 hc1⟩
  ·exact ⟨_,rfl,qo _ a1 b1 c1 _ (nt rfl fun xs e=>by cases e) (sml (odd_bool _)) ha1 hb1 hc1⟩
  ·exact ⟨_,rfl,q (.odd (.dict [])) a1 b1 c1 _ (fun sd cl bx=>⟨rfl,nt rfl fun xs e=>(by cases e),by show 1 <= 60; decide,by show 1 <= _; omega,false,rfl,rfl,by decide +kernel⟩) ha1 hb1 hc1⟩
  ·exact ⟨_,rfl,qo _ a1 b1 c1 _ (nt (okl [od] fun d hd=>by rw [List.mem_singleton.mp hd]; exact pod.1) fun xs e=>by cases e) (Pc.mono (Pc.lst (n:=p.lv + 2) (m:=73000) fun d hd=>by rw [List.mem_singleton.mp hd]; exact pod.2) (by omega) (by simp)) ha1 hb1 hc1⟩
  ·exact ⟨_,rfl,qo _ a1 b1 c1 _ ⟨okl [od] fun d hd=>by rw [List.mem_singleton.mp hd]; exact pod.1,fun xs k e hl=>by cases e; cases k <;> simp at hl⟩ (Pc.mono (Pc.tup (n:=p.lv + 2) (m:=73000) fun d hd=>by rw [List.mem_singleton.mp hd]; exact pod.2) (by omega) (by simp)) ha1 hb1 hc1⟩
end
end R76
namespace R76
open PySem PySem.Spec L2 L3 PyProof.Rows
theorem gsC {gs:List TDG} {ds:List PyData} {ρ ρ':Ev} {Q:Ev -> Prop} (h:dGs gs ds ρ Q = Q ρ') (w:Q ρ'):dGs gs ds ρ Q:=by rw [h]; exact w
theorem re_D {o:Pp} {t l h:Int} (e:o.cl = [t,l,h]):∃ (z:Str) (r:List PyData),pD o = .tuple (.str z :: tupD [t,l,h] :: r) /\ r.length <= 4 /\ ∀ t' l' h',pD (o.re t' l' h') = .tuple (.str z :: tupD [t',l',h'] :: r):=by
 cases o with
 | cell t0 l0 h0=>cases e; exact ⟨_,[],rfl,by simp,fun _ _ _=>rfl⟩
 | cut t0 l0 h0 w a p q=>cases e; exact ⟨_,[.int w,.int a,pD p,pD q],rfl,by simp,fun _ _ _=>rfl⟩
section
variable {P:Program} {w:World} {K:PySem.W.Frag} {mg:Str -> Option Value} {base:Heap}
structure CalsSp (P:Program) (w:World) (K:PySem.W.Frag) (mg:Str -> Option Value) (base:Heap):Prop where
 law_within:Cal P w K mg base 2 "_law_within" ["_law_box_here","_law_paper_here"] (conSp K cWn)
 law_draw:Cal P w K mg base 1 "_law_draw" ["_law_pen_here","_law_many"] (conSp K cDraw)
 law_with:Cal P w K mg base 38 "_law_with" ["_law_paper_here","_law_road","_law_fresh"] (conSp K (cWi 38))
 law_anew:Cal P w K mg base 38 "_law_anew" ["_law_paper_here","_law_road","_law_fresh"] (conSp K (cAw 38))
 law_odd:Cal P w K mg base 2 "_law_odd" ["_law_pen_here","_law_one"] (conSp K cOd)
 law_claim_bent:Cal P w K mg base 2 "_law_claim_bent" ["_law_pen_here","_law_claim"] (conSp K cCb)
 law_cell_bent:Cal P w K mg base 2 "_law_cell_bent" ["_law_pen_here","_law_here","_law_one"] (conSp K cCe)
 law_cut_bent:Cal P w K mg base 2 "_law_cut_bent" ["_law_pen_here","_law_here","_law_one"] (conSp K cCt)
noncomputable def cSp:Con:=fun args Q=>∃ (a b c:Int) (sd cl:List Int) (bx:Bxx) (p:Pp),args = [.io (penD a b c),.fz (boxD bx),.fz (pD p)] /\ 0 <= a /\ 0 <= b /\ 0 <= c /\ Sd sd /\ Rt sd cl bx p /\ p.lv <= 24 /\
 ∀ (t:Tr) (a' b' c':Int) (o:Ev),Bad sd cl bx t -> 0 <= a' -> 0 <= b' -> 0 <= c' -> Q (.fz (tD t)) (some (.io (penD a' b' c')) :: o)
theorem scSp:FnScope ["_law_pen_here","_law_box_here","_law_paper_here","_law_some","_law_here","_law_one","_law_road","_law_way","_law_fresh"] ["_law_pen_here","_law_box_here","_law_paper_here"] (defScope (top 54)):=⟨rfl,rfl,rfl,by decide +kernel,rfl,by decide +kernel,by decide +kernel⟩
theorem ok_sp {f:Addr} {fd:FuncData} (F:Fun K "_law_spoilt" "_law_spoilt" (top 54) f fd) (T:Txt mg) (C:CalsSp P w K mg base):FnOk P w K mg base CX0 39 f fd ["_law_pen_here","_law_box_here","_law_paper_here"] (conSp K cSp):=by
 have S:=scSp
 refine wfn F S (fun cdv A outer s H E hr=>(s_cons (s_set (i:=3) S.nd rfl (Or.inl rfl) (w_fn C.law_within (hr.mono (by first | decide | omega)) (wa_cons (wn 1) (wa_cons (wn 2) wa_nil))))
     (s_cons (s_asgG (w_ix rfl (wn 3) (wx (w_fnI C.law_draw (hr.mono (by first | decide | omega)) (wa_cons (wn 0) (wa_cons (wx (w_callB ok_len (call_lenK (K:=K) rfl) T.len_ PySem.boot_len (wa_cons (wn 3) wa_nil))) wa_nil))))) (g_tup rfl rfl (gs_cons (g_name (i:=4) S.nd rfl (Or.inl rfl)) (gs_cons (g_name (i:=5) S.nd rfl (Or.inl rfl)) (gs_cons (g_name (i:=6) S.nd rfl (Or.inl rfl)) gs_nil)))))
     (s_cons (s_set (i:=7) S.nd rfl (Or.inl rfl) (w_fnI C.law_draw (hr.mono (by first | decide | omega)) (wa_cons (wn 0) (wa_cons (wx w_int) wa_nil))))
     (s_cons (s_if (t_cmp ok_eq (op_eqE (K:=K) rfl hr.units) (wn 7) (wx w_int)) (s_one (s_ret (w_fn C.law_with (hr.mono (by first | decide | omega)) (wa_cons (wn 2) (wa_cons (wn 6) (wa_cons (wx (w_fnI C.law_odd (hr.mono (by first | decide | omega)) (wa_cons (wn 0) (wa_cons (wn 5) wa_nil)))) wa_nil)))))) s_nil)
     (s_cons (s_if (t_cmp ok_lt op_lt (wn 7) (wx w_int)) (s_cons (s_set (i:=8) S.nd rfl (Or.inl rfl) (w_bin ok_add op_addD (wx (w_tup (wa_cons (wx (w_ix rfl (wn 5) (wx w_int))) (wa_cons (wx (w_fnI C.law_claim_bent (hr.mono (by first | decide | omega)) (wa_cons (wn 0) (wa_cons (wx (w_ix rfl (wn 5) (wx w_int))) wa_nil)))) wa_nil)))) (wx (w_sl1T rfl (wn 5) (wx w_int)))))
     (s_cons (s_if (t_w (t_and (t_cmp ok_eq (op_eqE (K:=K) rfl hr.units) (wx (w_fnI C.law_draw (hr.mono (by first | decide | omega)) (wa_cons (wn 0) (wa_cons (wx w_int) wa_nil)))) (wx w_int)) (t_and1 (t_cmp ok_ne (op_neE (K:=K) rfl hr.units) (wx (w_ix rfl (wx (w_ix rfl (wn 8) (wx w_int))) (wx w_int))) (wx (w_ix rfl (wx (w_ix rfl (wn 5) (wx w_int))) (wx w_int))))))) (s_one (s_ret (w_fn C.law_anew (hr.mono (by first | decide | omega)) (wa_cons (wn 2) (wa_cons (wn 6) (wa_cons (wn 8) wa_nil)))))) s_nil)
     (s_one (s_ret (w_fn C.law_with (hr.mono (by first | decide | omega)) (wa_cons (wn 2) (wa_cons (wn 6) (wa_cons (wn 8) wa_nil)))))))) s_nil)
     (s_cons (s_if (t_cmp ok_eq (op_eqE (K:=K) rfl hr.units) (wx (w_ix rfl (wn 5) (wx w_int))) (wx w_str)) (s_one (s_ret (w_fn C.law_with (hr.mono (by first | decide | omega)) (wa_cons (wn 2) (wa_cons (wn 6) (wa_cons (wx (w_fnI C.law_cell_bent (hr.mono (by first | decide | omega)) (wa_cons (wn 0) (wa_cons (wn 4) (wa_cons (wn 5) wa_nil))))) wa_nil)))))) s_nil)
     (s_one (s_ret (w_fn C.law_with (hr.mono (by first | decide | omega)) (wa_cons (wn 2) (wa_cons (wn 6) (wa_cons (wx (w_fnI C.law_cut_bent (hr.mono (by first | decide | omega)) (wa_cons (wn 0) (wa_cons (wn 4) (wa_cons (wn 5) wa_nil))))) wa_nil))))))))))))) ?_ ?_
 ·rintro args Qd ⟨a,b,c,sd,cl,bx,p,rfl,_⟩; rfl
 ·rintro args Qd ⟨a,b,c,sd,cl,bx,p,rfl,ha,hb,hc,hsd,hR,hlv,q⟩
  refine ⟨noOw_of rfl,?_⟩
  with_reducible refine cutS (fun ρ=>∃ (rs:List Wn),ρ = [some (.io (penD a b c)),some (.fz (boxD bx)),some (.fz (pD p)),some (.ow (.list (rs.map wnD))),none,none,none,none,none] /\ rs ≠ [] /\ rs.length <= 47 /\ ∀ z ∈ rs,p.go bx z.2 = some z.1) ?_ ?_
  ·intro N hN
   exact ⟨sd,cl,bx,p,rfl,hsd,hR,hlv,fun rs o h1 h2 h3=>hN _ ⟨rs,rfl,h1,h2,h3⟩⟩
  rintro _ ⟨rs,rfl,hne,hlen,hrs⟩
  have hpos:0 < rs.length:=List.length_pos_iff.mpr hne
  with_reducible refine cutS (fun ρ=>∃ (r:List Int) (z:Bxx × Pp) (a b c:Int),ρ = [some (.io (penD a b c)),some (.fz (boxD bx)),some (.fz (pD p)),some (.ow (.list (rs.map wnD))),some (.fz (boxD z.1)),some (.fz (pD z.2)),some (.fz (tupD r)),none,none] /\ p.go bx r = some z /\ 0 <= a /\ 0 <= b /\ 0 <= c) ?_ ?_
  ·intro N hN
   refine ⟨a,b,c,(rs.length:Int),by rw [<- List.length_map (f:=wnD) (as:=rs)]; rfl,ha,hb,hc,by omega,by omega,fun u a1 b1 c1 _ u0 u1 ha1 hb1 hc1=>?_⟩
   obtain ⟨j,rfl⟩:=Int.eq_ofNat_of_zero_le u0
   have hj:j < rs.length:=by omega
   exact ⟨wnD rs[j],atI_nat (by rw [List.getElem?_map,List.getElem?_eq_getElem hj]; rfl),rfl,hN _ ⟨rs[j].2,rs[j].1,a1,b1,c1,rfl,hrs rs[j] (List.getElem_mem hj),ha1,hb1,hc1⟩⟩
  clear ha hb hc
  rintro _ ⟨r,⟨b1,o⟩,a,b,c,rfl,hgo,ha,hb,hc⟩
  have hRo:=p.go_rt hR hgo
  obtain ⟨hrl,hol⟩:=p.go_le hgo
  have hpz:=p.szl
  have hoz:=o.sz1
  have ho1:=o.lv1
  have hol:r.length + o.lv <= p.lv:=hol
  have hr37:r.length <= 37:=by omega
  have fin:∀ (f:Tr) (a b c:Int) (e:Ev),Frs sd cl b1 o.lv f -> 0 <= a -> 0 <= b -> 0 <= c -> Qd (.fz (tD (putT p r f))) (some (.io (penD a b c)) :: e):=fun f a b c e h1 h2 h3 h4=>q _ a b c e (put_bad hR.sm hlv hgo h1) h2 h3 h4
  with_reducible refine cutS (fun ρ=>∃ (wy a b c:Int),ρ = [some (.io (penD a b c)),some (.fz (boxD bx)),some (.fz (pD p)),some (.ow (.list (rs.map wnD))),some (.fz (boxD b1)),some (.fz (pD o)),some (.fz (tupD r)),some (.fz (.int wy)),none] /\ 0 <= a /\ 0 <= b /\ 0 <= c) ?_ ?_
  ·intro N hN
   exact ⟨a,b,c,_,rfl,ha,hb,hc,by decide,by decide,fun u a1 b1 c1 _ u0 u1 ha1 hb1 hc1=>hN _ ⟨u,a1,b1,c1,rfl,ha1,hb1,hc1⟩⟩
  clear ha hb hc
  rintro _ ⟨wy,a,b,c,rfl,ha,hb,hc⟩
  with_reducible refine cutS (fun ρ=>ρ = [some (.io (penD a b c)),some (.fz (boxD bx)),some (.fz (pD p)),some (.ow (.list (rs.map wnD))),some (.fz (boxD b1)),some (.fz (pD o)),some (.fz (tupD r)),some (.fz (.int wy)),none]) ?_ ?_
  ·intro N hN
   refine ite2 (fun _=>?_) (fun _=>hN _ rfl)
   exact ⟨a,b,c,o,rfl,ha,hb,hc,hRo.sm,by omega,fun f a2 b2 c2 _ hf ha2 hb2 hc2=>⟨p,f,bx,(b1,o),r,rfl,hgo,hr37,by decide,fun e=>fin f a2 b2 c2 _ (hf _ _ _) ha2 hb2 hc2⟩⟩
  rintro _ rfl
  with_reducible refine cutS (fun ρ=>ρ = [some (.io (penD a b c)),some (.fz (boxD bx)),some (.fz (pD p)),some (.ow (.list (rs.map wnD))),some (.fz (boxD b1)),some (.fz (pD o)),some (.fz (tupD r)),some (.fz (.int wy)),none]) ?_ ?_
  ·intro N hN
   refine ite2 (fun _=>?_) (fun _=>hN _ rfl)
   clear hN
   obtain ⟨t,l,h,ecl⟩:=cl_is o
   obtain ⟨z,rr,eo,hr4,hre⟩:=re_D ecl
   rw [eo]
   with_reducible refine cutS (fun ρ=>∃ (t' l' h' a b c:Int),ρ = [some (.io (penD a b c)),some (.fz (boxD bx)),some (.fz (pD p)),some (.ow (.list (rs.map wnD))),some (.fz (boxD b1)),some (.fz (.tuple (.str z :: tupD [t,l,h] :: rr))),some (.fz (tupD r)),some (.fz (.int wy)),some (.fz (.tuple (.str z :: tupD [t',l',h'] :: rr)))] /\ Bent t l h t' l' h' /\ 0 <= a /\ 0 <= b /\ 0 <= c) ?_ ?_
   ·intro N2 hN2
    refine ⟨_,atI_nat (j:=0) rfl,_,atI_nat (j:=1) rfl,a,b,c,t,l,h,rfl,ha,hb,hc,fun t' l' h' a2 b2 c2 _ hB ha2 hb2 hc2=>?_⟩
    exact ⟨by decide,le_size (by simp; omega),hN2 _ ⟨t',l',h',a2,b2,c2,rfl,hB,ha2,hb2,hc2⟩⟩
   clear ha hb hc
   rintro _ ⟨t',l',h',a,b,c,rfl,hB,ha,hb,hc⟩
   obtain ⟨r1,r2,r3⟩:=re_facts hRo.sm ecl hB
   have hre:=hre t' l' h'
   have wth:∀ (a b c:Int) (e:Ev),0 <= a -> 0 <= b -> 0 <= c -> Qd (.fz (tD (putT p r (pT (o.re t' l' h'))))) (some (.io (penD a b c)) :: e):=fun a b c e=>fin _ a b c e (re_frs hRo (by omega) ecl hB)
   have rcc:[Sl.fz (pD p),.fz (tupD r),.fz (.tuple (.str z :: tupD [t',l',h'] :: rr))] = [.fz (pD p),.fz (tupD r),.fz (tD (pT (o.re t' l' h')))]:=by rw [tD_pT,hre]
   have rea:[Sl.fz (pD p),.fz (tupD r),.fz (.tuple (.str z :: tupD [t',l',h'] :: rr))] = [.fz (pD p),.fz (tupD r),.fz (pD (o.re t' l' h'))]:=by rw [hre]
   with_reducible refine cutS (fun ρ=>∃ (a b c:Int),ρ = [some (.io (penD a b c)),some (.fz (boxD bx)),some (.fz (pD p)),some (.ow (.list (rs.map wnD))),some (.fz (boxD b1)),some (.fz (.tuple (.str z :: tupD [t,l,h] :: rr))),some (.fz (tupD r)),some (.fz (.int wy)),some (.fz (.tuple (.str z :: tupD [t',l',h'] :: rr)))] /\ 0 <= a /\ 0 <= b /\ 0 <= c) ?_ ?_
   ·intro N2 hN2
    refine ⟨a,b,c,_,rfl,ha,hb,hc,by decide,by decide,fun u a1 b1' c1 _ u0 u1 ha1 hb1 hc1=>?_⟩
    refine ite2 (fun _=>?_) (fun _=>hN2 _ ⟨a1,b1',c1,rfl,ha1,hb1,hc1⟩)
    refine ⟨_,atI_nat (j:=1) rfl,_,rfl,_,atI_nat (j:=1) rfl,_,rfl,ite2 (fun h5=>?_) (fun _=>hN2 _ ⟨a1,b1',c1,rfl,ha1,hb1,hc1⟩)⟩
    refine ⟨p,o.re t' l' h',bx,(b1,o),r,rea,hgo,hr37,by decide,fun e=>?_⟩
    have qa:∀ e:Ev,Qd (.fz (pD (anP p r (o.re t' l' h')))) (some (.io (penD a1 b1' c1)) :: e):=fun e=>by
     have:=q (pT (anP p r (o.re t' l' h'))) a1 b1' c1 e (an_bad hR hlv hgo (re_no hRo ecl hB) r2 r1 r3) ha1 hb1 hc1
     rw [tD_pT] at this
     exact this
    exact qa _
   clear ha hb hc
   rintro _ ⟨a,b,c,rfl,ha,hb,hc⟩
   exact ⟨p,pT (o.re t' l' h'),bx,(b1,o),r,rcc,hgo,hr37,by decide,fun e=>wth a b c _ ha hb hc⟩
  rintro _ rfl
  cases o with
  | cell t l h =>
   refine ⟨_,rfl,?_⟩
   exact ⟨a,b,c,sd,cl,b1,t,l,h,rfl,ha,hb,hc,hsd,hRo,fun f a2 b2 c2 _ hf ha2 hb2 hc2=>⟨p,f,bx,_,r,rfl,hgo,hr37,by decide,fun e=>fin f a2 b2 c2 _ hf ha2 hb2 hc2⟩⟩
  | cut t l h wy2 at_ p1 p2 =>
   refine ⟨_,rfl,?_⟩
   exact ⟨a,b,c,sd,cl,b1,t,l,h,wy2,at_,p1,p2,rfl,ha,hb,hc,hsd,hRo,by omega,fun f a2 b2 c2 _ hf ha2 hb2 hc2=>⟨p,f,bx,_,r,rfl,hgo,hr37,by decide,fun e=>fin f a2 b2 c2 _ hf ha2 hb2 hc2⟩⟩
structure CalsEv (P:Program) (w:World) (K:PySem.W.Frag) (mg:Str -> Option Value) (base:Heap):Prop where
 law_within:Cal P w K mg base 2 "_law_within" ["_law_box_here","_law_paper_here"] (conSp K cWn)
 law_with:Cal P w K mg base 38 "_law_with" ["_law_paper_here","_law_road","_law_fresh"] (conSp K (cWi 38))
 holds_paper:Cal P w K mg base 7 "holds_paper" ["field","box","thing"] (conSp K cHP)
noncomputable def cEv:Con:=fun args Q=>∃ (sd cl:List Int) (bx:Bxx) (p:Pp),args = [.fz (fldD sd cl),.fz (boxD bx),.fz (pD p)] /\ Sd sd /\ cl.length = (plc sd).length /\ Rt sd cl bx p /\ p.lv <= 24 /\ ∀ o,Q (.fz (.bool true)) o
theorem scEv:FnScope ["_law_made","_law_box_here","_law_paper_here","_law_here","_law_one","_law_road","_law_claim","_law_some","_law_bent"] ["_law_made","_law_box_here","_law_paper_here"] (defScope (top 55)):=⟨rfl,rfl,rfl,by decide +kernel,rfl,by decide +kernel,by decide +kernel⟩
theorem ok_ev {f:Addr} {fd:FuncData} (F:Fun K "_law_every_one" "_law_every_one" (top 55) f fd) (T:Txt mg) (C:CalsEv P w K mg base):FnOk P w K mg base CX0 39 f fd ["_law_made","_law_box_here","_law_paper_here"] (conSp K cEv):=by
 have S:=scEv
 refine wfn F S (fun cdv A outer s H E hr=>(s_cons (s_for [3,4,5,6,7,8] PassesOwn.never rfl (i_seq rfl (w_fn C.law_within (hr.mono (by first | decide | omega)) (wa_cons (wn 1) (wa_cons (wn 2) wa_nil)))) (g_tup rfl rfl (gs_cons (g_name (i:=3) S.nd rfl (Or.inl rfl)) (gs_cons (g_name (i:=4) S.nd rfl (Or.inl rfl)) (gs_cons (g_name (i:=5) S.nd rfl (Or.inl rfl)) gs_nil)))) (s_cons (s_set (i:=6) S.nd rfl (Or.inl rfl) (w_ix rfl (wn 4) (wx w_int)))
     (s_cons (s_set (i:=7) S.nd rfl (Or.inl rfl) (w_lst (wa_cons (wx (w_bin ok_add op_addD (wx (w_tup (wa_cons (wx (w_bin ok_add op_addD (wx (w_ix rfl (wn 6) (wx w_int))) (wx w_int))) wa_nil))) (wx (w_sl1T rfl (wn 6) (wx w_int))))) (wa_cons (wx (w_bin ok_add op_addD (wx (w_tup (wa_cons (wx (w_bin ok_sub op_sub (wx (w_ix rfl (wn 6) (wx w_int))) (wx w_int))) wa_nil))) (wx (w_sl1T rfl (wn 6) (wx w_int))))) (wa_cons (wx (w_tup (wa_cons (wx (w_ix rfl (wn 6) (wx w_int))) (wa_cons (wx (w_bin ok_add op_addD (wx (w_ix rfl (wn 6) (wx w_int))) (wx w_int))) (wa_cons (wx (w_ix rfl (wn 6) (wx w_int))) wa_nil))))) wa_nil)))))
     (s_one (s_for [8] PassesOwn.never rfl (i_seq rfl (w_bin ok_add op_addD (wn 7) (wx (w_lst (wa_cons (wx (w_tup (wa_cons (wx (w_ix rfl (wn 6) (wx w_int))) (wa_cons (wx (w_ix rfl (wn 6) (wx w_int))) (wa_cons (wx (w_bin ok_sub op_sub (wx (w_ix rfl (wn 6) (wx w_int))) (wx w_int))) wa_nil))))) wa_nil))))) (g_name (i:=8) S.nd rfl (Or.inl rfl)) (s_one (s_if (t_cmp ok_isnB op_isnotB (wx (w_fn C.holds_paper (hr.mono (by first | decide | omega)) (wa_cons (wn 0) (wa_cons (wn 1) (wa_cons (wx (w_fn C.law_with (hr.mono (by first | decide | omega)) (wa_cons (wn 2) (wa_cons (wn 5) (wa_cons (wx (w_bin ok_add op_addD (wx (w_tup (wa_cons (wx (w_ix rfl (wn 4) (wx w_int))) (wa_cons (wx (wv 8)) wa_nil)))) (wx (w_sl1T rfl (wn 4) (wx w_int))))) wa_nil))))) wa_nil))))) (wx w_bl)) (s_one (s_ret w_bl)) s_nil)))))))
     (s_one (s_ret w_bl)))) ?_ ?_
 ·rintro args Qd ⟨sd,cl,bx,p,rfl,_⟩; rfl
 ·rintro args Qd ⟨sd,cl,bx,p,rfl,hsd,hcl,hR,hlv,q⟩
  refine ⟨noOw_of rfl,?_⟩
  refine ⟨sd,cl,bx,p,rfl,hsd,hR,hlv,fun rs o h1 h2 h3=>?_⟩
  refine loopC (fun rest ρ=>∃ (ws:List Wn),rest = ws.map wnD /\ ρ = [some (.fz (fldD sd cl)),some (.fz (boxD bx)),some (.fz (pD p)),none,none,none,none,none,none] /\ ∀ z ∈ ws,p.go bx z.2 = some z.1) ?_ ?_ ⟨rs,rfl,rfl,h3⟩
  ·rintro d ds ρ ⟨ws,er,rfl,hws⟩ M hM
   cases ws with
   | nil=>cases er
   | cons z ws =>
    cases er
    obtain ⟨⟨b1,o⟩,r⟩:=z
    have hgo:p.go bx r = some (b1,o):=hws ((b1,o),r) List.mem_cons_self
    have hws':∀ z ∈ ws,p.go bx z.2 = some z.1:=fun z hz=>hws z (List.mem_cons_of_mem _ hz)
    have hRo:=p.go_rt hR hgo
    obtain ⟨_,hol⟩:=p.go_le hgo
    have hol:r.length + o.lv <= p.lv:=hol
    have ho1:=o.lv1
    have hr37:r.length <= 37:=by omega
    obtain ⟨t,l,h,ecl⟩:=cl_is o
    obtain ⟨z,rr,eo,hr4,hre⟩:=re_D ecl
    show dGT _ (.tuple [boxD b1,pD o,tupD r]) _ _
    rw [eo]
    refine ⟨rfl,?_⟩
    with_reducible refine gsC (ρ':=[some (.fz (fldD sd cl)),some (.fz (boxD bx)),some (.fz (pD p)),some (.fz (boxD b1)),some (.fz (.tuple (.str z :: tupD [t,l,h] :: rr))),some (.fz (tupD r)),none,none,none]) rfl ?_
    with_reducible refine cutS (fun ρ=>ρ = [some (.fz (fldD sd cl)),some (.fz (boxD bx)),some (.fz (pD p)),some (.fz (boxD b1)),some (.fz (.tuple (.str z :: tupD [t,l,h] :: rr))),some (.fz (tupD r)),some (.fz (tupD [t,l,h])),none,none]) ?_ ?_
    ·intro N hN
     exact ⟨_,atI_nat (j:=1) rfl,hN _ rfl⟩
    rintro _ rfl
    with_reducible refine cutS (fun ρ=>ρ = [some (.fz (fldD sd cl)),some (.fz (boxD bx)),some (.fz (pD p)),some (.fz (boxD b1)),some (.fz (.tuple (.str z :: tupD [t,l,h] :: rr))),some (.fz (tupD r)),some (.fz (tupD [t,l,h])),some (.ow (.list [tupD [t + 1,l,h],tupD [t - 1,l,h],tupD [t,l + 1,h]])),none]) ?_ ?_
    ·intro N hN
     exact ⟨_,rfl,by decide,le_size (by simp),_,rfl,by decide,le_size (by simp),_,rfl,_,rfl,_,rfl,hN _ rfl⟩
    rintro _ rfl
    refine ⟨_,rfl,_,rfl,_,rfl,le_size (by simp),?_⟩
    refine loopC (fun rest ρ=>∃ (bs:List (Int × Int × Int)) (x:Option Sl),rest = bs.map (fun z=>tupD [z.1,z.2.1,z.2.2]) /\ ρ = [some (.fz (fldD sd cl)),some (.fz (boxD bx)),some (.fz (pD p)),some (.fz (boxD b1)),some (.fz (.tuple (.str z :: tupD [t,l,h] :: rr))),some (.fz (tupD r)),some (.fz (tupD [t,l,h])),x,none] /\ x = some (.ow (.list [tupD [t + 1,l,h],tupD [t - 1,l,h],tupD [t,l + 1,h]])) /\ ∀ z ∈ bs,Bent t l h z.1 z.2.1 z.2.2) ?_ ?_ ⟨[(t + 1,l,h),(t - 1,l,h),(t,l + 1,h),(t,l,h - 1)],_,rfl,rfl,rfl,?_⟩
    rotate_right
    ·intro z hz
     have hz:z = (t + 1,l,h) \/ z = (t - 1,l,h) \/ z = (t,l + 1,h) \/ z = (t,l,h - 1):=by simpa using hz
     rcases hz with rfl | rfl | rfl | rfl
     ·exact ⟨⟨by show (t + 1 - t).natAbs <= 3; omega,by simp,by simp⟩,.inl (by show t + 1 ≠ t; omega)⟩
     ·exact ⟨⟨by show (t - 1 - t).natAbs <= 3; omega,by simp,by simp⟩,.inl (by show t - 1 ≠ t; omega)⟩
     ·exact ⟨⟨by simp,by show (l + 1 - l).natAbs <= 3; omega,by simp⟩,.inr (.inl (by show l < l + 1; omega))⟩
     ·exact ⟨⟨by simp,by simp,by show (h - 1 - h).natAbs <= 3; omega⟩,.inr (.inr (by show h - 1 < h; omega))⟩
    ·rintro d2 ds2 ρ ⟨bs,_,er,rfl,rfl,hbs⟩ M2 hM2
     cases bs with
     | nil=>cases er
     | cons y bs =>
      cases er
      obtain ⟨t',l',h'⟩:=y
      have hB:Bent t l h t' l' h':=hbs (t',l',h') List.mem_cons_self
      have hbs':∀ z ∈ bs,Bent t l h z.1 z.2.1 z.2.2:=fun z hz=>hbs z (List.mem_cons_of_mem _ hz)
      have rcc:[Sl.fz (pD p),.fz (tupD r),.fz (.tuple (.str z :: tupD [t',l',h'] :: rr))] = [.fz (pD p),.fz (tupD r),.fz (tD (pT (o.re t' l' h')))]:=by rw [tD_pT,hre]
      have hbad:=put_bad hR.sm hlv hgo (re_frs hRo (by omega) ecl hB)
      refine ⟨_,atI_nat (j:=0) rfl,by decide,le_size (by simp; omega),p,pT (o.re t' l' h'),bx,(b1,o),r,rcc,hgo,hr37,by decide,fun e=>?_⟩
      have h110:=hbad.sz
      refine ⟨sd,cl,bx,_,rfl,hsd,hcl,hR.bx,hbad.wf,Nat.le_trans h110 (by decide),fun e=>?_⟩
      rw [hbad.no]
      exact hM2 _ ⟨bs,_,rfl,rfl,rfl,hbs'⟩
    ·rintro ρ ⟨bs,_,er,rfl,rfl,hbs⟩
     exact hM _ ⟨ws,rfl,rfl,hws'⟩
  ·rintro ρ ⟨ws,er,rfl,hws⟩
   exact q _
end
end R76
namespace R76
open PySem PySem.Spec L2 L3 PyProof.Rows
theorem rep_flat (x:Int):∀ n:Nat,(List.replicate n [PyData.int x]).flatten = (List.replicate n x).map PyData.int
 | 0=>rfl
 | n + 1=>by rw [List.replicate_succ,List.flatten_cons,rep_flat x n,List.replicate_succ]; rfl
theorem bx_whole:∀ {sd:List Int},(∀ c ∈ sd,1 <= c) -> Bx (List.replicate sd.length 0) (sd.map fun s=>s - 1) sd
 | [],_=>trivial
 | s :: sd,h=>by
  have h1:=h s (by simp)
  exact ⟨⟨by decide,by show 0 <= s - 1; omega,by show s - 1 < s; omega⟩,bx_whole fun c hc=>h c (by simp [hc])⟩
theorem prodI_ones:∀ n:Nat,prodI (List.replicate n 1) = 1
 | 0=>rfl
 | n + 1=>by
  have:=prodI_ones n
  show 1 * prodI (List.replicate n 1) = 1
  rw [this]; rfl
theorem sd_two {sd:List Int} (h:Sd sd) (e:sd = List.replicate sd.length 1):Sd (sd.dropLast ++ [2]) /\ prodI (sd.dropLast ++ [2]) <= 24:=by
 have h1:=h.l1
 have h3:=h.l3
 have ed:sd.dropLast = List.replicate (sd.length - 1) 1:=by
  rw [e,List.dropLast_replicate,List.length_replicate]
 have ep:prodI (sd.dropLast ++ [2]) = 2:=by rw [prodI_append,ed,prodI_ones]; rfl
 refine ⟨⟨by simp,by simp; omega,fun c hc=>?_,by rw [ep]; decide⟩,by rw [ep]; decide⟩
 rcases List.mem_append.mp hc with hc | hc
 ·exact h.p c (List.dropLast_subset _ hc)
 ·rw [List.mem_singleton.mp hc]; decide
section
variable {P:Program} {w:World} {K:PySem.W.Frag} {mg:Str -> Option Value} {base:Heap}
structure CalsL (P:Program) (w:World) (K:PySem.W.Frag) (mg:Str -> Option Value) (base:Heap):Prop where
 law_pen:Cal P w K mg base 1 "_law_pen" ["_law_script","_law_k"] (conSp K cPen)
 law_sides:Cal P w K mg base 2 "_law_sides" ["_law_pen_here","_law_most"] (conSp K cSides)
 law_places:Cal P w K mg base 1 "_law_places" ["_law_sides_here"] (conSp K cPlaces)
 law_number:Cal P w K mg base 2 "_law_number" ["_law_pen_here"] (conSp K cNumber)
 field_of:Cal P w K mg base 4 "field_of" ["sides","cells"] (conSp K cFO)
 law_box:Cal P w K mg base 2 "_law_box" ["_law_pen_here","_law_sides_here"] (conSp K cBox)
 law_paper:Cal P w K mg base 34 "_law_paper" ["_law_pen_here","_law_sides_here","_law_numbers","_law_box_here","_law_much"] (conSp K (cPap 31))
 law_spoilt:Cal P w K mg base 39 "_law_spoilt" ["_law_pen_here","_law_box_here","_law_paper_here"] (conSp K cSp)
 holds_paper:Cal P w K mg base 7 "holds_paper" ["field","box","thing"] (conSp K cHP)
 law_every_one:Cal P w K mg base 39 "_law_every_one" ["_law_made","_law_box_here","_law_paper_here"] (conSp K cEv)
noncomputable def cLaw:Con:=fun args Q=>∃ ns:List Int,args = [.fz (scrD ns)] /\ ns.length <= 63 /\ ∀ o,Q (.fz (.bool true)) o
theorem cLaw_sp {K:PySem.W.Frag} {H:Hp} {a:Addr} {ns:List Int} (hl:ns.length <= 63) (h:SqL K H a (ns.map V.int)):conSp K cLaw [.ref a] H (fun v _=>v = .bl true) fun _ _ _=>False:=by
 refine ⟨⟨H,H,fun _=>none⟩,H,[.fz (scrD ns)],fun r _=>r = .fz (.bool true),?_,⟨ns,rfl,hl,fun _=>rfl⟩,?_⟩
 ·refine ⟨rfl,Sub.refl _,Sub.refl _,fun a o h=>.inl h,fun a o h _=>h,?_,?_,?_,?_,?_,?_⟩
  ·intro i d e
   cases i with
   | zero=>cases e; exact ⟨_,rfl,.scr h⟩
   | succ i=>cases e
  ·intro i s e w
   cases i with
   | zero=>cases e; cases w
   | succ i=>cases e
  ·intro i d a e
   cases i with
   | zero=>cases e
   | succ i=>cases e
  ·intro i a e; cases e
  ·intro i d e
   cases i with
   | zero=>cases e
   | succ i=>cases e
  ·intro i j s t a e w
   cases i with
   | zero=>cases e; cases w
   | succ i=>cases e
 ·intro v H' F' r ρ' _ _ hr e
  subst e
  have hr:Da K F' v (.bool true):=hr
  cases hr
  rfl
theorem scLaw:FnScope ["_law_script","_law_k","_law_pen_here","_law_sides_here","_law_numbers","_law_made","_law_box_here","_law_paper_here","_law_turn","_law_thing","_law_shown"] ["_law_script"] (defScope (top 56)):=⟨rfl,rfl,rfl,by decide +kernel,rfl,by decide +kernel,by decide +kernel⟩
theorem ok_law {f:Addr} {fd:FuncData} (F:Fun K "law" "law" (top 56) f fd) (T:Txt mg) (C:CalsL P w K mg base):FnOk P w K mg base CX0 40 f fd ["_law_script"] (conSp K cLaw):=by
 have S:=scLaw
 refine wfn F S (fun cdv A outer s H E hr=>(s_cons (s_for [1,2,3,4,5,6,7,8] PassesOwn.never rfl (i_rng1 T.range_ (wa_cons (wx (w_callB ok_2I (call_max2 rfl) T.max_ boot_max (wa_cons (wx w_int) (wa_cons (wx (w_callB ok_2I (call_min2 rfl) T.min_ boot_min (wa_cons (wx w_int) (wa_cons (wx (w_callB ok_len (call_lenK (K:=K) rfl) T.len_ PySem.boot_len (wa_cons (wn 0) wa_nil))) wa_nil)))) wa_nil)))) wa_nil)) (g_name (i:=1) S.nd rfl (Or.inl rfl)) (s_cons (s_set (i:=2) S.nd rfl (Or.inr rfl) (w_fn C.law_pen (hr.mono (by first | decide | omega)) (wa_cons (wn 0) (wa_cons (wn 1) wa_nil))))
     (s_cons (s_set (i:=3) S.nd rfl (Or.inl rfl) (w_fnI C.law_sides (hr.mono (by first | decide | omega)) (wa_cons (wn 2) (wa_cons (wx w_int) wa_nil))))
     (s_cons (s_if (t_cmp ok_eq (op_eqE (K:=K) rfl hr.units) (wn 3) (wx (w_bin ok_repA op_repA (wx (w_tup (wa_cons (wx w_int) wa_nil))) (wx (w_callB ok_len (call_lenK (K:=K) rfl) T.len_ PySem.boot_len (wa_cons (wn 3) wa_nil)))))) (s_one (s_set (i:=3) S.nd rfl (Or.inl rfl) (w_bin ok_add op_addD (wx (w_slHi rfl (wn 3) (wx (w_neg (wx w_int))))) (wx (w_tup (wa_cons (wx w_int) wa_nil)))))) s_nil)
     (s_cons (s_setC (i:=4) S.nd rfl rfl rfl (own:=["_law_place"]) (fr:=[2]) (by kernel_rfl) (i_seq rfl (w_fn C.law_places (hr.mono (by first | decide | omega)) (wa_cons (wn 3) wa_nil))) (fun _ _ _ _=>(g_name (i:=0) (by decide +kernel:List.Nodup (["_law_place","_law_pen_here"]:List Str)) rfl (Or.inl rfl))) (fun _ _ _ _=>if0) (fun _ _ _ _=>(w_fnI C.law_number (hr.mono (by first | decide | omega)) (wa_cons (wn 1) wa_nil))))
     (s_cons (s_set (i:=5) S.nd rfl (Or.inl rfl) (w_fn C.field_of (hr.mono (by first | decide | omega)) (wa_cons (wx (wv 3)) (wa_cons (wx (wv 4)) wa_nil))))
     (s_cons (s_set (i:=6) S.nd rfl (Or.inl rfl) (w_fnI C.law_box (hr.mono (by first | decide | omega)) (wa_cons (wn 2) (wa_cons (wn 3) wa_nil))))
     (s_cons (s_if (t_cmp ok_eq (op_eqE (K:=K) rfl hr.units) (wx (w_ix rfl (wn 6) (wx w_int))) (wx (w_ix rfl (wn 6) (wx w_int)))) (s_one (s_set (i:=6) S.nd rfl (Or.inl rfl) (w_tup (wa_cons (wx (w_bin ok_repA op_repA (wx (w_tup (wa_cons (wx w_int) wa_nil))) (wx (w_callB ok_len (call_lenK (K:=K) rfl) T.len_ PySem.boot_len (wa_cons (wn 3) wa_nil))))) (wa_cons (wx (w_callT ok_tuple (call_tupleK (K:=K) rfl) T.tuple_ boot_tuple (wa_cons (wx (w_comp rfl (own:=["_law_side"]) (fr:=[]) (by kernel_rfl) (i_seq rfl (wv 3)) (fun _ _ _ _=>(g_name (i:=0) (by decide +kernel:List.Nodup (["_law_side"]:List Str)) rfl (Or.inl rfl))) (fun _ _ _ _=>if0) (fun _ _ _ _=>(w_bin ok_sub op_sub (wn 0) (wx w_int))))) wa_nil))) wa_nil))))) s_nil)
     (s_cons (s_set (i:=7) S.nd rfl (Or.inl rfl) (w_fnI C.law_paper (hr.mono (by first | decide | omega)) (wa_cons (wn 2) (wa_cons (wn 3) (wa_cons (wn 4) (wa_cons (wn 6) (wa_cons (wx w_bl) wa_nil)))))))
     (s_cons (s_for [8,9,10] PassesOwn.never rfl (i_rng1 T.range_ (wa_cons (wx w_int) wa_nil)) (g_name (i:=8) S.nd rfl (Or.inl rfl)) (s_cons (s_set (i:=9) S.nd rfl (Or.inl rfl) (w_fnI C.law_spoilt (hr.mono (by first | decide | omega)) (wa_cons (wn 2) (wa_cons (wn 6) (wa_cons (wn 7) wa_nil)))))
     (s_cons (s_set (i:=10) S.nd rfl (Or.inl rfl) (w_callB ok_reprY (call_reprY (K:=K) rfl hr) T.repr_ boot_repr (wa_cons (wn 9) wa_nil)))
     (s_one (s_if (t_w (t_or (t_cmp ok_isnB op_isnotB (wx (w_fn C.holds_paper (hr.mono (by first | decide | omega)) (wa_cons (wn 5) (wa_cons (wn 6) (wa_cons (wn 9) wa_nil))))) (wx w_bl)) (t_or1 (t_cmp ok_ne (op_neE (K:=K) rfl hr.units) (wx (w_callB ok_reprY (call_reprY (K:=K) rfl hr) T.repr_ boot_repr (wa_cons (wn 9) wa_nil))) (wn 10))))) (s_one (s_ret w_bl)) s_nil)))))
     (s_one (s_if (t_w (t_or (t_cmp ok_isnB op_isnotB (wx (w_fn C.holds_paper (hr.mono (by first | decide | omega)) (wa_cons (wn 5) (wa_cons (wn 6) (wa_cons (wn 7) wa_nil))))) (wx w_bl)) (t_or1 (t_not (t_val (w_fn C.law_every_one (hr.mono (by first | decide | omega)) (wa_cons (wn 5) (wa_cons (wn 6) (wa_cons (wn 7) wa_nil))))))))) (s_one (s_ret w_bl)) s_nil))))))))))))
     (s_one (s_ret w_bl)))) ?_ ?_
 ·rintro args Qd ⟨ns,rfl,_⟩; rfl
 ·rintro args Qd ⟨ns,rfl,hns,q⟩
  refine ⟨noOw_of rfl,?_⟩
  have hmx:∀ k:Int,0 <= k -> 3 <= (if (if k < 6 then k else 6) > 3 then (if k < 6 then k else 6) else 3) /\ (if (if k < 6 then k else 6) > 3 then (if k < 6 then k else 6) else 3) <= 6:=fun k hk=>by split <;> split at * <;> omega
  have hm:=hmx ns.length (by omega)
  refine ⟨ns,rfl,?_⟩
  refine ⟨by omega,by omega,?_⟩
  generalize hrg:rangeD 0 (if (if ((ns.length:Nat):Int) < 6 then ((ns.length:Nat):Int) else 6) > 3 then (if ((ns.length:Nat):Int) < 6 then ((ns.length:Nat):Int) else 6) else 3).toNat = rg
  have hrg2:∀ d ∈ rg,∃ k:Int,d = .int k /\ 0 <= k /\ k <= 1000:=fun d hd=>by
   rw [<- hrg,rangeD] at hd
   obtain ⟨k,hk,rfl⟩:=List.mem_map.mp hd
   have:=List.mem_range.mp hk
   exact ⟨_,rfl,by omega,by omega⟩
  refine loopC (fun rest ρ=>ρ = [some (.fz (scrD ns)),none,none,none,none,none,none,none,none,none,none] /\ ∀ d ∈ rest,∃ k:Int,d = .int k /\ 0 <= k /\ k <= 1000) ?_ ?_ ⟨rfl,hrg2⟩
  ·rintro d ds ρ ⟨rfl,hr⟩ M hM
   obtain ⟨k,rfl,hk0,hk1⟩:=hr d List.mem_cons_self
   have hr':∀ d ∈ ds,∃ k:Int,d = .int k /\ 0 <= k /\ k <= 1000:=fun d hd=>hr d (List.mem_cons_of_mem _ hd)
   with_reducible refine gnC rfl ?_
   with_reducible refine cutS (fun ρ=>∃ a' b' c':Int,ρ = [some (.fz (scrD ns)),some (.fz (.int k)),some (.ow (penD a' b' c')),none,none,none,none,none,none,none,none] /\ 0 <= a' /\ 0 <= b' /\ 0 <= c') ?_ ?_
   ·intro N hN
    exact ⟨ns,k,rfl,hk0,hk1,fun a b _ ha hb=>hN _ ⟨a,b,0,rfl,ha,hb,by decide⟩⟩
   rintro _ ⟨a1,b1,c1,rfl,ha1,hb1,hc1⟩
   with_reducible refine cutS (fun ρ=>∃ (sd:List Int) (a' b' c':Int),ρ = [some (.fz (scrD ns)),some (.fz (.int k)),some (.ow (penD a' b' c')),some (.fz (tupD sd)),none,none,none,none,none,none,none] /\ Sd sd /\ prodI sd <= 24 /\ 0 <= a' /\ 0 <= b' /\ 0 <= c') ?_ ?_
   ·intro N hN
    exact ⟨a1,b1,c1,24,rfl,ha1,hb1,hc1,by decide,by decide,fun sd a b c _ h1 h2 ha hb hc=>hN _ ⟨sd,a,b,c,rfl,h1,h2,ha,hb,hc⟩⟩
   rintro _ ⟨sd0,a2,b2,c2,rfl,hsd0,h24,ha2,hb2,hc2⟩
   with_reducible refine cutS (fun ρ=>∃ (sd:List Int),ρ = [some (.fz (scrD ns)),some (.fz (.int k)),some (.ow (penD a2 b2 c2)),some (.fz (tupD sd)),none,none,none,none,none,none,none] /\ Sd sd /\ prodI sd <= 24) ?_ ?_
   ·intro N hN
    have l1:=hsd0.l1
    have l3:=hsd0.l3
    have er:(List.replicate ((((sd0.map PyData.int).length:Nat):Int).toNat) [PyData.int 1]).flatten = (List.replicate sd0.length 1).map PyData.int:=by rw [Int.toNat_natCast,List.length_map,rep_flat]
    have n1:=Nice.tup sd0
    have n2:=Nice.tup (List.replicate sd0.length 1)
    have hlm:(sd0.map PyData.int).length = sd0.length:=List.length_map _
    have hX:∀ P:PyData -> Prop,P (tupD (List.replicate sd0.length 1)) -> P (.tuple (List.replicate ((((sd0.map PyData.int).length:Nat):Int).toNat) [PyData.int 1]).flatten):=fun P h=>by rw [er]; exact h
    refine ⟨by simp,by rw [hlm]; omega,by rw [hlm]; omega,le_size (by rw [hlm]; simp; omega),n1.p,hX (fun y=>plainD y = true) n2.p,n1.sh (by decide),hX (fun y=>SeqAt.shaped y = true) (n2.sh (by decide)),hX (fun y=>SeqAt.noMix (tupD sd0) y = true) (mix_tup _ _),ite2 (fun h=>?_) (fun h=>hN _ ⟨sd0,rfl,hsd0,h24⟩)⟩
    have h:same (tupD sd0) (.tuple (List.replicate ((((sd0.map PyData.int).length:Nat):Int).toNat) [PyData.int 1]).flatten) = true:=h
    rw [er,same_tup] at h
    obtain ⟨s1,s2⟩:=sd_two hsd0 (of_decide_eq_true h)
    have et:tupD (sd0.dropLast ++ [2]) = .tuple ((sd0.map PyData.int).take ((-1 + (((sd0.map PyData.int).length:Nat):Int)).toNat) ++ [PyData.int 2]):=by
     show PyData.tuple ((sd0.dropLast ++ [2]).map PyData.int) = _
     rw [hlm,List.map_append,List.map_dropLast,List.dropLast_eq_take,hlm,show (-1 + (sd0.length:Int)).toNat = sd0.length - 1 by omega]
     rfl
    exact ⟨by show 1 <= (sd0.map PyData.int).length; omega,le_size (by simp; omega),hN _ ⟨sd0.dropLast ++ [2],by rw [et]; rfl,s1,s2⟩⟩
   clear hsd0 h24
   rintro _ ⟨sd,rfl,hsd,h24⟩
   have hpl:=plc_len hsd.p
   have hsm:=hsd.m
   have l1:=hsd.l1
   have l3:=hsd.l3
   with_reducible refine cutS (fun ρ=>∃ (cl:List Int) (a' b' c':Int),ρ = [some (.fz (scrD ns)),some (.fz (.int k)),some (.ow (penD a' b' c')),some (.fz (tupD sd)),some (.ow (liD cl)),none,none,none,none,none,none] /\ cl.length = (plc sd).length /\ (∀ x ∈ cl,Big x) /\ 0 <= a' /\ 0 <= b' /\ 0 <= c') ?_ ?_
   ·intro N hN
    refine ⟨sd,rfl,hsd,fun o=>?_⟩
    refine ⟨by rw [List.length_map]; exact le_size (by omega),compN (fun rest acc τ=>∃ (cs:List Int) (a4 b4 c4:Int),τ = [none,some (.io (penD a4 b4 c4))] /\ acc = cs.map PyData.int /\ cs.length + rest.length = (plc sd).length /\ (∀ x ∈ cs,Big x) /\ 0 <= a4 /\ 0 <= b4 /\ 0 <= c4) ?_ ?_
        ⟨[],a2,b2,c2,rfl,rfl,by simp,fun c hc=>by simp at hc,ha2,hb2,hc2⟩⟩
    ·rintro d ds acc τ ⟨cs,a4,b4,c4,rfl,rfl,hlen,hB,ha4,hb4,hc4⟩ M hM
     refine ⟨a4,b4,c4,rfl,ha4,hb4,hc4,fun x a5 b5 c5 _ hx ha5 hb5 hc5=>?_⟩
     exact hM _ _ ⟨cs ++ [x],a5,b5,c5,rfl,by simp [Sl.d],by simp at hlen ⊢; omega,fun c' hc=>by rcases List.mem_append.mp hc with z | z; exact hB c' z; rw [List.mem_singleton.mp z]; exact hx,ha5,hb5,hc5⟩
    ·rintro acc τ ⟨cs,a4,b4,c4,rfl,rfl,hlen,hB,ha4,hb4,hc4⟩
     simp at hlen
     exact hN _ ⟨cs,a4,b4,c4,rfl,hlen,hB,ha4,hb4,hc4⟩
   rintro _ ⟨cl,a3,b3,c3,rfl,hcl,hB,ha3,hb3,hc3⟩
   with_reducible refine cutS (fun ρ=>ρ = [some (.fz (scrD ns)),some (.fz (.int k)),some (.ow (penD a3 b3 c3)),some (.fz (tupD sd)),some (.fz (liD cl)),some (.fz (fldD sd cl)),none,none,none,none,none]) ?_ ?_
   ·intro N hN
    exact ⟨sd,cl,rfl,hsd,hcl,fun o=>hN _ rfl⟩
   rintro _ rfl
   with_reducible refine cutS (fun ρ=>∃ (bx:Bxx) (a' b' c':Int),ρ = [some (.fz (scrD ns)),some (.fz (.int k)),some (.ow (penD a' b' c')),some (.fz (tupD sd)),some (.fz (liD cl)),some (.fz (fldD sd cl)),some (.fz (boxD bx)),none,none,none,none] /\ Bx bx.1 bx.2 sd /\ 0 <= a' /\ 0 <= b' /\ 0 <= c') ?_ ?_
   ·intro N hN
    exact ⟨a3,b3,c3,sd,rfl,ha3,hb3,hc3,hsd,fun bx a b c _ hbx ha hb hc=>hN _ ⟨bx,a,b,c,rfl,hbx,ha,hb,hc⟩⟩
   rintro _ ⟨bx0,a4,b4,c4,rfl,hbx0,ha4,hb4,hc4⟩
   with_reducible refine cutS (fun ρ=>∃ (bx:Bxx),ρ = [some (.fz (scrD ns)),some (.fz (.int k)),some (.ow (penD a4 b4 c4)),some (.fz (tupD sd)),some (.fz (liD cl)),some (.fz (fldD sd cl)),some (.fz (boxD bx)),none,none,none,none] /\ Bx bx.1 bx.2 sd) ?_ ?_
   ·intro N hN
    have n1:=Nice.tup bx0.1
    have n2:=Nice.tup bx0.2
    refine ⟨_,rfl,_,rfl,n1.p,n2.p,n1.sh (by decide),n2.sh (by decide),mix_tup _ _,ite2 (fun h=>?_) (fun h=>hN _ ⟨bx0,rfl,hbx0⟩)⟩
    have hlm:(sd.map PyData.int).length = sd.length:=List.length_map _
    have er:(List.replicate ((((sd.map PyData.int).length:Nat):Int).toNat) [PyData.int 0]).flatten = (List.replicate sd.length 0).map PyData.int:=by rw [Int.toNat_natCast,List.length_map,rep_flat]
    have em:(sd.map PyData.int).map (fun d=>PyData.int (unI d - 1)) = (sd.map fun s=>s - 1).map PyData.int:=by rw [List.map_map,List.map_map]; rfl
    have eb:boxD (List.replicate sd.length 0,sd.map fun s=>s - 1) = .tuple [.tuple (List.replicate ((((sd.map PyData.int).length:Nat):Int).toNat) [PyData.int 0]).flatten,.tuple ((sd.map PyData.int).map fun d=>PyData.int (unI d - 1))]:=by rw [er,em]
    refine ⟨by simp,by rw [hlm]; omega,by rw [hlm]; omega,le_size (by rw [hlm]; simp; omega),?_⟩
    refine ⟨by rw [hlm]; exact le_size (by omega),mapC (fun d=>.int (unI d - 1)) ?_ ?_⟩
    ·intro d hd R hR
     obtain ⟨y,_,rfl⟩:=List.mem_map.mp hd
     exact hR
    ·exact hN _ ⟨(List.replicate sd.length 0,sd.map fun s=>s - 1),by rw [eb]; rfl,bx_whole hsd.p⟩
   clear hbx0
   rintro _ ⟨bx,rfl,hbx⟩
   have hex:=ex_le hbx
   with_reducible refine cutS (fun ρ=>∃ (p:Pp) (a' b' c':Int),ρ = [some (.fz (scrD ns)),some (.fz (.int k)),some (.ow (penD a' b' c')),some (.fz (tupD sd)),some (.fz (liD cl)),some (.fz (fldD sd cl)),some (.fz (boxD bx)),some (.fz (pD p)),none,none,none] /\ Made sd cl bx true p /\ 0 <= a' /\ 0 <= b' /\ 0 <= c') ?_ ?_
   ·intro N hN
    exact ⟨a4,b4,c4,sd,cl,bx,false,rfl,ha4,hb4,hc4,hsd,hcl,hB,hbx,(show ex bx.1 bx.2 <= 30 by omega),fun p a b c _ hp ha hb hc=>hN _ ⟨p,a,b,c,rfl,hp,ha,hb,hc⟩⟩
   rintro _ ⟨p,a5,b5,c5,rfl,hp,ha5,hb5,hc5⟩
   have hR:Rt sd cl bx p:=⟨hbx,hp.ok,hp.tg rfl,hp.sm⟩
   have hlv:p.lv <= 24:=by
    have:=hp.lv hbx hsd
    omega
   with_reducible refine cutS (fun ρ=>∃ (a' b' c':Int),ρ = [some (.fz (scrD ns)),some (.fz (.int k)),some (.ow (penD a' b' c')),some (.fz (tupD sd)),some (.fz (liD cl)),some (.fz (fldD sd cl)),some (.fz (boxD bx)),some (.fz (pD p)),none,none,none] /\ 0 <= a' /\ 0 <= b' /\ 0 <= c') ?_ ?_
   ·intro N hN
    refine ⟨by decide,by decide,?_⟩
    generalize rangeD 0 (Int.toNat 8) = r8
    refine loopC (fun _ ρ=>∃ (a' b' c':Int),ρ = [some (.fz (scrD ns)),some (.fz (.int k)),some (.ow (penD a' b' c')),some (.fz (tupD sd)),some (.fz (liD cl)),some (.fz (fldD sd cl)),some (.fz (boxD bx)),some (.fz (pD p)),none,none,none] /\ 0 <= a' /\ 0 <= b' /\ 0 <= c') ?_ ?_ ⟨a5,b5,c5,rfl,ha5,hb5,hc5⟩
    ·rintro d ds2 ρ ⟨a6,b6,c6,rfl,ha6,hb6,hc6⟩ M2 hM2
     with_reducible refine gnC rfl ?_
     with_reducible refine cutS (fun ρ=>∃ (t:Tr) (a' b' c':Int),ρ = [some (.fz (scrD ns)),some (.fz (.int k)),some (.ow (penD a' b' c')),some (.fz (tupD sd)),some (.fz (liD cl)),some (.fz (fldD sd cl)),some (.fz (boxD bx)),some (.fz (pD p)),some (.fz d),some (.fz (tD t)),none] /\ Bad sd cl bx t /\ 0 <= a' /\ 0 <= b' /\ 0 <= c') ?_ ?_
     ·intro N2 hN2
      exact ⟨a6,b6,c6,sd,cl,bx,p,rfl,ha6,hb6,hc6,hsd,hR,hlv,fun t a b c _ ht ha hb hc=>hN2 _ ⟨t,a,b,c,rfl,ht,ha,hb,hc⟩⟩
     rintro _ ⟨t,a7,b7,c7,rfl,hbad,ha7,hb7,hc7⟩
     have hsh:=hbad.sh
     have s1:=hsh.dd
     have s2:(tD t).shown.length <= sizeLine:=Nat.le_trans hsh.ll (by decide)
     obtain ⟨sh,hshw⟩:∃ sh,sh = (tD t).shown:=⟨_,rfl⟩
     with_reducible refine cutS (fun ρ=>ρ = [some (.fz (scrD ns)),some (.fz (.int k)),some (.ow (penD a7 b7 c7)),some (.fz (tupD sd)),some (.fz (liD cl)),some (.fz (fldD sd cl)),some (.fz (boxD bx)),some (.fz (pD p)),some (.fz d),some (.fz (tD t)),some (.fz (.str sh))]) ?_ ?_
     ·intro N2 hN2
      exact ⟨hsh.kk,hsh.ss,Nat.le_trans (Nat.succ_le_succ s1) (by decide),s2,hN2 _ (by rw [hshw]; rfl)⟩
     rintro _ rfl
     refine ⟨sd,cl,bx,t,rfl,hsd,hcl,hbx,hbad.wf,Nat.le_trans hbad.sz (by decide),fun o=>?_⟩
     rw [hbad.no]
     refine ⟨hsh.kk,hsh.ss,Nat.le_trans (Nat.succ_le_succ s1) (by decide),s2,ite2 (fun h=>?_) (fun _=>hM2 _ ⟨a7,b7,c7,rfl,ha7,hb7,hc7⟩)⟩
     have h:(!decide ((tD t).shown = sh)) = true:=h
     rw [hshw] at h
     simp at h
    ·rintro ρ ⟨a6,b6,c6,rfl,ha6,hb6,hc6⟩
     exact hN _ ⟨a6,b6,c6,rfl,ha6,hb6,hc6⟩
   rintro _ ⟨a6,b6,c6,rfl,ha6,hb6,hc6⟩
   refine ⟨sd,cl,bx,pT p,by rw [tD_pT]; rfl,hsd,hcl,hbx,pT_wf p,by rw [pT_sz]; have:=p.szl; omega,fun o=>?_⟩
   rw [okT_pT,hp.ok]
   exact ⟨sd,cl,bx,p,rfl,hsd,hcl,hR,hlv,fun o=>hM _ ⟨rfl,hr'⟩⟩
  ·rintro ρ ⟨rfl,_⟩
   exact q _
end
end R76
namespace R76
open PySem L2 L3 PyProof.Rows
theorem len0 {p:List Value -> Prop} (h:p []):∀ us:List Value,us.length = 0 -> p us:=fun us e=>by
 cases us with
 | nil=>exact h
 | cons x us=>cases e
theorem len1 {p:List Value -> Prop} (h:∀ x0,p [x0]):∀ us:List Value,us.length = 1 -> p us:=fun us e=>by
 cases us with
 | nil=>cases e
 | cons x us=>exact len0 (p:=fun l=>p (x :: l)) (h x) us (Nat.succ.inj e)
theorem len2 {p:List Value -> Prop} (h:∀ x0 x1,p [x0,x1]):∀ us:List Value,us.length = 2 -> p us:=fun us e=>by
 cases us with
 | nil=>cases e
 | cons x us=>exact len1 (p:=fun l=>p (x :: l)) (fun x1=>h x x1) us (Nat.succ.inj e)
theorem len3 {p:List Value -> Prop} (h:∀ x0 x1 x2,p [x0,x1,x2]):∀ us:List Value,us.length = 3 -> p us:=fun us e=>by
 cases us with
 | nil=>cases e
 | cons x us=>exact len2 (p:=fun l=>p (x :: l)) (fun x1 x2=>h x x1 x2) us (Nat.succ.inj e)
theorem len4 {p:List Value -> Prop} (h:∀ x0 x1 x2 x3,p [x0,x1,x2,x3]):∀ us:List Value,us.length = 4 -> p us:=fun us e=>by
 cases us with
 | nil=>cases e
 | cons x us=>exact len3 (p:=fun l=>p (x :: l)) (fun x1 x2 x3=>h x x1 x2 x3) us (Nat.succ.inj e)
theorem len5 {p:List Value -> Prop} (h:∀ x0 x1 x2 x3 x4,p [x0,x1,x2,x3,x4]):∀ us:List Value,us.length = 5 -> p us:=fun us e=>by
 cases us with
 | nil=>cases e
 | cons x us=>exact len4 (p:=fun l=>p (x :: l)) (fun x1 x2 x3 x4=>h x x1 x2 x3 x4) us (Nat.succ.inj e)
structure Df (K:PySem.W.Frag) (mg:Str -> Option Value) (x:Str) (st:Stmt) (f:Addr) (d:FuncData):Prop where
 F:Fun K x x st f d
 m:mg x = some (.ref f)
 k:PySem.W.keepIn K (.ref f) = true
section
variable {K:PySem.W.Frag} {mg:Str -> Option Value}
theorem df_mk {h:Heap} (X:K.In h) (G:h.Ns mainGlobals mg) {x:Str} {st:Stmt} {f:Addr} {oc:Value} {od an:Option Addr} {osl:Array (Option Value)} {kV doc pm cdv ct:Value} (a:PySem.W.nsIn K mainGlobals x = some (some (.ref f))) (l:K.lookup f = some ⟨oc,od,.func (PySem.W.fnOf x x (defArgs st) (defBody st) (defScope st) .none kV doc pm an cdv ct),osl⟩) (c:PySem.W.codeIn K cdv x = true) (k:PySem.W.keepIn K (.ref f) = true):Df K mg x st f (PySem.W.fnOf x x (defArgs st) (defBody st) (defScope st) .none kV doc pm an cdv ct) :=
 ⟨fun_mk l c k,PySem.W.mg_of X G a,k⟩
theorem calD (P:Program) (w:World) (base:Heap) {k:Nat} {x:Str} {ps:List Str} {sp:Sp} {st:Stmt} {f:Addr} {d:FuncData} (D:Df K mg x st f d) (h:FnOk P w K mg base CX0 k f d ps sp) (b:∀ (kV doc pm:Value) (an:Option Addr) (cdv ct:Value) (us:List Value),us.length = ps.length -> bindArgs (PySem.W.fnOf x x (defArgs st) (defBody st) (defScope st) .none kV doc pm an cdv ct) ⟨us,[]⟩ = pure (ps.zip us)):Cal P w K mg base k x ps sp :=
 ⟨⟨f,d,h,D.m,D.k,D.F.binds b⟩⟩
end
theorem all_mk {l:PySem.W.OpenLaw} {w:World} {K:PySem.W.Frag} {h:Heap} {mg:Str -> Option Value} {fa f0 f1 f2 f3 f4 f5 f6 f7 f8 f9 f10 f11 f12 f13 f14 f15 f16 f17 f18 f19 f20 f21 f22 f23 f24 f25 f26 f27 f28 f29 f30 f31 f32 f33 f34 f35 f36 f37 f38 f39 f40 f41 f42 f43:Addr} {d0 d1 d2 d3 d4 d5 d6 d7 d8 d9 d10 d11 d12 d13 d14 d15 d16 d17 d18 d19 d20 d21 d22 d23 d24 d25 d26 d27 d28 d29 d30 d31 d32 d33 d34 d35 d36 d37 d38 d39 d40 d41 d42 d43:FuncData} (X:K.In h) (G:h.Ns mainGlobals mg) (hfa:mg "law" = some (.ref fa))
  {ga0:Addr} {gt0_0 gt0_1:Tok} {god0:Option Addr} {gn0:Nat} {gsl0:Array (Option Value)}
  {tk0 tk1:Tok}
  (D0:Df K mg "_law_pen" (top 34) f0 d0) (D1:Df K mg "_law_draw" (top 35) f1 d1) (D2:Df K mg "_law_sides" (top 37) f2 d2) (D3:Df K mg "_law_places" (top 38) f3 d3) (D4:Df K mg "_law_number" (top 36) f4 d4) (D5:Df K mg "is_whole" (top 4) f5 d5) (D6:Df K mg "are_sides" (top 12) f6 d6) (D7:Df K mg "are_wholes" (top 5) f7 d7) (D8:Df K mg "product" (top 6) f8 d8) (D9:Df K mg "is_field" (top 13) f9 d9) (D10:Df K mg "field_of" (top 14) f10 d10) (D11:Df K mg "_law_box" (top 39) f11 d11) (D12:Df K mg "_law_ways" (top 44) f12 d12) (D13:Df K mg "_law_cell" (top 42) f13 d13) (D14:Df K mg "_law_slack" (top 45) f14 d14) (D15:Df K mg "_law_cut" (top 43) f15 d15) (D16:Df K mg "_law_paper" (top 46) f16 d16) (D17:Df K mg "_law_within" (top 47) f17 d17) (D18:Df K mg "_law_with" (top 48) f18 d18) (D19:Df K mg "_law_anew" (top 49) f19 d19) (D20:Df K mg "_law_odd" (top 53) f20 d20) (D21:Df K mg "_law_claim_bent" (top 50) f21 d21) (D22:Df K mg "_law_cell_bent" (top 52) f22 d22) (D23:Df K mg "_law_cut_bent" (top 51) f23 d23) (D24:Df K mg "_law_spoilt" (top 54) f24 d24) (D25:Df K mg "has_form" (top 22) f25 d25) (D26:Df K mg "is_cut" (top 24) f26 d26) (D27:Df K mg "cuts_box" (top 29) f27 d27) (D28:Df K mg "parts_of" (top 30) f28 d28) (D29:Df K mg "is_cell" (top 23) f29 d29) (D30:Df K mg "is_claimed" (top 25) f30 d30) (D31:Df K mg "put_together" (top 17) f31 d31) (D32:Df K mg "lets_by" (top 26) f32 d32) (D33:Df K mg "holds_cut" (top 31) f33 d33) (D34:Df K mg "replaced" (top 8) f34 d34) (D35:Df K mg "with_stretch" (top 19) f35 d35) (D36:Df K mg "cut_boxes" (top 27) f36 d36) (D37:Df K mg "index_of" (top 7) f37 d37) (D38:Df K mg "cell_at" (top 15) f38 d38) (D39:Df K mg "thrice" (top 18) f39 d39) (D40:Df K mg "holds_cell" (top 28) f40 d40) (D41:Df K mg "holds_paper" (top 32) f41 d41) (D42:Df K mg "_law_every_one" (top 55) f42 d42) (D43:Df K mg "law" (top 56) f43 d43)
  (z0:PySem.W.nsIn K mainGlobals "len" = some none) (z1:PySem.W.nsIn K mainGlobals "max" = some none) (z2:PySem.W.nsIn K mainGlobals "min" = some none) (z3:PySem.W.nsIn K mainGlobals "all" = some none) (z4:PySem.W.nsIn K mainGlobals "isinstance" = some none) (z5:PySem.W.nsIn K mainGlobals "tuple" = some none) (z6:PySem.W.nsIn K mainGlobals "list" = some none) (z7:PySem.W.nsIn K mainGlobals "int" = some none) (z8:PySem.W.nsIn K mainGlobals "bool" = some none) (z9:PySem.W.nsIn K mainGlobals "str" = some none) (z10:PySem.W.nsIn K mainGlobals "range" = some none) (z11:PySem.W.nsIn K mainGlobals "zip" = some none) (z12:PySem.W.nsIn K mainGlobals "repr" = some none) (z13:PySem.W.nsIn K mainGlobals "sorted" = some none) (z14:PySem.W.nsIn K mainGlobals "sum" = some none) (y0:PySem.W.nsIn K mainGlobals "MOST_WAYS" = some (some (.int 3 tk0))) (y1:PySem.W.nsIn K mainGlobals "MOST_CELLS" = some (some (.int 120 tk1))) (g0:PySem.W.nsIn K mainGlobals "PARTS" = some (some (.ref ga0))) (g1:K.lookup ga0 = some ⟨.type "tuple",god0,.seq #[.int 4 gt0_0,.int 5 gt0_1] gn0,gsl0⟩) :
  ∃ fd:FuncData,(∀ (s:Shared) (v:Value),BindsTo s fd ⟨[v],[]⟩ [("_law_script",v)]) /\ ∀ base:Heap,K.In base -> base.Ns mainGlobals mg -> FnOk l.prog w K mg base CX0 40 fa fd ["_law_script"] (conSp K cLaw):=by
 cases hfa.symm.trans D43.m
 have T:Txt mg:=⟨PySem.W.mg_none_of X G z0,PySem.W.mg_none_of X G z1,PySem.W.mg_none_of X G z2,PySem.W.mg_none_of X G z3,PySem.W.mg_none_of X G z4,PySem.W.mg_none_of X G z5,PySem.W.mg_none_of X G z6,PySem.W.mg_none_of X G z7,PySem.W.mg_none_of X G z8,PySem.W.mg_none_of X G z9,PySem.W.mg_none_of X G z10,PySem.W.mg_none_of X G z11,PySem.W.mg_none_of X G z12,PySem.W.mg_none_of X G z13,PySem.W.mg_none_of X G z14,⟨_,PySem.W.mg_of X G y0⟩,⟨_,PySem.W.mg_of X G y1⟩⟩
 have L:Cls K mg:=⟨⟨ga0,PySem.W.mg_of X G g0,_,_,_,g1,rfl,rfl,by show 2 <= sizeLine; decide,(.cons ⟨gt0_0,rfl⟩ (.cons ⟨gt0_1,rfl⟩ .nil))⟩⟩
 obtain ⟨oc,od,kV,doc,pm,an,cdv,ct,osl,e,lk,hcd⟩:=D43.F.ex
 refine ⟨d43,fun s v=>by subst e; exact .of_eq rfl,fun b _ _=>?_⟩
 have C0:=calD l.prog w b D0 (ok_pen D0.F T) fun _ _ _ _ _ _=>len2 fun _ _=>rfl
 have C1:=calD l.prog w b D1 (ok_draw D1.F) fun _ _ _ _ _ _=>len2 fun _ _=>rfl
 have C2:=calD l.prog w b D2 (ok_sides D2.F T ⟨C1⟩) fun _ _ _ _ _ _=>len2 fun _ _=>rfl
 have C3:=calD l.prog w b D3 (ok_places D3.F T) fun _ _ _ _ _ _=>len1 fun _=>rfl
 have C4:=calD l.prog w b D4 (ok_number D4.F ⟨C1⟩) fun _ _ _ _ _ _=>len1 fun _=>rfl
 have C5:=calD l.prog w b D5 (ok_whole D5.F T) fun _ _ _ _ _ _=>len1 fun _=>rfl
 have C6:=calD l.prog w b D6 (ok_as D6.F T ⟨C5⟩) fun _ _ _ _ _ _=>len1 fun _=>rfl
 have C7:=calD l.prog w b D7 (ok_areW D7.F T ⟨C5⟩) fun _ _ _ _ _ _=>len2 fun _ _=>rfl
 have C8:=calD l.prog w b D8 (ok_prod D8.F) fun _ _ _ _ _ _=>len1 fun _=>rfl
 have C9:=calD l.prog w b D9 (ok_if D9.F T ⟨C6,C7,C8⟩) fun _ _ _ _ _ _=>len1 fun _=>rfl
 have C10:=calD l.prog w b D10 (ok_fo D10.F T ⟨C9⟩) fun _ _ _ _ _ _=>len2 fun _ _=>rfl
 have C11:=calD l.prog w b D11 (ok_box D11.F T ⟨C1⟩) fun _ _ _ _ _ _=>len2 fun _ _=>rfl
 have C12:=calD l.prog w b D12 (ok_wa D12.F T) fun _ _ _ _ _ _=>len1 fun _=>rfl
 have C13:=calD l.prog w b D13 (ok_cell D13.F T) fun _ _ _ _ _ _=>len3 fun _ _ _=>rfl
 have C14:=calD l.prog w b D14 (ok_slack D14.F ⟨C1⟩) fun _ _ _ _ _ _=>len3 fun _ _ _=>rfl
 have C15:=calD l.prog w b D15 (ok_cut D15.F) fun _ _ _ _ _ _=>len3 fun _ _ _=>rfl
 have C16:=calD l.prog w b D16 (ok_pap D16.F T ⟨C12,C13,C14,C1,C15⟩ ⟨D16.m,D16.k,D16.F.binds fun _ _ _ _ _ _=>len5 fun _ _ _ _ _=>rfl⟩) fun _ _ _ _ _ _=>len5 fun _ _ _ _ _=>rfl
 have C17:=calD l.prog w b D17 (ok_wn D17.F ⟨C15⟩) fun _ _ _ _ _ _=>len2 fun _ _=>rfl
 have C18:=calD l.prog w b D18 (ok_wi D18.F ⟨D18.m,D18.k,D18.F.binds fun _ _ _ _ _ _=>len3 fun _ _ _=>rfl⟩) fun _ _ _ _ _ _=>len3 fun _ _ _=>rfl
 have C19:=calD l.prog w b D19 (ok_aw D19.F T ⟨D19.m,D19.k,D19.F.binds fun _ _ _ _ _ _=>len3 fun _ _ _=>rfl⟩) fun _ _ _ _ _ _=>len3 fun _ _ _=>rfl
 have C20:=calD l.prog w b D20 (ok_od D20.F T ⟨C1⟩) fun _ _ _ _ _ _=>len2 fun _ _=>rfl
 have C21:=calD l.prog w b D21 (ok_clb D21.F ⟨C1⟩) fun _ _ _ _ _ _=>len2 fun _ _=>rfl
 have C22:=calD l.prog w b D22 (ok_ce D22.F T ⟨C1⟩) fun _ _ _ _ _ _=>len3 fun _ _ _=>rfl
 have C23:=calD l.prog w b D23 (ok_ct D23.F T ⟨C1⟩) fun _ _ _ _ _ _=>len3 fun _ _ _=>rfl
 have C24:=calD l.prog w b D24 (ok_sp D24.F T ⟨C17,C1,C18,C19,C20,C21,C22,C23⟩) fun _ _ _ _ _ _=>len3 fun _ _ _=>rfl
 have C25:=calD l.prog w b D25 (ok_hf D25.F T ⟨C7⟩) fun _ _ _ _ _ _=>len3 fun _ _ _=>rfl
 have C26:=calD l.prog w b D26 (ok_it D26.F ⟨C25⟩) fun _ _ _ _ _ _=>len1 fun _=>rfl
 have C27:=calD l.prog w b D27 (ok_cu D27.F T ⟨C5⟩) fun _ _ _ _ _ _=>len3 fun _ _ _=>rfl
 have C28:=calD l.prog w b D28 (ok_po D28.F L) fun _ _ _ _ _ _=>len1 fun _=>rfl
 have C29:=calD l.prog w b D29 (ok_ic D29.F ⟨C25⟩) fun _ _ _ _ _ _=>len1 fun _=>rfl
 have C30:=calD l.prog w b D30 (ok_im D30.F ⟨C29,C26⟩) fun _ _ _ _ _ _=>len1 fun _=>rfl
 have C31:=calD l.prog w b D31 (ok_pt D31.F T) fun _ _ _ _ _ _=>len1 fun _=>rfl
 have C32:=calD l.prog w b D32 (ok_lb D32.F) fun _ _ _ _ _ _=>len2 fun _ _=>rfl
 have C33:=calD l.prog w b D33 (ok_hu D33.F T ⟨C27,C28,C30,C31,C32⟩) fun _ _ _ _ _ _=>len2 fun _ _=>rfl
 have C34:=calD l.prog w b D34 (ok_rp D34.F) fun _ _ _ _ _ _=>len3 fun _ _ _=>rfl
 have C35:=calD l.prog w b D35 (ok_ws D35.F ⟨C34⟩) fun _ _ _ _ _ _=>len3 fun _ _ _=>rfl
 have C36:=calD l.prog w b D36 (ok_cb D36.F ⟨C35⟩) fun _ _ _ _ _ _=>len3 fun _ _ _=>rfl
 have C37:=calD l.prog w b D37 (ok_index D37.F T) fun _ _ _ _ _ _=>len2 fun _ _=>rfl
 have C38:=calD l.prog w b D38 (ok_ca D38.F ⟨C37⟩) fun _ _ _ _ _ _=>len2 fun _ _=>rfl
 have C39:=calD l.prog w b D39 (ok_th D39.F) fun _ _ _ _ _ _=>len1 fun _=>rfl
 have C40:=calD l.prog w b D40 (ok_hc D40.F ⟨C38,C39,C32⟩) fun _ _ _ _ _ _=>len3 fun _ _ _=>rfl
 have C41:=calD l.prog w b D41 (ok_hp D41.F T ⟨C26,C33,C36,C28,C29,C40⟩) fun _ _ _ _ _ _=>len3 fun _ _ _=>rfl
 have C42:=calD l.prog w b D42 (ok_ev D42.F T ⟨C17,C18,C41⟩) fun _ _ _ _ _ _=>len3 fun _ _ _=>rfl
 exact ok_law D43.F T ⟨C0,C2,C3,C4,C10,C11,C16,C24,C41,C42⟩
theorem walk {l:PySem.W.OpenLaw} {q:Program} {loose:List Str} {XP:(Str -> Option Value) -> Heap -> Prop} {YP:World -> Heap -> Prop} {d:DefRec} {K:Params -> PySem.W.Frag} (hn:l.most = some 63) (hdf:d.params.defaults = [])
  (hY:∀ (w:World) (h:Heap),YP w h -> (K w.params).In h)
  (F:∀ (w:World) (mg:Str -> Option Value) (fa:Addr) (h:Heap),(K w.params).In h -> h.Ns mainGlobals mg -> mg d.name = some (.ref fa) ->
    ∃ fd:FuncData,(∀ (s:Shared) (u:Value),BindsTo s fd ⟨[u],[]⟩ [("_law_script",u)]) /\ ∀ base:Heap,(K w.params).In base -> base.Ns mainGlobals mg -> FnOk l.prog w (K w.params) mg base CX0 40 fa fd ["_law_script"] (conSp (K w.params) cLaw)) :
  PySem.W.WalkO q loose XP YP l.row.toRowW d [] (fun f vs=>PySem.call f vs) :=
 L2.walk_of (n:=63) (k:=40) (x:="_law_script") (CX:=fun _=>CX0) (sp:=fun w=>conSp (K w.params) cLaw) hn (by decide) hdf ⟨rfl,by decide,by decide,rfl⟩ hY F (fun _ _ a ns hl _ hS=>cLaw_sp hl hS) fun _ _ _ _ _ z=>z
end R76
open PySem PySem.W PyProof.Rows
namespace PySem.W.Fast
def tw13515245728054245514:Unit:=()
def tw508270907404982699:Unit:=()
def tw11112965097941195558:Unit:=()
def tw4272196864150337281:Unit:=()
def tw12706493768759986245:Unit:=()
def tw5596823824907874740:Unit:=()
def tw8977531022950133408:Unit:=()
def tw3508697283303936901:Unit:=()
def tw13154088877953681878:Unit:=()
def tw17244652143727483155:Unit:=()
def tw3651627451524117721:Unit:=()
def tw587563671745301606:Unit:=()
def tw4735159929474766471:Unit:=()
def tw2634928662529122191:Unit:=()
def tw13654851337694822902:Unit:=()
def tw12338649025748202413:Unit:=()
def tw1608497585971649830:Unit:=()
def tw13192448339596072618:Unit:=()
def tw8503170566045847676:Unit:=()
def tw16039060690179585495:Unit:=()
def tw905946757668099007:Unit:=()
def tw13982563721587364992:Unit:=()
def tw10649501663065785979:Unit:=()
def tw15142042250640130324:Unit:=()
def tw13054322000286333517:Unit:=()
def tw5497026755277869361:Unit:=()
def tw13584461592565108181:Unit:=()
def tw10911673576772963504:Unit:=()
def tw9752771073178467621:Unit:=()
def tw14167199512563586951:Unit:=()
def tw4581795975154756179:Unit:=()
def tw13219300681826281854:Unit:=()
def tw12405987906224513504:Unit:=()
def tw11199864009137314727:Unit:=()
def tw10951367186487670036:Unit:=()
def tw3020997964050027956:Unit:=()
def tw5890034959694347718:Unit:=()
def tw14242786783731226817:Unit:=()
def tw240853348178163292:Unit:=()
def tw4717245730091973589:Unit:=()
def tw9688425045722542689:Unit:=()
def tw1701256177204809301:Unit:=()
def tw7525474165412062043:Unit:=()
def tw3426587823198968328:Unit:=()
def tw10990909939913853805:Unit:=()
def tw1141347565888315702:Unit:=()
def tw1557585000492172663:Unit:=()
def tw14648480376532519316:Unit:=()
def tw3775342950036163907:Unit:=()
def tw1022840021974101847:Unit:=()
def tw6886876577113137607:Unit:=()
def tw2957163868132597907:Unit:=()
def tw17119175213621498671:Unit:=()
def tw2871163661509726996:Unit:=()
def tw8770522468290826902:Unit:=()
def tw11003861509512341828:Unit:=()
def tw511907017328785300:Unit:=()
def tw15425024801114552376:Unit:=()
def tw13642005028344729686:Unit:=()
def tw13033556451374319894:Unit:=()
def tw5796817432586964603:Unit:=()
def tw4677307562627699842:Unit:=()
def tw2657132397403037878:Unit:=()
def tw12842181232890558467:Unit:=()
def tw8846841776624890882:Unit:=()
def tw2664193573709605862:Unit:=()
def tw13572464020712838252:Unit:=()
def tw2502139805977455935:Unit:=()
def tw739804617624131568:Unit:=()
def tw7257565539457955912:Unit:=()
def tw18326666395646614496:Unit:=()
def tw9613315743844534798:Unit:=()
def tw15173052564900142287:Unit:=()
def tw14306162075316532086:Unit:=()
def tw15725999111368526187:Unit:=()
def tw15800086845915130705:Unit:=()
def tw4577175362370270938:Unit:=()
def tw778013373663040319:Unit:=()
def tw15999501596975794039:Unit:=()
def tw17270159922651607215:Unit:=()
def tw9732875343215364236:Unit:=()
def tw2953430204253701353:Unit:=()
def tw9252735243927747254:Unit:=()
def tw3902329253722848777:Unit:=()
def tw15463350416733492955:Unit:=()
def tw2017096446205301264:Unit:=()
def tw3900813449365304221:Unit:=()
def tw9763092450140878215:Unit:=()
def tw18148803323611610205:Unit:=()
def tw8698657762232069662:Unit:=()
def tw15817410581920432621:Unit:=()
def tw9328420547852828303:Unit:=()
def tw6256918199373863236:Unit:=()
def tw5878756921993251726:Unit:=()
def tw13769177749192138622:Unit:=()
def tw5238215926021495410:Unit:=()
def tw794961528243250701:Unit:=()
def tw17873525666060859915:Unit:=()
end PySem.W.Fast
set_option maxRecDepth 100000 in
set_option maxHeartbeats 0 in
theorem PySem.Challenge.cw_boxsums_k76_papers_spoilt_holds : PySem.Challenge.rw_boxsums_k76_papers_spoilt.Holds := by
 w_on; o_law; k_head; (case hw=>w_witness2)
 k_fill
 refine R76.walk (l:=PySem.Challenge.rw_boxsums_k76_papers_spoilt) rfl rfl (fun w h Y=>PySem.W.kIn_of Y) ?F
 case F =>
  intro w mg fa h KX G hmg
  refine' R76.all_mk KX G hmg (R76.df_mk KX G ?a0 ?l0 ?c0 ?k0) (R76.df_mk KX G ?a1 ?l1 ?c1 ?k1) (R76.df_mk KX G ?a2 ?l2 ?c2 ?k2) (R76.df_mk KX G ?a3 ?l3 ?c3 ?k3) (R76.df_mk KX G ?a4 ?l4 ?c4 ?k4) (R76.df_mk KX G ?a5 ?l5 ?c5 ?k5) (R76.df_mk KX G ?a6 ?l6 ?c6 ?k6) (R76.df_mk KX G ?a7 ?l7 ?c7 ?k7) (R76.df_mk KX G ?a8 ?l8 ?c8 ?k8) (R76.df_mk KX G ?a9 ?l9 ?c9 ?k9) (R76.df_mk KX G ?a10 ?l10 ?c10 ?k10) (R76.df_mk KX G ?a11 ?l11 ?c11 ?k11) (R76.df_mk KX G ?a12 ?l12 ?c12 ?k12) (R76.df_mk KX G ?a13 ?l13 ?c13 ?k13) (R76.df_mk KX G ?a14 ?l14 ?c14 ?k14) (R76.df_mk KX G ?a15 ?l15 ?c15 ?k15) (R76.df_mk KX G ?a16 ?l16 ?c16 ?k16) (R76.df_mk KX G ?a17 ?l17 ?c17 ?k17) (R76.df_mk KX G ?a18 ?l18 ?c18 ?k18) (R76.df_mk KX G ?a19 ?l19 ?c19 ?k19) (R76.df_mk KX G ?a20 ?l20 ?c20 ?k20) (R76.df_mk KX G ?a21 ?l21 ?c21 ?k21) (R76.df_mk KX G ?a22 ?l22 ?c22 ?k22) (R76.df_mk KX G ?a23 ?l23 ?c23 ?k23) (R76.df_mk KX G ?a24 ?l24 ?c24 ?k24) (R76.df_mk KX G ?a25 ?l25 ?c25 ?k25) (R76.df_mk KX G ?a26 ?l26 ?c26 ?k26) (R76.df_mk KX G ?a27 ?l27 ?c27 ?k27) (R76.df_mk KX G ?a28 ?l28 ?c28 ?k28) (R76.df_mk KX G ?a29 ?l29 ?c29 ?k29) (R76.df_mk KX G ?a30 ?l30 ?c30 ?k30) (R76.df_mk KX G ?a31 ?l31 ?c31 ?k31) (R76.df_mk KX G ?a32 ?l32 ?c32 ?k32) (R76.df_mk KX G ?a33 ?l33 ?c33 ?k33) (R76.df_mk KX G ?a34 ?l34 ?c34 ?k34) (R76.df_mk KX G ?a35 ?l35 ?c35 ?k35) (R76.df_mk KX G ?a36 ?l36 ?c36 ?k36) (R76.df_mk KX G ?a37 ?l37 ?c37 ?k37) (R76.df_mk KX G ?a38 ?l38 ?c38 ?k38) (R76.df_mk KX G ?a39 ?l39 ?c39 ?k39) (R76.df_mk KX G ?a40 ?l40 ?c40 ?k40) (R76.df_mk KX G ?a41 ?l41 ?c41 ?k41) (R76.df_mk KX G ?a42 ?l42 ?c42 ?k42) (R76.df_mk KX G ?a43 ?l43 ?c43 ?k43) ?z0 ?z1 ?z2 ?z3 ?z4 ?z5 ?z6 ?z7 ?z8 ?z9 ?z10 ?z11 ?z12 ?z13 ?z14 ?y0 ?y1 ?tu0 ?tu1
  case a0 | l0 | c0 | k0 | a1 | l1 | c1 | k1 | a2 | l2 | c2 | k2 | a3 | l3 | c3 | k3 | a4 | l4 | c4 | k4 | a5 | l5 | c5 | k5 | a6 | l6 | c6 | k6 | a7 | l7 | c7 | k7 | a8 | l8 | c8 | k8 | a9 | l9 | c9 | k9 | a10 | l10 | c10 | k10 | a11 | l11 | c11 | k11 | a12 | l12 | c12 | k12 | a13 | l13 | c13 | k13 | a14 | l14 | c14 | k14 | a15 | l15 | c15 | k15 | a16 | l16 | c16 | k16 | a17 | l17 | c17 | k17 | a18 | l18 | c18 | k18 | a19 | l19 | c19 | k19 | a20 | l20 | c20 | k20 | a21 | l21 | c21 | k21 | a22 | l22 | c22 | k22 | a23 | l23 | c23 | k23 | a24 | l24 | c24 | k24 | a25 | l25 | c25 | k25 | a26 | l26 | c26 | k26 | a27 | l27 | c27 | k27 | a28 | l28 | c28 | k28 | a29 | l29 | c29 | k29 | a30 | l30 | c30 | k30 | a31 | l31 | c31 | k31 | a32 | l32 | c32 | k32 | a33 | l33 | c33 | k33 | a34 | l34 | c34 | k34 | a35 | l35 | c35 | k35 | a36 | l36 | c36 | k36 | a37 | l37 | c37 | k37 | a38 | l38 | c38 | k38 | a39 | l39 | c39 | k39 | a40 | l40 | c40 | k40 | a41 | l41 | c41 | k41 | a42 | l42 | c42 | k42 | a43 | l43 | c43 | k43 | z0 | z1 | z2 | z3 | z4 | z5 | z6 | z7 | z8 | z9 | z10 | z11 | z12 | z13 | z14 | y0 | y1 | tu0 | tu1=>k_is
