import PyProof.Rows.All
import Wide.All
import OpenK.AllK
import Wide.FinOn
import Lean
import PyProof.EqAt
import PyProof.EqKinds
import PyProof.TupleCall
import PyProof.ZipIter
import PyProof.ListNew
import KE.KRevIter
import PySem.Challenge.RW_evenkinds_k62_unlike_tables
set_option Elab.async false
set_option compiler.extract_closed false
set_option linter.all false
set_option maxRecDepth 100000
namespace L2
open PySem PySem.Spec PyProof.Rows
noncomputable abbrev Key:=Sum Int Str
noncomputable def keyIs:Key→Value→Bool
 | .inl k,v=>Value.isInt k v
 | .inr x,v=>Value.isStrOf x v
noncomputable def keyH (w:World):Key→Int
 | .inl k=>hashInt k
 | .inr x=>hashStr w x
theorem keyIs_shape:∀ {k:Key} {v:Value},keyIs k v=true→(∃ i t,k=Sum.inl i∧v=Value.int i t) ∨ (∃ x t,k=Sum.inr x∧v=Value.str x t)
 | .inl i,v,h=>by
  obtain ⟨t,e⟩:=Value.isInt_shape (k:=i) (v:=v) h
  exact .inl ⟨i,t,rfl,e⟩
 | .inr x,v,h=>by
  obtain ⟨t,e⟩:=Value.isStrOf_shape (x:=x) (v:=v) h
  exact .inr ⟨x,t,rfl,e⟩
theorem keyIs_int (i:Int) (t:Tok):keyIs (.inl i) (.int i t)=true:=by simp [keyIs,Value.isInt]
theorem keyIs_str (x:Str) (t:Tok):keyIs (.inr x) (.str x t)=true:=by simp [keyIs,Value.isStrOf]
theorem key_ll (a b:Int):decide ((Sum.inl a:Key)=Sum.inl b)=(a == b):=by
 by_cases e:a=b
 ·subst e;simp
 ·have h:¬ (Sum.inl a:Key)=Sum.inl b:=fun q=>e (Sum.inl.inj q)
  rw [decide_eq_false h]
  exact (beq_eq_false_iff_ne.mpr e).symm
theorem key_rr (a b:Str):decide ((Sum.inr a:Key)=Sum.inr b)=decide (a=b):=by
 by_cases e:a=b
 ·subst e;simp
 ·have h:¬ (Sum.inr a:Key)=Sum.inr b:=fun q=>e (Sum.inr.inj q)
  rw [decide_eq_false h,decide_eq_false e]
theorem key_lr (a:Int) (b:Str):decide ((Sum.inl a:Key)=Sum.inr b)=false:=decide_eq_false (fun q=>nomatch q)
theorem key_rl (a:Str) (b:Int):decide ((Sum.inr a:Key)=Sum.inl b)=false:=decide_eq_false (fun q=>nomatch q)
noncomputable def mixKind (prog:Program) (w:World):PySem.KeyKind prog w Key where
 is:=keyIs
 hash:=keyH w
 inj:=fun v a b ha hb=>by
  rcases keyIs_shape ha with ⟨i,t,rfl,rfl⟩ | ⟨x,t,rfl,rfl⟩
  ·rcases keyIs_shape hb with ⟨j,u,rfl,e⟩ | ⟨y,u,rfl,e⟩
   ·injection e with e1 _;rw [e1]
   ·exact nomatch e
  ·rcases keyIs_shape hb with ⟨j,u,rfl,e⟩ | ⟨y,u,rfl,e⟩
   ·exact nomatch e
   ·injection e with e1 _;rw [e1]
 byValue:=fun k v h=>by
  rcases keyIs_shape h with ⟨i,t,rfl,rfl⟩ | ⟨x,t,rfl,rfl⟩ <;> rfl
 pyHash:=fun hv h=>by
  rcases keyIs_shape hv with ⟨i,t,rfl,rfl⟩ | ⟨x,t,rfl,rfl⟩
  ·exact wpAny_pyHash_int h
  ·exact wpAny_pyHash_str h
 eqBool:=fun hu hv h=>by
  rcases keyIs_shape hu with ⟨i,t,rfl,rfl⟩ | ⟨x,t,rfl,rfl⟩
  ·rcases keyIs_shape hv with ⟨j,u,rfl,rfl⟩ | ⟨y,u,rfl,rfl⟩
   ·rw [key_ll] at h;exact wpAny_eqBool_int h
   ·rw [key_lr] at h;exact SeqAt.EqAt.int_str i t y u _ _ _ _ h
  ·rcases keyIs_shape hv with ⟨j,u,rfl,rfl⟩ | ⟨y,u,rfl,rfl⟩
   ·rw [key_rl] at h;exact SeqAt.EqAt.str_int x t j u _ _ _ _ h
   ·rw [key_rr] at h;exact wpAny_eqBool_str h
 «strs»:=fun k x t v h=>by
  rcases keyIs_shape h with ⟨i,u,rfl,e⟩ | ⟨y,u,rfl,e⟩
  ·exact nomatch e
  ·injection e with e1 _
   subst e1
   cases v <;> rfl
theorem mixKind_int (prog:Program) (w:World) (i:Int) (t:Tok):(mixKind prog w).is (.inl i) (.int i t)=true:=keyIs_int i t
theorem mixKind_str (prog:Program) (w:World) (x:Str) (t:Tok):(mixKind prog w).is (.inr x) (.str x t)=true:=keyIs_str x t
end L2
namespace L2
open PySem PySem.Spec PyProof.Rows
inductive V where
 | non | bl (b:Bool) | int (i:Int) | str (x:Str) | byt (b:Array UInt8) | flt (b:UInt64) | ref (a:Addr) | ty (n:String)
 deriving DecidableEq
noncomputable def RelV:V→Value→Prop
 | .non,u=>u=Value.none
 | .bl b,u=>u=Value.bool b
 | .int i,u=>∃ t,u=Value.int i t
 | .str x,u=>∃ t,u=Value.str x t
 | .byt b,u=>∃ t,u=Value.bytes b t
 | .flt b,u=>∃ t,u=Value.float b t
 | .ref a,u=>u=Value.ref a
 | .ty n,u=>u=Value.type n
noncomputable abbrev Vals:List V→List Value→Prop:=Paired RelV
theorem Vals.length {xs:List V} {us:List Value} (r:Vals xs us):xs.length=us.length:=Paired.length r
theorem Vals.get:∀ {xs:List V} {us:List Value} {i:Nat} {x:V},Vals xs us→xs[i]?=some x→∃ u,us[i]?=some u∧RelV x u
 | _,_,_,_,.nil,e=>by simp at e
 | _,_,0,_,.cons r _,e=>by simp at e;subst e;exact ⟨_,rfl,r⟩
 | _,_,i + 1,x,.cons _ t,e=>by
  obtain ⟨u,h1,h2⟩:=Vals.get (i:=i) (x:=x) t (by simpa using e)
  exact ⟨u,by simpa using h1,h2⟩
theorem Vals.set {x:V} {u:Value} (r:RelV x u):∀ {xs:List V} {us:List Value} (i:Nat),Vals xs us→Vals (xs.set i x) (us.set i u)
 | _,_,_,.nil=>.nil
 | _,_,0,.cons _ t=>.cons r t
 | _,_,i + 1,.cons q t=>.cons q (Vals.set r i t)
theorem Vals.append:∀ {xs ys:List V} {us ws:List Value},Vals xs us→Vals ys ws→Vals (xs++ys) (us++ws)
 | _,_,_,_,.nil,s=>s
 | _,_,_,_,.cons r t,s=>.cons r (Vals.append t s)
theorem Vals.take:∀ {xs:List V} {us:List Value} (n:Nat),Vals xs us→Vals (xs.take n) (us.take n)
 | _,_,0,_=>.nil
 | _,_,_ + 1,.nil=>.nil
 | _,_,n + 1,.cons r t=>.cons r (Vals.take n t)
theorem Vals.drop:∀ {xs:List V} {us:List Value} (n:Nat),Vals xs us→Vals (xs.drop n) (us.drop n)
 | _,_,0,r=>r
 | _,_,_ + 1,.nil=>.nil
 | _,_,n + 1,.cons _ t=>Vals.drop n t
noncomputable def RelO:Option V→Option Value→Prop
 | some v,some u=>RelV v u
 | none,none=>True
 | _,_=>False
noncomputable def KV {κ:Type}:List (κ × V)→List (κ × Value)→Prop:=Paired fun (p:κ × V) (q:κ × Value)=>p.1=q.1∧RelV p.2 q.2
noncomputable def kV:Key→V
 | .inl i=>.int i
 | .inr x=>.str x
inductive HO where
 | lst (xs:List V)
 | tup (xs:List V)
 | dK (kvs:List (Key × V)) | dT (kvs:List (List Key × V))
 | set (S:Int→Bool) (n:Nat)
 | ins (C dx:Addr) (fs:List (Str × V))
 | own (x:Addr)
 | xd (fs:List (Str × V))
 | met (f x:Addr)
 | rng (lo hi:Int)
 | frz (o:Obj) (u:HO)
 | tbl (ps:Array Value)
 | ext (φ:Heap→Prop)
noncomputable abbrev Hp:=Addr→Option HO
noncomputable def upd (H:Hp) (a:Addr) (o:HO):Hp:=fun b=>if b=a then some o else H b
theorem upd_same {H:Hp} {a:Addr} {o:HO}:upd H a o a=some o:=by unfold upd;rw [if_pos rfl]
theorem upd_ne {H:Hp} {a b:Addr} {o:HO} (h:b ≠ a):upd H a o b=H b:=by unfold upd;rw [if_neg h]
theorem ne_of_none {H:Hp} {a b:Addr} {o:HO} (h:H a=some o) (h':H b=none):a ≠ b:=by
 intro e;subst e;rw [h] at h';cases h'
noncomputable def IsTupD (h:Heap) (a:Addr) (items:Array Value):Prop:=∃ o,h.get? a=some o∧o.cls=.type "tuple"∧o.dict=none∧∃ n,o.data=.seq items n
theorem IsTupD.tup {h:Heap} {a:Addr} {items:Array Value} (x:IsTupD h a items):IsTup h a items:=let ⟨o,e,c,_,d⟩:=x;⟨o,e,c,d⟩
theorem IsTupD.lt {h:Heap} {a:Addr} {items:Array Value} (x:IsTupD h a items):a < h.objs.size:=let ⟨_,e,_⟩:=x;Heap.lt_size e
theorem IsTupD.new (h:Heap) (items:Array Value):IsTupD (h.push { cls:=.type "tuple",data:=.seq items }) h.objs.size items:=⟨_,Heap.get?_push_size _ rfl,rfl,rfl,_,rfl⟩
section
variable (P:Program) (w:World)
noncomputable def ObjOk (H:Hp) (h:Heap) (a:Addr):HO→Prop
 | .lst xs=>xs.length≤sizeLine∧∃ (its:List Value) (n:Nat),Vals xs its∧h.get? a=some { cls:=.type "list",data:=.seq its.toArray n }
 | .tup xs=>xs.length≤sizeLine∧∃ its:List Value,Vals xs its∧IsTupD h a its.toArray
 | .dK kvs=>kvs.length≤sizeLine∧(a == sysModules)=false∧∃ vs,KV kvs vs∧h.DictOf (mixKind P w) a vs
 | .dT kvs=>kvs.length≤sizeLine∧(a == sysModules)=false∧∃ xs:List (List Key × Addr × Value),
   Paired (fun (p:List Key × V) (q:List Key × Addr × Value)=>p.1=q.1∧H q.2.1=some (.tup (p.1.map kV))∧RelV p.2 q.2.2) kvs xs ∧
   ∃ o es ep,h.get? a=some o∧o.ExactDict∧o.data=.dict es ep∧es.toList=xs.map (entryOfKey (tupleKind (mixKind P w)))∧(xs.map (·.1)).Nodup
 | .set S n=>h.SetOf (intKind P w) a S n
 | .ins C dx fs=>H dx=some (.own a)∧fs.length≤1000∧dx ≠ a∧h.get? a=some (PySem.W.instObj C dx) ∧
   ∃ mA,h.Ns1 dx mA∧(∀ f,RelO (fs.lookup f) (mA f))∧PySem.Within mA (fs.map (·.1))
 | .own _=>∃ o,h.get? a=some o
 | .xd fs=>∃ mA,h.Ns1 a mA∧∀ f,RelO (fs.lookup f) (mA f)
 | .rng lo hi=>∃ t u v,h.get? a=some { cls:=.type "range",data:=.fields #[.int lo t,.int hi u,.int 1 v] }
 | .frz o u=>h.get? a=some o∧ObjOk H h a u
 | .tbl ps=>h.get? a=some { cls:=.none,data:=.fields ps }
 | .met f x=>h.get? a=some (PySem.W.methodObj (.ref f) (.ref x))
 | .ext φ=>φ h∧(∃ o,h.get? a=some o)∧∀ h1 h2:Heap,φ h1→(∀ o,h1.get? a=some o→h2.get? a=some o)→φ h2
noncomputable def HOk (H:Hp) (h:Heap):Prop:=∀ a o,H a=some o→ObjOk P w H h a o
end
section
variable {P:Program} {w:World} {H H':Hp} {h h':Heap} {a:Addr} {o:HO}
theorem ObjOk.lt (x:ObjOk P w H h a o):a < h.objs.size:=by
 cases o with
 | lst xs=>obtain ⟨_,_,_,_,e⟩:=x;exact Heap.lt_size e
 | tup xs=>obtain ⟨_,_,_,p⟩:=x;exact p.lt
 | dK kvs=>obtain ⟨_,_,_,_,o,_,_,e,_⟩:=x;exact Heap.lt_size e
 | dT kvs=>obtain ⟨_,_,_,_,o,_,_,e,_⟩:=x;exact Heap.lt_size e
 | set S n=>obtain ⟨o,_,_,_,e,_⟩:=x;exact Heap.lt_size e
 | ins C dx fs=>obtain ⟨_,_,_,e,_⟩:=x;exact Heap.lt_size e
 | own y=>obtain ⟨_,e⟩:=x;exact Heap.lt_size e
 | xd fs=>obtain ⟨_,⟨_,_,_,e,_⟩,_⟩:=x;exact Heap.lt_size e
 | rng lo hi=>obtain ⟨_,_,_,e⟩:=x;exact Heap.lt_size e
 | frz ob u=>obtain ⟨e,_⟩:=x;exact Heap.lt_size e
 | tbl ps=>exact Heap.lt_size (show h.get? a=some _ from x)
 | met f y=>exact Heap.lt_size (show h.get? a=some _ from x)
 | ext φ=>obtain ⟨_,⟨_,e⟩,_⟩:=x;exact Heap.lt_size e
theorem Paired.mapP {α β:Type} {F G:α→β→Prop}:∀ {l₁:List α} {l₂:List β},Paired F l₁ l₂→(∀ a b,F a b→G a b)→Paired G l₁ l₂
 | _,_,.nil,_=>.nil
 | _,_,.cons r t,f=>.cons (f _ _ r) (Paired.mapP t f)
theorem ObjOk.stay (x:ObjOk P w H h a o) (k:∀ b u,(b=a ∨ H b=some (.own a))→h.get? b=some u→h'.get? b=some u)
  (ho:∀ b,H b=some (.own a)→H' b=some (.own a)) (ht:∀ b xs,H b=some (.tup xs)→H' b=some (.tup xs)):ObjOk P w H' h' a o:=by
 induction o with
 | lst xs=>obtain ⟨z,its,n,r,e⟩:=x;exact ⟨z,its,n,r,k _ _ (.inl rfl) e⟩
 | tup xs=>obtain ⟨z,its,r,ob,e,c⟩:=x;exact ⟨z,its,r,ob,k _ _ (.inl rfl) e,c⟩
 | dK kvs=>obtain ⟨z,y,vs,r,ob,es,ep,e,c⟩:=x;exact ⟨z,y,vs,r,ob,es,ep,k _ _ (.inl rfl) e,c⟩
 | dT kvs=>
  obtain ⟨z,y,xs,r,ob,es,ep,e,c⟩:=x
  exact ⟨z,y,xs,Paired.mapP r fun p q z=>⟨z.1,ht _ _ z.2.1,z.2.2⟩,ob,es,ep,k _ _ (.inl rfl) e,c⟩
 | set S n=>obtain ⟨ob,es,ep,t,e,c⟩:=x;exact ⟨ob,es,ep,t,k _ _ (.inl rfl) e,c⟩
 | ins C dx fs=>
  obtain ⟨d,z,ne,e,mA,⟨od,es,ep,e2,c⟩,r⟩:=x
  exact ⟨ho _ d,z,ne,k _ _ (.inl rfl) e,mA,⟨od,es,ep,k _ _ (.inr d) e2,c⟩,r⟩
 | own y=>obtain ⟨ob,e⟩:=x;exact ⟨ob,k _ _ (.inl rfl) e⟩
 | xd fs=>obtain ⟨mA,⟨od,es,ep,e,c⟩,r⟩:=x;exact ⟨mA,⟨od,es,ep,k _ _ (.inl rfl) e,c⟩,r⟩
 | rng lo hi=>obtain ⟨t,u,v,e⟩:=x;exact ⟨t,u,v,k _ _ (.inl rfl) e⟩
 | frz ob u ih=>obtain ⟨e,q⟩:=x;exact ⟨k _ _ (.inl rfl) e,ih q⟩
 | tbl ps=>
  have e:h.get? a=some { cls:=.none,data:=.fields ps }:=x
  show h'.get? a=some { cls:=.none,data:=.fields ps }
  exact k a _ (.inl rfl) e
 | met f y=>
  have e:h.get? a=some (PySem.W.methodObj (.ref f) (.ref y)):=x
  show h'.get? a=some (PySem.W.methodObj (.ref f) (.ref y))
  exact k a _ (.inl rfl) e
 | ext φ=>obtain ⟨p,⟨o,e⟩,st⟩:=x;exact ⟨st _ _ p fun o q=>k _ _ (.inl rfl) q,⟨o,k _ _ (.inl rfl) e⟩,st⟩
theorem HOk.lt (x:HOk P w H h) (e:H a=some o):a < h.objs.size:=(x a o e).lt
theorem HOk.fresh (x:HOk P w H h) (e:h.objs.size≤a):H a=none:=by
 cases q:H a with
 | none=>rfl
 | some u=>exact absurd (Nat.lt_of_lt_of_le (x.lt q) e) (Nat.lt_irrefl _)
theorem HOk.kept (x:HOk P w H h) (k:∀ b u,h.get? b=some u→h'.get? b=some u):HOk P w H h':=fun a o e=>
 (x a o e).stay (fun b u _ q=>k b u q) (fun _ q=>q) fun _ _ q=>q
theorem HOk.laid (x:HOk P w H h) (k:∀ b u,h.get? b=some u→h'.get? b=some u) (hp:h.objs.size≤a) (new:ObjOk P w (upd H a o) h' a o):HOk P w (upd H a o) h':=fun b u e=>by
 have hn:=x.fresh hp
 by_cases hb:b=a
 ·subst hb;rw [upd_same] at e;cases e;exact new
 ·rw [upd_ne hb] at e
  exact (x b u e).stay (fun c v _ q=>k c v q) (fun c q=>by rw [upd_ne (ne_of_none q hn)];exact q) fun c xs q=>by rw [upd_ne (ne_of_none q hn)];exact q
end
noncomputable def Rd (H:Hp) (a:Addr) (u:HO):Prop:=H a=some u ∨ ∃ o,H a=some (.frz o u)
theorem Rd.ok {P:Program} {w:World} {H:Hp} {h:Heap} {a:Addr} {u:HO} (r:Rd H a u) (x:HOk P w H h):ObjOk P w H h a u:=by
 rcases r with r | ⟨o,r⟩
 ·exact x a u r
 ·obtain ⟨_,q⟩:=x a _ r
  exact q
noncomputable def Mut:Option HO→Prop
 | some (.lst _)=>True
 | some (.dK _)=>True
 | some (.dT _)=>True
 | some (.set _ _)=>True
 | some (.ins _ _ _)=>True
 | some (.ext _)=>True
 | _=>False
section
variable {P:Program} {w:World} {H:Hp} {h h':Heap} {x e:Addr} {o':HO}
theorem HOk.write (ok:HOk P w H h) (mu:Mut (H x)) (he:e=x ∨ H e=some (.own x)) (k:∀ b u,b ≠ e→h.get? b=some u→h'.get? b=some u) (heo:∃ u,h'.get? e=some u)
  (new:ObjOk P w (upd H x o') h' x o'):HOk P w (upd H x o') h':=fun b u q=>by
 have nown:∀ c y,H c=some (.own y)→c ≠ x:=fun c y r z=>by subst z;rw [r] at mu;exact mu
 have ntup:∀ c xs,H c=some (.tup xs)→c ≠ x:=fun c xs r z=>by subst z;rw [r] at mu;exact mu
 by_cases hb:b=x
 ·subst hb;rw [upd_same] at q;cases q;exact new
 ·rw [upd_ne hb] at q
  by_cases hbe:b=e
  ·have q':H b=some (.own x):=by
    rcases he with z | z
    ·exact absurd (hbe.trans z) hb
    ·rw [hbe];exact z
   rw [q] at q';cases q'
   obtain ⟨v,hv⟩:=heo
   exact ⟨v,by rw [hbe];exact hv⟩
  ·refine (ok b u q).stay (fun c v hc r=>k c v ?_ r) (fun c r=>by rw [upd_ne (nown c b r)];exact r) fun c xs r=>by rw [upd_ne (ntup c xs r)];exact r
   rcases hc with rfl | hc
   ·exact hbe
   ·rintro rfl
    rcases he with z | z
    ·exact nown c b hc z
    ·rw [hc] at z;cases z;exact hb rfl
end
structure Un (fs ex:List Addr) (H H':Hp) (h h':Heap):Prop where
 keep:∀ b o,h.get? b=some o→H b=none→b ∉ fs→b ∉ ex→h'.get? b=some o
 slot:∀ b o,h.get? b=some o→H b=none→b ∈ fs→b ∉ ex→∃ sl,h'.get? b=some { o with slots:=sl }
 free:∀ b o,h.get? b=some o→H b=none→b ∉ ex→H' b=none
 there:∀ b o,h.get? b=some o→b ∉ ex→∃ o',h'.get? b=some o'
 tups:∀ b xs,H b=some (.tup xs)→H' b=some (.tup xs)
 frzs:∀ b o u,H b=some (.frz o u)→H' b=some (.frz o u)
 tbls:∀ b ps,H b=some (.tbl ps)→∃ more,H' b=some (.tbl (ps++more))
section
variable {fs fs' ex ex':List Addr} {H H1 H2:Hp} {h h1 h2 h':Heap} {a x e:Addr} {o:HO}
theorem Un.any (u:Un fs ex H H1 h h1) {b:Addr} {ob:Obj} (q:h.get? b=some ob) (n:H b=none) (hx:b ∉ ex):∃ sl,h1.get? b=some { ob with slots:=sl }:=by
 by_cases hb:b ∈ fs
 ·exact u.slot b ob q n hb hx
 ·exact ⟨ob.slots,u.keep b ob q n hb hx⟩
theorem Un.kept (k:∀ b u,h.get? b=some u→h'.get? b=some u):Un fs ex H H h h':=
 ⟨fun b ob q _ _ _=>k b ob q,fun b ob q _ _ _=>⟨ob.slots,k b ob q⟩,fun _ _ _ n _=>n,fun b ob q _=>⟨ob,k b ob q⟩,fun _ _ q=>q,fun _ _ _ q=>q,fun _ ps q=>⟨#[],by rw [q];simp⟩⟩
theorem Un.refl:Un fs ex H H h h:=Un.kept fun _ _ q=>q
theorem Un.laid (k:∀ b u,h.get? b=some u→h'.get? b=some u) (hp:h.objs.size≤a) (hn:H a=none):Un fs ex H (upd H a o) h h' where
 keep:=fun b u q _ _ _=>k b u q
 slot:=fun b u q _ _ _=>⟨u.slots,k b u q⟩
 free:=fun b u q n _=>by rw [upd_ne (Nat.ne_of_lt (Nat.lt_of_lt_of_le (Heap.lt_size q) hp))];exact n
 there:=fun b u q _=>⟨u,k b u q⟩
 tups:=fun b xs q=>by rw [upd_ne (ne_of_none q hn)];exact q
 frzs:=fun b u xs q=>by rw [upd_ne (ne_of_none q hn)];exact q
 tbls:=fun b ps q=>⟨#[],by rw [upd_ne (ne_of_none q hn),q];simp⟩
theorem Un.write (mu:Mut (H x)) (he:e=x ∨ H e=some (.own x)) (k:∀ b u,b ≠ e→h.get? b=some u→h'.get? b=some u) (heo:∃ u,h'.get? e=some u):Un fs ex H (upd H x o) h h':=by
 have hx:∀ b,H b=none→b ≠ x:=fun b n z=>by subst z;rw [n] at mu;exact mu
 have hb:∀ b,H b=none→b ≠ e:=fun b n z=>by
  subst z
  rcases he with r | r
  ·exact hx b n r
  ·rw [n] at r;cases r
 have hm:∀ b u,H b=some u→¬ Mut (some u)→b ≠ x:=fun b u q nm z=>by subst z;rw [q] at mu;exact nm mu
 refine ⟨fun b u q n _ _=>k b u (hb b n) q,fun b u q n _ _=>⟨u.slots,k b u (hb b n) q⟩,fun b u q n _=>by rw [upd_ne (hx b n)];exact n,fun b u q _=>?_,
  fun b xs q=>by rw [upd_ne (hm b _ q fun z=>z)];exact q,fun b u xs q=>by rw [upd_ne (hm b _ q fun z=>z)];exact q,fun b ps q=>⟨#[],by rw [upd_ne (hm b _ q fun z=>z),q];simp⟩⟩
 by_cases hbe:b=e
 ·subst hbe;exact heo
 ·exact ⟨u,k b u hbe q⟩
end
noncomputable def trk (h:Heap) (H:Hp):List Addr:=(List.range h.objs.size).filter fun a=>(H a).isSome
noncomputable def hidT (h:Heap) (H:Hp):Heap:=PySem.W.hideAll h (trk h H)
theorem hidT_size (h:Heap) (H:Hp):(hidT h H).objs.size=h.objs.size:=PySem.W.hideAll_size _ _
theorem hidT_get {h:Heap} {H:Hp} {b:Addr} {o:Obj} (e:h.get? b=some o) (n:H b=none):(hidT h H).get? b=some o:=
 PySem.W.hideAll_get _ e fun hm=>by
  have q:(H b).isSome=true:=(List.mem_filter.mp hm).2
  rw [n] at q;simp at q
theorem of_hidT {h:Heap} {H:Hp} {b:Addr} {o:Obj} (e:(hidT h H).get? b=some o):h.get? b=some o∧H b=none:=by
 have e':h.get? b=some o:=PySem.W.of_hideAll (trk h H) e
 refine ⟨e',?_⟩
 cases q:H b with
 | none=>rfl
 | some x=>
  have hm:b ∈ trk h H:=List.mem_filter.mpr ⟨List.mem_range.mpr (Heap.lt_size e'),by simp [q]⟩
  have z:(hidT h H).get? b=none:=PySem.W.hideAll_none (trk h H) hm
  rw [z] at e;cases e
noncomputable def allNews (g h:Heap) (L:Addr):List (Addr × Obj):=(List.range h.objs.size).filterMap fun a=>if a=L ∨ (g.get? a).isSome=true then none else (h.get? a).map fun o=>(a,o)
noncomputable def rest (g h:Heap) (L d:Addr):List (Addr × Obj):=(allNews g h L).filter fun p=>decide (p.1 ≠ d)
end L2
namespace L2
open PySem PySem.Spec PyProof.Rows
structure Mod (K:PySem.W.Frag) (mg:Str→Option Value) (base:Heap):Prop where
 kin:K.In base
 glob:base.Ns mainGlobals mg
 blt:∃ mb,base.Ns builtinsNs mb∧∀ x:Str,x ≠ "__name__"→mb x=bootBuiltins x
 nolimit:base.NoLimit
structure Cx where
 prog:Program
 w:World
 K:PySem.W.Frag
 mg:Str→Option Value
 base:Heap
 A:Around
 N:List Str
 s₀:Shared
 H₀:Hp
 env:Env
 outer:List Env
 stack:List Env
 ex:List Addr
 fn:Str→Bool
 calm:Bool
 pn:List (Addr × Obj)
 xe:Value→Shared→Prop
 ow:Str→Bool:=fun _=>false
noncomputable def frs (l:List Env):List Addr:=l.filterMap (·.frame)
noncomputable abbrev Cx.fs (X:Cx):List Addr:=frs X.outer
noncomputable def Vis (sc:Scope) (x:Str):Prop:=sc.names.lookup x=some .local ∨ sc.names.lookup x=some .cell ∨ sc.names.lookup x=some .free
noncomputable def Loc (sc:Scope) (x:Str):Prop:=sc.names.lookup x=some .local ∨ sc.names.lookup x=some .cell
noncomputable def Look (env:Env) (h:Heap) (m:Str→Option Value) (x:Str) (u:Value):Prop:=
 (env.kindOf x=some .local∧m x=some u) ∨ ((env.kindOf x=some .cell ∨ env.kindOf x=some .free)∧∃ c,env.cells.lookup x=some c∧h.IsCell c (some u))
structure Cx.Ok (X:Cx):Prop where
 mod:Mod X.K X.mg X.base
 kind:X.env.scope.kind=.function
 glob:X.env.globals=mainGlobals
 blt:X.env.builtins=builtinsNs
 above:X.s₀.heap.objs.size≤X.env.locals
 inj:∀ x y c,X.env.cells.lookup x=some c→X.env.cells.lookup y=some c→x=y
 has:∀ x,(X.env.kindOf x=some .cell ∨ X.env.kindOf x=some .free)→∃ c,X.env.cells.lookup x=some c
 cab:∀ x c,X.fn x=true ∨ X.ow x=true→X.env.cells.lookup x=some c→X.s₀.heap.objs.size≤c
 hd:X.calm=true→X.A.handled=none
 frames:X.A.frames=some X.stack
 stk:X.stack=X.outer ∨ (X.stack=X.env::X.outer∧X.env.frame=some X.env.locals)
 exf:∀ b ∈ X.ex,b ≠ X.env.locals∧∀ x c,X.env.cells.lookup x=some c→c ≠ b
 bs:∀ b o,X.base.get? b=some o→X.s₀.heap.get? b=some o∧X.H₀ b=none
 bsz:X.base.objs.size≤X.s₀.heap.objs.size
 noex:∀ b o,X.base.get? b=some o→b ∉ X.ex
 exfs:∀ b ∈ X.ex,b ∉ X.fs
 funs:X.s₀.heap.FunFrames X.base X.outer
 frf:∀ b ∈ X.fs,X.H₀ b=none
structure Inv (X:Cx) (pins:List (Addr × Obj)) (σ:List (Option V)) (H:Hp) (s:Shared):Prop where
 ok:X.Ok
 os:s.os=X.s₀.os
 bare:AllBare s.gens
 base:Un X.fs X.ex X.H₀ H X.s₀.heap s.heap
 loc:∃ m,s.heap.Ns X.env.locals m∧∀ (i:Nat) (x:Str) (v:V),X.N[i]?=some x→σ[i]?=some (some v)→Vis X.env.scope x→∃ u,RelV v u∧Look X.env s.heap m x u
 cell:∀ x c,X.env.cells.lookup x=some c→∃ v,s.heap.IsCell c v
 free:H X.env.locals=none
 freeC:∀ x c,X.env.cells.lookup x=some c→H c=none ∨ (X.fn x=false∧∃ o u,H c=some (.frz o u))
 pin:∀ p ∈ X.pn++pins,s.heap.get? p.1=some p.2∧H p.1=none∧p.1 ≠ X.env.locals∧p.1 ∉ X.fs∧∀ v,p.2.data ≠ .cell v
 hok:HOk X.prog X.w H s.heap
 len:σ.length=X.N.length
section
variable {X:Cx} {pins:List (Addr × Obj)} {σ:List (Option V)} {H H':Hp} {s:Shared} {h':Heap}
theorem Cx.Ok.nofr (ok:X.Ok) {b:Addr} {o:Obj} (e:X.base.get? b=some o):b ∉ X.fs:=fun hb=>by
 have:=(ok.funs.mem hb).1
 rw [e] at this;cases this
theorem Inv.bs (I:Inv X pins σ H s):∀ b o,X.base.get? b=some o→s.heap.get? b=some o∧H b=none:=fun b o e=>
 ⟨I.base.keep b o (I.ok.bs b o e).1 (I.ok.bs b o e).2 (I.ok.nofr e) (I.ok.noex b o e),I.base.free b o (I.ok.bs b o e).1 (I.ok.bs b o e).2 (I.ok.noex b o e)⟩
theorem Inv.bk (I:Inv X pins σ H s):∀ b o,X.base.get? b=some o→s.heap.get? b=some o:=fun b o e=>(I.bs b o e).1
theorem Inv.mod (I:Inv X pins σ H s):Mod X.K X.mg X.base:=I.ok.mod
theorem Inv.kIn (I:Inv X pins σ H s):X.K.In s.heap:=I.ok.mod.kin.keeps I.bk
theorem Inv.lt (I:Inv X pins σ H s):X.env.locals < s.heap.objs.size:=let ⟨_,hn,_⟩:=I.loc;hn.lt
theorem Inv.sz (I:Inv X pins σ H s):X.s₀.heap.objs.size≤s.heap.objs.size:=Nat.le_trans I.ok.above (Nat.le_of_lt I.lt)
theorem Inv.nofs (I:Inv X pins σ H s) {a:Addr} (h:s.heap.objs.size≤a):a ∉ X.fs:=fun hb=>by
 obtain ⟨_,o,ho,_⟩:=I.ok.funs.mem hb
 exact absurd (Nat.lt_of_lt_of_le (Heap.lt_size ho) (Nat.le_trans I.sz h)) (Nat.lt_irrefl _)
theorem Inv.cne (I:Inv X pins σ H s):∀ x c,X.env.cells.lookup x=some c→c ≠ X.env.locals:=fun x c e z=>by
 obtain ⟨v,o,ho,hd⟩:=I.cell x c e
 obtain ⟨m,⟨o',es,ep,ho',hd',_⟩,_⟩:=I.loc
 rw [z,ho'] at ho;cases ho;rw [hd'] at hd;cases hd
theorem Inv.funs (I:Inv X pins σ H s):s.heap.FunFrames X.base X.outer:=by
 have all:∀ (l:List Env),(∀ b ∈ frs l,b ∈ X.fs)→X.s₀.heap.FunFrames X.base l→s.heap.FunFrames X.base l:=by
  intro l
  induction l with
  | nil=>intro _ _;trivial
  | cons env r ih=>
   intro hs hl
   obtain ⟨hk,⟨L,o,hf,hn,ho,hd⟩,hr⟩:=hl
   have hL:L ∈ X.fs:=hs L (by unfold frs;rw [List.filterMap_cons,hf];exact List.mem_cons_self)
   obtain ⟨sl,e⟩:=I.base.slot L o ho (I.ok.frf L hL) hL fun z=>I.ok.exfs L z hL
   exact ⟨hk,⟨L,_,hf,hn,e,hd⟩,ih (fun b hb=>hs b (by unfold frs;rw [List.filterMap_cons,hf];exact List.mem_cons_of_mem _ hb)) hr⟩
 exact all X.outer (fun _ hb=>hb) I.ok.funs
theorem Inv.stack (I:Inv X pins σ H s):s.heap.FunFrames X.base X.stack:=by
 rcases I.ok.stk with e | ⟨e,hf⟩
 ·rw [e];exact I.funs
 ·rw [e]
  obtain ⟨m,hn,_⟩:=I.loc
  refine .cons (by rw [I.ok.kind];decide) hf hn ?_ I.funs
  exact Heap.get?_none_of_le (Nat.le_trans I.ok.bsz I.ok.above)
theorem Inv.stkSub (I:Inv X pins σ H s):∀ b ∈ frs X.stack,b ∈ X.env.locals::X.fs:=fun b hb=>by
 rcases I.ok.stk with e | ⟨e,hf⟩
 ·rw [e] at hb;exact List.mem_cons_of_mem _ hb
 ·rw [e] at hb
  unfold frs at hb
  rw [List.filterMap_cons,hf] at hb
  exact hb
theorem Inv.stkFree (I:Inv X pins σ H s):∀ b ∈ frs X.stack,H b=none:=fun b hb=>by
 rcases List.mem_cons.mp (I.stkSub b hb) with e | hb
 ·rw [e];exact I.free
 ·obtain ⟨_,o,ho,_⟩:=I.ok.funs.mem hb
  exact I.base.free b o ho (I.ok.frf b hb) fun z=>I.ok.exfs b z hb
theorem Inv.step {g':Array GenState} {t':Nat} {d':Drawn} {ch:List Addr} (I:Inv X pins σ H s)
  (hch:∀ b ∈ ch,(b ∈ X.ex ∨ X.s₀.heap.objs.size≤b)∧b ≠ X.env.locals∧(∀ x c,X.env.cells.lookup x=some c→c ≠ b)∧∀ p ∈ X.pn++pins,p.1 ≠ b)
  (keep:∀ b o,b ≠ X.env.locals→b ∉ X.fs→b ∉ ch→s.heap.get? b=some o→H b=none→h'.get? b=some o)
  (slot:∀ b o,b ≠ X.env.locals→b ∈ X.fs→b ∉ ch→s.heap.get? b=some o→H b=none→∃ sl,h'.get? b=some { o with slots:=sl }) (free:∀ b o,b ∉ ch→s.heap.get? b=some o→H b=none→H' b=none)
  (there:∀ b o,b ∉ ch→s.heap.get? b=some o→∃ o',h'.get? b=some o')
  (tups:∀ b xs,H b=some (.tup xs)→H' b=some (.tup xs)) (frzs:∀ b o u,H b=some (.frz o u)→H' b=some (.frz o u)) (tbls:∀ b ps,H b=some (.tbl ps)→∃ more,H' b=some (.tbl (ps++more)))
  (ns:∀ m,s.heap.Ns X.env.locals m→h'.Ns X.env.locals m) (hok:HOk X.prog X.w H' h') (hg:AllBare g') :
  Inv X pins σ H' { s with heap:=h',gens:=g',drawn:=d',toks:=t' }:=by
 have neL:∀ b o,X.s₀.heap.get? b=some o→b ≠ X.env.locals:=fun b o e=>Nat.ne_of_lt (Nat.lt_of_lt_of_le (Heap.lt_size e) I.ok.above)
 have neC:∀ b o,X.s₀.heap.get? b=some o→b ∉ X.ex→b ∉ ch:=fun b o e hx hb=>by
  rcases (hch b hb).1 with z | z
  ·exact hx z
  ·exact absurd (Nat.lt_of_lt_of_le (Heap.lt_size e) z) (Nat.lt_irrefl _)
 have cellK:∀ x c,X.env.cells.lookup x=some c→∀ v,s.heap.IsCell c v→h'.IsCell c v:=fun x c e v ⟨o,ho,hd⟩=>by
  have nch:c ∉ ch:=fun z=>(hch c z).2.2.1 x c e rfl
  rcases I.freeC x c e with hfr | ⟨_,oz,uz,hz⟩
  ·by_cases hc:c ∈ X.fs
   ·obtain ⟨sl,q⟩:=slot c o (I.cne x c e) hc nch ho hfr
    exact ⟨_,q,hd⟩
   ·exact ⟨o,keep c o (I.cne x c e) hc nch ho hfr,hd⟩
  ·obtain ⟨h1,_⟩:=I.hok c _ hz
   obtain ⟨h2,_⟩:=hok c _ (frzs c oz uz hz)
   rw [h1] at ho
   cases ho
   exact ⟨_,h2,hd⟩
 refine ⟨I.ok,I.os,hg,⟨fun b o e n hb hx=>?_,fun b o e n hb hx=>?_,fun b o e n hx=>?_,fun b o e hx=>?_,fun b xs e=>tups b xs (I.base.tups b xs e),fun b o xs e=>frzs b o xs (I.base.frzs b o xs e),fun b ps e=>?_⟩,?_,fun x c e=>?_,?_,fun x c e=>?_,fun p hp=>?_,hok,I.len⟩
 ·exact keep b o (neL b o e) hb (neC b o e hx) (I.base.keep b o e n hb hx) (I.base.free b o e n hx)
 ·obtain ⟨sl,e1⟩:=I.base.slot b o e n hb hx
  obtain ⟨sl',e2⟩:=slot b _ (neL b o e) hb (neC b o e hx) e1 (I.base.free b o e n hx)
  exact ⟨sl',e2⟩
 ·obtain ⟨o',e1⟩:=I.base.there b o e hx
  exact free b o' (neC b o e hx) e1 (I.base.free b o e n hx)
 ·obtain ⟨o',e1⟩:=I.base.there b o e hx
  exact there b o' (neC b o e hx) e1
 ·obtain ⟨m1,e1⟩:=I.base.tbls b ps e
  obtain ⟨m2,e2⟩:=tbls b _ e1
  exact ⟨m1++m2,by rw [e2,Array.append_assoc]⟩
 ·obtain ⟨m,hn,hl⟩:=I.loc
  refine ⟨m,ns m hn,fun i x v e1 e2 e3=>?_⟩
  obtain ⟨u,r,l⟩:=hl i x v e1 e2 e3
  refine ⟨u,r,?_⟩
  rcases l with l | ⟨k,c,e,z⟩
  ·exact .inl l
  ·exact .inr ⟨k,c,e,cellK x c e _ z⟩
 ·obtain ⟨v,z⟩:=I.cell x c e
  exact ⟨v,cellK x c e v z⟩
 ·obtain ⟨m,⟨o,_,_,ho,_⟩,_⟩:=I.loc
  exact free _ o (fun z=>(hch _ z).2.1 rfl) ho I.free
 ·obtain ⟨v,o,ho,hd⟩:=I.cell x c e
  rcases I.freeC x c e with hfr | ⟨hfn,oz,uz,hz⟩
  ·exact .inl (free c o (fun z=>(hch c z).2.2.1 x c e rfl) ho hfr)
  ·exact .inr ⟨hfn,oz,uz,frzs c oz uz hz⟩
 ·obtain ⟨e,n,ne,nf,d⟩:=I.pin p hp
  have nch:p.1 ∉ ch:=fun z=>(hch p.1 z).2.2.2 p hp rfl
  exact ⟨keep p.1 p.2 ne nf nch e n,free p.1 p.2 nch e n,ne,nf,d⟩
theorem Inv.un {t':Nat} (I:Inv X pins σ H s) (u:Un X.fs [] H H' s.heap h') (hok:HOk X.prog X.w H' h'):Inv X pins σ H' { s with heap:=h',toks:=t' }:=by
 obtain ⟨m,⟨o,es,ep,ho,r⟩,_⟩:=id I.loc
 obtain ⟨sl,hL⟩:=u.any ho I.free (by simp)
 exact I.step (g':=s.gens) (d':=s.drawn) (ch:=[]) (fun _ z=>nomatch z) (fun b o _ hb _ e n=>u.keep b o e n hb (by simp)) (fun b o _ hb _ e n=>u.slot b o e n hb (by simp)) (fun b o _ e n=>u.free b o e n (by simp)) (fun b o _ e=>u.there b o e (by simp)) u.tups u.frzs u.tbls (fun m' hm=>by
  obtain ⟨o',es',ep',ho',r'⟩:=hm
  rw [ho] at ho';cases ho'
  exact ⟨_,es',ep',hL,r'⟩) hok I.bare
theorem Inv.call {g':Array GenState} {t':Nat} {d':Drawn} {ch:List Addr} (I:Inv X pins σ H s) (u:Un (frs X.stack) ch H H' s.heap h') (hok:HOk X.prog X.w H' h') (hg:AllBare g')
  (hch:∀ b ∈ ch,(b ∈ X.ex ∨ X.s₀.heap.objs.size≤b)∧b ≠ X.env.locals∧(∀ x c,X.env.cells.lookup x=some c→c ≠ b)∧∀ p ∈ X.pn++pins,p.1 ≠ b) :
  Inv X pins σ H' { s with heap:=h',gens:=g',drawn:=d',toks:=t' }:=by
 obtain ⟨m,⟨o,es,ep,ho,r⟩,_⟩:=id I.loc
 obtain ⟨sl,hL⟩:=u.any ho I.free fun z=>(hch _ z).2.1 rfl
 exact I.step (ch:=ch) hch (fun b o hL hb hc e n=>u.keep b o e n (fun z=>(List.mem_cons.mp (I.stkSub b z)).elim hL hb) hc) (fun b o _ _ hc e n=>u.any e n hc) (fun b o hc e n=>u.free b o e n hc) (fun b o hc e=>u.there b o e hc) u.tups u.frzs u.tbls (fun m' hm=>by
  obtain ⟨o',es',ep',ho',r'⟩:=hm
  rw [ho] at ho';cases ho'
  exact ⟨_,es',ep',hL,r'⟩) hok hg
theorem Inv.turned {t':Nat} {it:Addr} (I:Inv X pins σ H s) (k:∀ b o,b ≠ it→s.heap.get? b=some o→h'.get? b=some o) (hn:H it=none) (hL:it ≠ X.env.locals)
  (h1:it ∈ X.ex ∨ X.s₀.heap.objs.size≤it) (h2:∀ x c,X.env.cells.lookup x=some c→c ≠ it) (h3:∀ p ∈ X.pn++pins,p.1 ≠ it):Inv X pins σ H { s with heap:=h',toks:=t' }:=by
 have nit:∀ b u,H b=some u→b ≠ it:=fun b u e z=>by rw [z,hn] at e;cases e
 refine I.step (g':=s.gens) (d':=s.drawn) (ch:=[it]) (fun b hb=>?_) (fun b o _ _ hc e _=>k b o (fun z=>hc (by simp [z])) e) (fun b o _ _ hc e _=>⟨o.slots,k b o (fun z=>hc (by simp [z])) e⟩) (fun _ _ _ _ n=>n)
  (fun b o hc e=>⟨o,k b o (fun z=>hc (by simp [z])) e⟩) (fun _ _ e=>e) (fun _ _ _ e=>e) (fun b ps e=>⟨#[],by rw [e];simp⟩) (fun m hm=>?_) (fun b u e=>?_) I.bare
 ·have e:b=it:=by simpa using hb
  subst e
  exact ⟨h1,hL,h2,h3⟩
 ·obtain ⟨o,es,ep,ho,r⟩:=hm
  exact ⟨o,es,ep,k _ o (Ne.symm hL) ho,r⟩
 ·refine (I.hok b u e).stay (fun c v hc q=>k c v ?_ q) (fun _ q=>q) fun _ _ q=>q
  rcases hc with z | z
  ·rw [z];exact nit b u e
  ·exact nit c _ z
theorem Inv.tok (I:Inv X pins σ H s) (t:Nat):Inv X pins σ H { s with toks:=t }:=I.un (h':=s.heap) (t':=t) Un.refl I.hok
theorem Inv.kept {t':Nat} (I:Inv X pins σ H s) (k:∀ b u,s.heap.get? b=some u→h'.get? b=some u):Inv X pins σ H { s with heap:=h',toks:=t' }:=I.un (Un.kept k) (I.hok.kept k)
theorem Inv.laid {a:Addr} {o:HO} {t':Nat} (I:Inv X pins σ H s) (k:∀ b u,s.heap.get? b=some u→h'.get? b=some u) (hp:s.heap.objs.size≤a) (new:ObjOk X.prog X.w (upd H a o) h' a o) :
  Inv X pins σ (upd H a o) { s with heap:=h',toks:=t' }:=I.un (Un.laid k hp (I.hok.fresh hp)) (I.hok.laid k hp new)
theorem Inv.write {x e:Addr} {o:HO} {t':Nat} (I:Inv X pins σ H s) (mu:Mut (H x)) (he:e=x ∨ H e=some (.own x)) (k:∀ b u,b ≠ e→s.heap.get? b=some u→h'.get? b=some u) (heo:∃ u,h'.get? e=some u)
  (new:ObjOk X.prog X.w (upd H x o) h' x o):Inv X pins σ (upd H x o) { s with heap:=h',toks:=t' }:=I.un (Un.write mu he k heo) (I.hok.write mu he k heo new)
theorem Inv.pins_of {pins':List (Addr × Obj)} (I:Inv X pins σ H s) (h:∀ p ∈ pins',s.heap.get? p.1=some p.2∧H p.1=none∧p.1 ≠ X.env.locals∧p.1 ∉ X.fs∧∀ v,p.2.data ≠ .cell v):Inv X pins' σ H s:=
 ⟨I.ok,I.os,I.bare,I.base,I.loc,I.cell,I.free,I.freeC,fun p hp=>(List.mem_append.mp hp).elim (fun z=>I.pin p (List.mem_append_left _ z)) (h p),I.hok,I.len⟩
theorem nodup_ix {N:List Str} (hN:N.Nodup) {i j:Nat} {x:Str} (a:N[i]?=some x) (b:N[j]?=some x):i=j:=by
 obtain ⟨h1,e1⟩:=List.getElem?_eq_some_iff.mp a
 obtain ⟨h2,e2⟩:=List.getElem?_eq_some_iff.mp b
 exact (List.getElem_inj hN).mp (e1.trans e2.symm)
theorem store_ok2 {M:Model} {A:Around} {E:Value→Shared→Prop} {i:Nat} {x:Str} {v:V} {u:Value} {Q:Unit→Shared→Prop} (I:Inv X pins σ H s) (hN:X.N.Nodup) (hi:X.N[i]?=some x) (hx:Loc X.env.scope x) (r:RelV v u)
  (h:∀ s',Inv X pins (σ.set i (some v)) H s'→(∃ a,Heap.SameBut a s.heap s'.heap∧(a=X.env.locals ∨ X.env.cells.lookup x=some a))→Q () s') (hf:X.fn x=true ∨ X.env.scope.names.lookup x=some .local:=by first | exact .inl rfl | exact .inr rfl | assumption):wpAny M A (storeName X.env x u) Q E s:=by
 obtain ⟨m,hn,hl⟩:=id I.loc
 have hcls:(X.env.scope.kind == .class || (X.env.scope.kind == .module && X.env.locals != X.env.globals))=false:=by rw [I.ok.kind];rfl
 have hiσ:i < σ.length:=by rw [I.len];exact (List.getElem?_eq_some_iff.mp hi).1
 have cne:=I.cne
 have tracked:∀ {a:Addr} {h':Heap},(∃ o,s.heap.get? a=some o∧H a=none)→Heap.SameBut a s.heap h'→HOk X.prog X.w H h':=fun {a h'} ha hs b ob e=>by
  obtain ⟨_,_,hfree⟩:=ha
  refine (I.hok b ob e).stay (fun c w' hc q=>(hs.2 c ?_).trans q) (fun _ q=>q) fun _ _ q=>q
  rintro rfl
  rcases hc with rfl | hc
  ·rw [hfree] at e;cases e
  ·rw [hfree] at hc;cases hc
 rcases hx with hk | hk
 ·refine wpAny_storeName_local hk hn (fun h' hn' hs=>?_) hcls
  obtain ⟨oL,_,_,hoL,_⟩:=id hn
  refine h _ ⟨I.ok,I.os,I.bare,⟨fun b o e n hb hx=>?_,fun b o e n hb hx=>?_,I.base.free,fun b o e hx=>?_,I.base.tups,I.base.frzs,I.base.tbls⟩,⟨_,hn',fun j y v' e1 e2 e3=>?_⟩,fun y c e=>?_,I.free,I.freeC,fun p hp=>?_,tracked ⟨oL,hoL,I.free⟩ hs,by simpa using I.len⟩ ⟨_,hs,.inl rfl⟩
  ·exact (hs.2 b (Nat.ne_of_lt (Nat.lt_of_lt_of_le (Heap.lt_size e) I.ok.above))).trans (I.base.keep b o e n hb hx)
  ·obtain ⟨sl,e1⟩:=I.base.slot b o e n hb hx
   exact ⟨sl,(hs.2 b (Nat.ne_of_lt (Nat.lt_of_lt_of_le (Heap.lt_size e) I.ok.above))).trans e1⟩
  ·obtain ⟨o',e1⟩:=I.base.there b o e hx
   exact ⟨o',(hs.2 b (Nat.ne_of_lt (Nat.lt_of_lt_of_le (Heap.lt_size e) I.ok.above))).trans e1⟩
  ·by_cases hj:j=i
   ·subst hj
    rw [hi] at e1;cases e1
    rw [List.getElem?_set_self hiσ] at e2
    cases e2
    exact ⟨u,r,.inl ⟨hk,by simp⟩⟩
   ·rw [List.getElem?_set_ne (Ne.symm hj)] at e2
    obtain ⟨u',r',q⟩:=hl j y v' e1 e2 e3
    refine ⟨u',r',?_⟩
    rcases q with ⟨k,e⟩ | ⟨k,c,e,z⟩
    ·refine .inl ⟨k,?_⟩
     have:y ≠ x:=fun e=>hj (nodup_ix hN e1 (e ▸ hi))
     simp [this,e]
    ·exact .inr ⟨k,c,e,z.sameBut hs (cne y c e)⟩
  ·obtain ⟨w',z⟩:=I.cell y c e
   exact ⟨w',z.sameBut hs (cne y c e)⟩
  ·obtain ⟨e,n,ne,nf,d⟩:=I.pin p hp
   exact ⟨(hs.2 p.1 ne).trans e,n,ne,nf,d⟩
 ·have hfn:X.fn x=true:=by
   rcases hf with z | z
   ·exact z
   ·rw [z] at hk;cases hk
  obtain ⟨c,hc⟩:=I.ok.has x (.inl hk)
  obtain ⟨w',z⟩:=I.cell x c hc
  have hfree:H c=none:=(I.freeC x c hc).resolve_right fun z=>by rw [hfn] at z;exact absurd z.1 (by decide)
  refine wpAny_storeName_cell I.ok.kind hk hc z (fun h' hc' hs=>?_)
  obtain ⟨oc,hoc,hocd⟩:=id z
  refine h { s with heap:=h' } ⟨I.ok,I.os,I.bare,⟨fun b o e n hb hx=>?_,fun b o e n hb hx=>?_,I.base.free,fun b o e hx=>?_,I.base.tups,I.base.frzs,I.base.tbls⟩,⟨m,hn.sameBut hs (Ne.symm (cne x c hc)),fun j y v' e1 e2 e3=>?_⟩,fun y c' e=>?_,I.free,I.freeC,fun p hp=>?_,tracked ⟨oc,hoc,hfree⟩ hs,by simpa using I.len⟩ ⟨c,hs,.inr hc⟩
  ·exact (hs.2 b (Nat.ne_of_lt (Nat.lt_of_lt_of_le (Heap.lt_size e) (I.ok.cab x c (.inl hfn) hc)))).trans (I.base.keep b o e n hb hx)
  ·obtain ⟨sl,e1⟩:=I.base.slot b o e n hb hx
   exact ⟨sl,(hs.2 b (Nat.ne_of_lt (Nat.lt_of_lt_of_le (Heap.lt_size e) (I.ok.cab x c (.inl hfn) hc)))).trans e1⟩
  ·obtain ⟨o',e1⟩:=I.base.there b o e hx
   exact ⟨o',(hs.2 b (Nat.ne_of_lt (Nat.lt_of_lt_of_le (Heap.lt_size e) (I.ok.cab x c (.inl hfn) hc)))).trans e1⟩
  ·by_cases hj:j=i
   ·subst hj
    rw [hi] at e1;cases e1
    rw [List.getElem?_set_self hiσ] at e2
    cases e2
    exact ⟨u,r,.inr ⟨.inl hk,c,hc,hc'⟩⟩
   ·rw [List.getElem?_set_ne (Ne.symm hj)] at e2
    obtain ⟨u',r',q⟩:=hl j y v' e1 e2 e3
    refine ⟨u',r',?_⟩
    rcases q with q | ⟨k,c',e,z'⟩
    ·exact .inl q
    ·refine .inr ⟨k,c',e,z'.sameBut hs ?_⟩
     rintro rfl
     exact hj (nodup_ix hN e1 (I.ok.inj _ _ _ e hc ▸ hi))
  ·by_cases hcc:c'=c
   ·subst hcc;exact ⟨_,hc'⟩
   ·obtain ⟨w2,z2⟩:=I.cell y c' e
    exact ⟨w2,z2.sameBut hs hcc⟩
  ·obtain ⟨e,n,ne,nf,d⟩:=I.pin p hp
   refine ⟨(hs.2 p.1 ?_).trans e,n,ne,nf,d⟩
   intro q
   rw [q,hoc] at e
   have q':oc=p.2:=Option.some.inj e
   exact d w' (by rw [← q'];exact hocd)
theorem store_ok {M:Model} {A:Around} {E:Value→Shared→Prop} {i:Nat} {x:Str} {v:V} {u:Value} {Q:Unit→Shared→Prop} (I:Inv X pins σ H s) (hN:X.N.Nodup) (hi:X.N[i]?=some x) (hx:Loc X.env.scope x) (r:RelV v u)
  (h:∀ s',Inv X pins (σ.set i (some v)) H s'→Q () s') (hf:X.fn x=true ∨ X.env.scope.names.lookup x=some .local:=by first | exact .inl rfl | exact .inr rfl | assumption):wpAny M A (storeName X.env x u) Q E s:=
 store_ok2 I hN hi hx r (fun s' I' _=>h s' I') hf
end
noncomputable abbrev XK:=Value→Option Addr→Hp→Prop
noncomputable abbrev St:=List (Option V)
noncomputable abbrev VK:=V→Hp→Prop
noncomputable abbrev TE:=St→Hp→VK→Prop
noncomputable abbrev TT:=St→Hp→(Bool→Hp→Prop)→Prop
noncomputable abbrev TA:=St→Hp→(List V→Hp→Prop)→Prop
structure Ends where
 nx:St→Hp→Prop
 rt:VK
 bk:St→Hp→Prop:=fun _ _=>False
 ct:St→Hp→Prop:=fun _ _=>False
noncomputable abbrev TS:=Ends→St→Hp→Prop
noncomputable def EP (X:Cx) (pins:List (Addr × Obj)) (σ:St) (Q:VK) (u:Value) (s':Shared):Prop:=∃ v H',Inv X pins σ H' s'∧RelV v u∧Q v H'
noncomputable def TP (X:Cx) (pins:List (Addr × Obj)) (σ:St) (Q:Bool→Hp→Prop) (b:Bool) (s':Shared):Prop:=∃ H',Inv X pins σ H' s'∧Q b H'
noncomputable def AP (X:Cx) (pins:List (Addr × Obj)) (σ:St) (Q:List V→Hp→Prop) (us:List Value) (s':Shared):Prop:=∃ vs H',Inv X pins σ H' s'∧Vals vs us∧Q vs H'
noncomputable def SP (X:Cx) (pins:List (Addr × Obj)) (D:Ends) (f:Flow) (s':Shared):Prop:=
 match f with
 | .next=>∃ σ' H',Inv X pins σ' H' s'∧D.nx σ' H'
 | .brk=>∃ σ' H',Inv X pins σ' H' s'∧D.bk σ' H'
 | .cont=>∃ σ' H',Inv X pins σ' H' s'∧D.ct σ' H'
 | .ret u=>∃ v σ' H',Inv X pins σ' H' s'∧RelV v u∧D.rt v H'
noncomputable def PE (X:Cx) (e:Expr) (t:TE):Prop:=
 ∀ (pins:List (Addr × Obj)) (s:Shared) (σ:St) (H:Hp) (Q:VK),Inv X pins σ H s→t σ H Q→wpAny (model X.prog X.w) X.A (eval e X.env) (EP X pins σ Q) X.xe s
noncomputable def PT (X:Cx) (e:Expr) (t:TT):Prop:=
 ∀ (pins:List (Addr × Obj)) (s:Shared) (σ:St) (H:Hp) (Q:Bool→Hp→Prop),Inv X pins σ H s→t σ H Q→wpAny (model X.prog X.w) X.A (isTrue e X.env (eval e X.env)) (TP X pins σ Q) X.xe s
noncomputable def PW (X:Cx) (e:Expr) (t:TT):Prop:=
 ∀ (whole:Sem Value) (pins:List (Addr × Obj)) (s:Shared) (σ:St) (H:Hp) (Q:Bool→Hp→Prop),Inv X pins σ H s→t σ H Q→wpAny (model X.prog X.w) X.A (isTrue e X.env whole) (TP X pins σ Q) X.xe s
theorem PW.pt {X:Cx} {e:Expr} {t:TT} (h:PW X e t):PT X e t:=h _
noncomputable def PA (X:Cx) (es:List Expr) (t:TA):Prop:=
 ∀ (pos:Pos) (pins:List (Addr × Obj)) (s:Shared) (σ:St) (H:Hp) (Q:List V→Hp→Prop),Inv X pins σ H s→t σ H Q→wpAny (model X.prog X.w) X.A (spliced (backTo pos (starEach es X.env))) (AP X pins σ Q) X.xe s
noncomputable def PS (X:Cx) (st:Stmt) (t:TS):Prop:=
 ∀ (pins:List (Addr × Obj)) (s:Shared) (σ:St) (H:Hp) (D:Ends),Inv X pins σ H s→t D σ H→wpAny (model X.prog X.w) X.A (exec st X.env) (SP X pins D) X.xe s
noncomputable def PSs (X:Cx) (st:List Stmt) (t:TS):Prop:=
 ∀ (pins:List (Addr × Obj)) (s:Shared) (σ:St) (H:Hp) (D:Ends),Inv X pins σ H s→t D σ H→wpAny (model X.prog X.w) X.A (execs st X.env) (SP X pins D) X.xe s
theorem thn {α:Type} {t:Sem α} {Q Q':α→Shared→Prop} {M:Model} {A:Around} {E:Value→Shared→Prop} {s:Shared} (h:wpAny M A t Q E s) (hQ:∀ a s,Q a s→Q' a s):wpAny M A t Q' E s:=wpAny_mono h hQ fun _ _ x=>x
end L2
namespace L2
open PySem PySem.Spec PyProof.Rows
section
variable {X:Cx}
theorem bin {a b:Expr} {ta tb:TE} (ha:PE X a ta) (hb:PE X b tb) {pins:List (Addr × Obj)} {s:Shared} {σ:St} {H:Hp} {R:V→V→Hp→Prop} (I:Inv X pins σ H s) (h:ta σ H fun x H1=>tb σ H1 fun y H2=>R x y H2)
  {α:Type} {Q:α→Shared→Prop} {f:Value→Value→Sem α}
  (hf:∀ v u s2 x y H2,Inv X pins σ H2 s2→RelV x v→RelV y u→R x y H2→wpAny (model X.prog X.w) X.A (f v u) Q X.xe s2) :
  wpAny (model X.prog X.w) X.A (eval a X.env) (fun v s₁=>wpAny (model X.prog X.w) X.A (eval b X.env) (fun u s₂=>wpAny (model X.prog X.w) X.A (f v u) Q X.xe s₂) X.xe s₁) X.xe s:=by
 refine thn (ha pins s σ H _ I h) fun v s1 ⟨x,H1,I1,r1,q1⟩=>?_
 refine thn (hb pins s1 σ H1 _ I1 q1) fun u s2 ⟨y,H2,I2,r2,q2⟩=>?_
 exact hf v u s2 x y H2 I2 r1 r2 q2
noncomputable def tVar (i:Nat):TE:=fun σ H Q=>∃ v,σ[i]?=some (some v)∧Q v H
noncomputable def tC (v:V):TE:=fun _ H Q=>Q v H
theorem pe_var {i:Nat} {x:Str} {pos:Pos} (hN:X.N[i]?=some x) (hv:Vis X.env.scope x) (hd:(x == ("__debug__":Str))=false:=by decide) (hcd:(x == ("__classdict__":Str))=false:=by decide):PE X (.Name x pos) (tVar i):=by
 intro pins s σ H Q I h
 obtain ⟨v,e,h⟩:=h
 obtain ⟨m,hn,hl⟩:=I.loc
 obtain ⟨u,r,l⟩:=hl i x v hN e hv
 have fin:EP X pins σ Q u s:=⟨v,H,I,r,h⟩
 rcases l with ⟨hk,hm⟩ | ⟨hk,c,hc,hcell⟩
 ·exact wpAny_Name (wpAny_loadName_local I.ok.kind hk hn hm fin) hd
 ·rcases hk with hk | hk
  ·exact wpAny_Name (wpAny_loadName_cell I.ok.kind hk hc hcell fin) hd
  ·exact wpAny_Name (wpAny_loadName_free I.ok.kind hk hc hcell fin hcd) hd
theorem pe_int {i j pos}:PE X (.Constant (.int i) j pos) (tC (.int i)):=fun _ _ _ H _ I h=>wpAny_Constant_int ⟨.int i,H,I.tok _,⟨_,rfl⟩,h⟩
theorem pe_bl {b j pos}:PE X (.Constant (.bool b) j pos) (tC (.bl b)):=fun _ _ _ H _ I h=>Constant_bool ⟨.bl b,H,I,rfl,h⟩
theorem pe_non {j pos}:PE X (.Constant .none j pos) (tC .non):=fun _ _ _ H _ I h=>Constant_none ⟨.non,H,I,rfl,h⟩
theorem pe_str {x j pos}:PE X (.Constant (.str x) j pos) (tC (.str x)):=fun _ _ _ H _ I h=>Calls.Constant_str ⟨.str x,H,I.tok _,⟨_,rfl⟩,h⟩
noncomputable def Gl (X:Cx) (x:Str):Prop:=X.env.kindOf x=some .globalImplicit
theorem ld_glob {E:Value→Shared→Prop} {pins:List (Addr × Obj)} {s:Shared} {σ:St} {H:Hp} {x:Str} {u:Value} {pos:Pos} {Q:Value→Shared→Prop} (I:Inv X pins σ H s) (hg:Gl X x) (hm:X.mg x=some u) (h:Q u s)
  (hd:(x == ("__debug__":Str))=false:=by decide):wpAny (model X.prog X.w) X.A (eval (.Name x pos) X.env) Q E s:=
 Calls.Name_function_global I.ok.kind hg (Calls.loadGlobal_global (by rw [I.ok.glob];exact I.mod.glob.keeps I.bk) hm h) hd
theorem ld_blt {E:Value→Shared→Prop} {pins:List (Addr × Obj)} {s:Shared} {σ:St} {H:Hp} {x:Str} {u:Value} {pos:Pos} {Q:Value→Shared→Prop} (I:Inv X pins σ H s) (hg:Gl X x) (hm:X.mg x=none) (hv:bootBuiltins x=some u) (h:Q u s)
  (hn:x ≠ "__name__":=by decide) (hd:(x == ("__debug__":Str))=false:=by decide):wpAny (model X.prog X.w) X.A (eval (.Name x pos) X.env) Q E s:=by
 obtain ⟨mb,h1,h2⟩:=I.mod.blt
 exact Calls.Name_function_global I.ok.kind hg (Calls.loadGlobal_builtin (by rw [I.ok.glob];exact I.mod.glob.keeps I.bk) hm (by rw [I.ok.blt];exact h1.keeps I.bk) ((h2 x hn).trans hv) h) hd
theorem pe_glob {x:Str} {v:V} {u:Value} {pos:Pos} (hg:Gl X x) (hm:X.mg x=some u) (r:RelV v u) (hd:(x == ("__debug__":Str))=false:=by decide):PE X (.Name x pos) (tC v):=
 fun _ _ _ H _ I h=>ld_glob I hg hm ⟨v,H,I,r,h⟩ hd
variable {a b:Expr} {ta tb:TE} {pos:Pos}
noncomputable def PC (X:Cx) (op:CmpOp) (a b:Expr) (t:TE):Prop:=
 ∀ (pins:List (Addr × Obj)) (s:Shared) (σ:St) (H:Hp) (Q:VK),Inv X pins σ H s→t σ H Q →
  wpAny (model X.prog X.w) X.A (eval a X.env) (fun v s₁=>wpAny (model X.prog X.w) X.A (eval b X.env) (fun u s₂=>wpAny (model X.prog X.w) X.A (compareOp op v u) (EP X pins σ Q) X.xe s₂) X.xe s₁) X.xe s
theorem nobehind (b:Expr) {op:CmpOp} (h:op ≠ .In) (h2:op ≠ .NotIn):behindInMarks op b=false:=by
 have e1:(op == CmpOp.In)=false:=by cases op <;> first | rfl | exact absurd rfl h
 have e2:(op == CmpOp.NotIn)=false:=by cases op <;> first | rfl | exact absurd rfl h2
 cases b <;> simp [behindInMarks,e1,e2]
noncomputable def tIsN (ta:TE):TE:=fun σ H Q=>ta σ H fun x H1=>Q (.bl (decide (x=.non))) H1
noncomputable def tNotN (ta:TE):TE:=fun σ H Q=>ta σ H fun x H1=>Q (.bl (!decide (x=.non))) H1
theorem RelV.none_iff {x:V} {v:Value} (r:RelV x v):(v == Value.none)=decide (x=.non):=by
 cases x with
 | non=>cases r;rfl
 | bl _=>cases r;rfl
 | int _=>obtain ⟨t,rfl⟩:=r;rfl
 | str _=>obtain ⟨t,rfl⟩:=r;rfl
 | byt _=>obtain ⟨t,rfl⟩:=r;rfl
 | flt _=>obtain ⟨t,rfl⟩:=r;rfl
 | ref _=>cases r;rfl
 | ty _=>cases r;rfl
theorem pc_isN {j pos'} (ha:PE X a ta):PC X .Is a (.Constant .none j pos') (tIsN ta):=by
 intro pins s σ H Q I h
 refine thn (ha pins s σ H _ I h) fun v s1 ⟨x,H1,I1,r1,q1⟩=>?_
 exact Constant_none (is_none_gen ⟨.bl _,H1,I1,by rw [r1.none_iff];rfl,q1⟩)
theorem pc_notN {j pos'} (ha:PE X a ta):PC X .IsNot a (.Constant .none j pos') (tNotN ta):=by
 intro pins s σ H Q I h
 refine thn (ha pins s σ H _ I h) fun v s1 ⟨x,H1,I1,r1,q1⟩=>?_
 exact Constant_none (isnot_none_gen ⟨.bl _,H1,I1,by rw [r1.none_iff];rfl,q1⟩)
noncomputable def tB (t:TE):TT:=fun σ H Q=>t σ H fun x H1=>∃ c,x=.bl c∧Q c H1
theorem pe_cmp {op:CmpOp} {t:TE} (h:PC X op a b t) (h1:behindInMarks op b=false:=by first | exact nobehind _ (by decide) (by decide) | rfl):PE X (.Compare a [op] [b] pos) t:=fun pins s σ H Q I hw=>wpAny_Compare1 (h pins s σ H Q I hw) h1
theorem pt_cmp {op:CmpOp} {t:TE} (h:PC X op a b t) (h1:behindInMarks op b=false:=by first | exact nobehind _ (by decide) (by decide) | rfl):PT X (.Compare a [op] [b] pos) (tB t):=by
 intro pins s σ H Q I hw
 refine wpAny_isTrue_Compare1 (thn (h pins s σ H _ I hw) fun v s1 h1=>thn h1 fun u s2 h2=>thn h2 fun c s3 ⟨x,H1,I1,r1,q1⟩=>?_) h1
 obtain ⟨d,rfl,q⟩:=q1
 cases r1
 exact wpAny_truthy_bool ⟨H1,I1,q⟩
theorem pt_val {e:Expr} {t:TE} (h:PE X e t) (he:∀ whole,isTrue e X.env whole=(do let v ← whole;standAt e.pos;holding [v] (truthy v)):=by intro _;rfl):PT X e (tB t):=by
 intro pins s σ H Q I hw
 refine isTrue_plain (thn (h pins s σ H _ I hw) fun v s1 ⟨x,H1,I1,r1,q1⟩=>?_) (he _)
 obtain ⟨d,rfl,q⟩:=q1
 cases r1
 exact wpAny_truthy_bool ⟨H1,I1,q⟩
variable {tA tB':TT} {rest:List Expr}
noncomputable def tAnd (t u:TT):TT:=fun σ H Q=>t σ H fun c H1=>if c=true then u σ H1 Q else Q false H1
noncomputable def tOr (t u:TT):TT:=fun σ H Q=>t σ H fun c H1=>if c=true then Q true H1 else u σ H1 Q
noncomputable def tNot (t:TT):TT:=fun σ H Q=>t σ H fun c H1=>Q (!c) H1
theorem pw_and1 (ha:PT X a tA):PW X (.BoolOp .And [a] pos) tA:=by
 intro wh pins s σ H Q I h
 refine isTrue_and (thn (ha pins s σ H Q I h) fun c s1 e=>?_)
 cases c with
 | true=>exact isTrue_and_nil e
 | false=>exact e
theorem pw_or1 (ha:PT X a tA):PW X (.BoolOp .Or [a] pos) tA:=by
 intro wh pins s σ H Q I h
 refine isTrue_or (thn (ha pins s σ H Q I h) fun c s1 e=>?_)
 cases c with
 | false=>exact isTrue_or_nil e
 | true=>exact e
theorem pw_and (ha:PT X a tA) (hb:PW X (.BoolOp .And (b::rest) pos) tB'):PW X (.BoolOp .And (a::b::rest) pos) (tAnd tA tB'):=by
 intro wh pins s σ H Q I h
 refine isTrue_and (thn (ha pins s σ H _ I h) fun c s1 ⟨H1,I1,q1⟩=>?_)
 cases c with
 | true=>exact hb wh pins s1 σ H1 Q I1 q1
 | false=>exact ⟨H1,I1,q1⟩
theorem pw_or (ha:PT X a tA) (hb:PW X (.BoolOp .Or (b::rest) pos) tB'):PW X (.BoolOp .Or (a::b::rest) pos) (tOr tA tB'):=by
 intro wh pins s σ H Q I h
 refine isTrue_or (thn (ha pins s σ H _ I h) fun c s1 ⟨H1,I1,q1⟩=>?_)
 cases c with
 | true=>exact ⟨H1,I1,q1⟩
 | false=>exact hb wh pins s1 σ H1 Q I1 q1
theorem pt_not (ha:PT X a tA):PT X (.UnaryOp .Not a pos) (tNot tA):=by
 intro pins s σ H Q I h
 exact isTrue_not (ha pins s σ H (fun c H1=>Q (!c) H1) I h)
noncomputable def tAndV (ta tb:TE):TE:=fun σ H Q=>ta σ H fun x H1=>∃ c,x=.bl c∧if c=true then tb σ H1 Q else Q (.bl false) H1
noncomputable def tOrV (ta tb:TE):TE:=fun σ H Q=>ta σ H fun x H1=>∃ c,x=.bl c∧if c=true then Q (.bl true) H1 else tb σ H1 Q
noncomputable def tNotV (ta:TE):TE:=fun σ H Q=>ta σ H fun x H1=>∃ c,x=.bl c∧Q (.bl (!c)) H1
theorem pe_one {op} {t:TE} (h:PE X a t):PE X (.BoolOp op [a] pos) t:=fun pins s σ H Q I hw=>BoolOp_one (h pins s σ H Q I hw)
theorem pe_and (ha:PE X a ta) (hb:PE X (.BoolOp .And (b::rest) pos) tb):PE X (.BoolOp .And (a::b::rest) pos) (tAndV ta tb):=by
 intro pins s σ H Q I h
 refine BoolOp_and (thn (ha pins s σ H _ I h) fun v s1 ⟨x,H1,I1,r1,q1⟩=>?_)
 obtain ⟨c,rfl,q1⟩:=q1
 cases r1
 refine wpAny_truthy_bool ?_
 cases c with
 | true=>exact hb pins s1 σ H1 Q I1 q1
 | false=>exact ⟨.bl false,H1,I1,rfl,q1⟩
theorem pe_or (ha:PE X a ta) (hb:PE X (.BoolOp .Or (b::rest) pos) tb):PE X (.BoolOp .Or (a::b::rest) pos) (tOrV ta tb):=by
 intro pins s σ H Q I h
 refine BoolOp_or (thn (ha pins s σ H _ I h) fun v s1 ⟨x,H1,I1,r1,q1⟩=>?_)
 obtain ⟨c,rfl,q1⟩:=q1
 cases r1
 refine wpAny_truthy_bool ?_
 cases c with
 | false=>exact hb pins s1 σ H1 Q I1 q1
 | true=>exact ⟨.bl true,H1,I1,rfl,q1⟩
theorem pe_not (ha:PE X a ta):PE X (.UnaryOp .Not a pos) (tNotV ta):=by
 intro pins s σ H Q I h
 refine UnaryOp_ (thn (ha pins s σ H _ I h) fun v s1 ⟨x,H1,I1,r1,q1⟩=>?_)
 obtain ⟨c,rfl,q1⟩:=q1
 cases r1
 exact not_of (wpAny_truthy_bool ⟨.bl (!c),H1,I1,rfl,q1⟩)
noncomputable def tIf (t:TT) (ta tb:TE):TE:=fun σ H Q=>t σ H fun c H1=>if c=true then ta σ H1 Q else tb σ H1 Q
theorem pe_ifExp {c:Expr} (hc:PT X c tA) (ha:PE X a ta) (hb:PE X b tb):PE X (.IfExp c a b pos) (tIf tA ta tb):=by
 intro pins s σ H Q I h
 refine wpAny_IfExp (thn (hc pins s σ H _ I h) fun d s1 ⟨H1,I1,q1⟩=>?_)
 cases d with
 | true=>exact ha pins s1 σ H1 Q I1 q1
 | false=>exact hb pins s1 σ H1 Q I1 q1
end
end L2
namespace L2
open PySem PySem.Spec PyProof.Rows
noncomputable def SqL (K:PySem.W.Frag) (H:Hp) (a:Addr) (xs:List V):Prop:=
 Rd H a (.lst xs) ∨
  ∃ (o:Obj) (its:Array Value) (n:Nat),K.lookup a=some o∧o.cls=.type "list"∧o.dict=none∧o.data=.seq its n∧its.size≤sizeLine∧Vals xs its.toList
noncomputable def SqT (K:PySem.W.Frag) (H:Hp) (a:Addr) (xs:List V):Prop:=
 Rd H a (.tup xs) ∨
  ∃ (o:Obj) (its:Array Value) (n:Nat),K.lookup a=some o∧o.cls=.type "tuple"∧o.dict=none∧o.data=.seq its n∧its.size≤sizeLine∧Vals xs its.toList
noncomputable def absV:Value→Option V
 | .none=>some .non
 | .bool b=>some (.bl b)
 | .int i _=>some (.int i)
 | .str x _=>some (.str x)
 | .bytes b _=>some (.byt b)
 | .float b _=>some (.flt b)
 | .ref a=>some (.ref a)
 | .type n=>some (.ty n)
 | _=>none
theorem RelV.abs {x:V} {u:Value} (r:RelV x u):absV u=some x:=by
 cases x with
 | non=>cases r;rfl
 | bl _=>cases r;rfl
 | int _=>obtain ⟨t,rfl⟩:=r;rfl
 | str _=>obtain ⟨t,rfl⟩:=r;rfl
 | byt _=>obtain ⟨t,rfl⟩:=r;rfl
 | flt _=>obtain ⟨t,rfl⟩:=r;rfl
 | ref _=>cases r;rfl
 | ty _=>cases r;rfl
theorem RelV.inj {x y:V} {u:Value} (r:RelV x u) (q:RelV y u):x=y:=Option.some.inj (r.abs.symm.trans q.abs)
theorem Vals.inj:∀ {xs ys:List V} {us:List Value},Vals xs us→Vals ys us→xs=ys
 | _,_,_,.nil,.nil=>rfl
 | _,_,_,.cons r t,.cons r' t'=>by rw [r.inj r',Vals.inj t t']
section
variable {X:Cx} {pins:List (Addr × Obj)} {σ:St} {H:Hp} {s:Shared} {a:Addr} {xs ys:List V}
theorem SqT.of {K:PySem.W.Frag} (h:H a=some (.tup xs)):SqT K H a xs:=.inl (.inl h)
theorem Inv.list (I:Inv X pins σ H s) (h:SqL X.K H a xs):∃ its:List Value,Vals xs its∧PlainL s.heap a its.toArray∧xs.length≤sizeLine:=by
 rcases h with h | ⟨o,its,n,hk,hc,hd,hs,hz,r⟩
 ·obtain ⟨z,its,n,r,e⟩:=h.ok I.hok
  exact ⟨its,r,⟨_,n,e,rfl,rfl,rfl⟩,z⟩
 ·refine ⟨its.toList,r,⟨o,n,I.kIn a o hk,hc,hd,by simpa using hs⟩,?_⟩
  have e:=r.length
  simp only [Array.length_toList] at e
  omega
theorem Inv.tupleD (I:Inv X pins σ H s) (h:SqT X.K H a xs):∃ its:List Value,Vals xs its∧IsTupD s.heap a its.toArray∧xs.length≤sizeLine:=by
 rcases h with h | ⟨o,its,n,hk,hc,hdn,hs,hz,r⟩
 ·obtain ⟨z,its,r,p⟩:=h.ok I.hok
  exact ⟨its,r,p,z⟩
 ·refine ⟨its.toList,r,⟨o,I.kIn a o hk,hc,hdn,n,by simpa using hs⟩,?_⟩
  have e:=r.length
  simp only [Array.length_toList] at e
  omega
theorem Inv.tuple (I:Inv X pins σ H s) (h:SqT X.K H a xs):∃ its:List Value,Vals xs its∧IsTup s.heap a its.toArray∧xs.length≤sizeLine:=by
 obtain ⟨its,r,p,z⟩:=I.tupleD h
 exact ⟨its,r,p.tup,z⟩
theorem Inv.list_inj (I:Inv X pins σ H s) (h:SqL X.K H a xs) (h':SqL X.K H a ys):xs=ys:=by
 obtain ⟨its,r,⟨o,n,e,_,_,d⟩,_⟩:=I.list h
 obtain ⟨its',r',⟨o',n',e',_,_,d'⟩,_⟩:=I.list h'
 rw [e] at e';cases e'
 rw [d] at d'
 injection d' with d1 _
 have:its=its':=by simpa using congrArg Array.toList d1
 subst this
 exact r.inj r'
theorem Inv.tuple_inj (I:Inv X pins σ H s) (h:SqT X.K H a xs) (h':SqT X.K H a ys):xs=ys:=by
 obtain ⟨its,r,⟨o,e,_,n,d⟩,_⟩:=I.tuple h
 obtain ⟨its',r',⟨o',e',_,n',d'⟩,_⟩:=I.tuple h'
 rw [e] at e';cases e'
 rw [d] at d'
 injection d' with d1 _
 have:its=its':=by simpa using congrArg Array.toList d1
 subst this
 exact r.inj r'
end
section
variable {X:Cx} {st:Stmt} {rest:List Stmt} {t u:TS} {e:Expr} {te:TE} {pos:Pos}
noncomputable def tNext:TS:=fun D σ H=>D.nx σ H
noncomputable def tSeq (t u:TS):TS:=fun D σ H=>t { D with nx:=u D } σ H
theorem pss_nil:PSs X [] tNext:=fun _ _ σ H _ I h=>wpAny_execs_nil ⟨σ,H,I,h⟩
theorem pss_cons (h1:PS X st t) (h2:PSs X rest u):PSs X (st::rest) (tSeq t u):=by
 intro pins s σ H D I h
 refine wpAny_execs_cons (thn (h1 pins s σ H { D with nx:=u D } I h) fun f s1 q=>?_)
 cases f with
 | next=>
  obtain ⟨σ',H',I',q⟩:=q
  exact h2 pins s1 σ' H' D I' q
 | ret v=>exact q
 | brk=>exact q
 | cont=>exact q
noncomputable def tCont:TS:=fun D σ H=>D.ct σ H
theorem ps_pass:PS X (.Pass pos) tNext:=fun _ _ σ H _ I h=>wpAny_Pass ⟨σ,H,I,h⟩
theorem ps_continue:PS X (.Continue pos) tCont:=fun _ _ σ H _ I h=>wpAny_Continue ⟨σ,H,I,h⟩
theorem Inv.quiet {pins:List (Addr × Obj)} {σ:St} {H:Hp} {s:Shared} (I:Inv X pins σ H s):interactive X.env=false:=by simp [interactive,I.ok.kind]
noncomputable def tDrop (te:TE):TS:=fun D σ H=>te σ H fun _ H1=>D.nx σ H1
theorem ps_expr (he:PE X e te) (hs:swapsWith e none pos.line X.env=pure false:=by rfl):PS X (.Expr e pos) (tDrop te):=by
 intro pins s σ H D I h
 exact wpAny_Expr_any (thn (he pins s σ H _ I h) fun v s1 ⟨x,H1,I1,r1,q1⟩=>⟨σ,H1,I1,q1⟩) I.quiet hs
noncomputable def tRet (te:TE):TS:=fun D σ H=>te σ H D.rt
theorem ps_ret (he:PE X e te):PS X (.Return (some e) pos) (tRet te):=by
 intro pins s σ H D I h
 exact wpAny_Return_some (thn (he pins s σ H _ I h) fun v s1 ⟨x,H1,I1,r1,q1⟩=>⟨x,σ,H1,I1,r1,q1⟩)
noncomputable def tRetN:TS:=fun D _ H=>D.rt .non H
theorem ps_retN:PS X (.Return none pos) tRetN:=fun _ _ σ H _ I h=>wpAny_Return_none ⟨.non,σ,H,I,rfl,h⟩
noncomputable def tIfS (c:TT) (t u:TS):TS:=fun D σ H=>c σ H fun b H1=>if b=true then t D σ H1 else u D σ H1
theorem ps_if {c:Expr} {a b:List Stmt} {tc:TT} (hc:PT X c tc) (ha:PSs X a t) (hb:PSs X b u):PS X (.If c a b pos) (tIfS tc t u):=by
 intro pins s σ H D I h
 refine wpAny_If (thn (hc pins s σ H _ I h) fun d s1 ⟨H1,I1,q1⟩=>?_)
 cases d with
 | true=>exact ha pins s1 σ H1 D I1 q1
 | false=>exact hb pins s1 σ H1 D I1 q1
end
noncomputable abbrev TG:=V→St→Hp→(St→Hp→Prop)→Prop
noncomputable abbrev TGs:=List V→St→Hp→(St→Hp→Prop)→Prop
noncomputable def PG (X:Cx) (target:Expr) (t:TG):Prop:=
 ∀ (pins:List (Addr × Obj)) (s:Shared) (σ:St) (H:Hp) (v:V) (u:Value) (Q:St→Hp→Prop),Inv X pins σ H s→RelV v u→t v σ H Q →
  wpAny (model X.prog X.w) X.A (assign target X.env u) (fun _ s'=>∃ σ' H',Inv X pins σ' H' s'∧Q σ' H') X.xe s
noncomputable def PGs (X:Cx) (ts:List Expr) (t:TGs):Prop:=
 ∀ (pins:List (Addr × Obj)) (s:Shared) (σ:St) (H:Hp) (vs:List V) (us:List Value) (Q:St→Hp→Prop),Inv X pins σ H s→Vals vs us→t vs σ H Q →
  wpAny (model X.prog X.w) X.A (assignInOrder ((assignEach ts X.env).map (·.2)) us) (fun _ s'=>∃ σ' H',Inv X pins σ' H' s'∧Q σ' H') X.xe s
noncomputable abbrev TSet:=V→V→V→Hp→(Hp→Prop)→Prop
noncomputable def PSet (X:Cx) (t:TSet):Prop:=
 ∀ (pins:List (Addr × Obj)) (s:Shared) (σ:St) (H:Hp) (o i v:V) (ov iv u:Value) (Q:Hp→Prop),Inv X pins σ H s→RelV o ov→RelV i iv→RelV v u→t o i v H Q →
  wpAny (model X.prog X.w) X.A (setItem ov iv u) (fun _ s'=>∃ H',Inv X pins σ H' s'∧Q H') X.xe s
section
variable {X:Cx} {pos:Pos}
noncomputable def gName (i:Nat):TG:=fun v σ H Q=>Q (σ.set i (some v)) H
theorem pg_name {i:Nat} {x:Str} (hN:X.N.Nodup) (hi:X.N[i]?=some x) (hx:Loc X.env.scope x) (hf:X.fn x=true ∨ X.env.scope.names.lookup x=some .local:=by first | exact .inl rfl | exact .inr rfl | assumption):PG X (.Name x pos) (gName i):=by
 intro pins s σ H v u Q I r h
 exact wpAny_assign_Name (store_ok I hN hi hx r (fun s' I'=>⟨_,H,I',h⟩) hf)
noncomputable def gNil:TGs:=fun vs σ H Q=>vs=[]∧Q σ H
noncomputable def gCons (t:TG) (u:TGs):TGs:=fun vs σ H Q=>∃ v r,vs=v::r∧t v σ H fun σ' H'=>u r σ' H' Q
theorem pgs_nil:PGs X [] gNil:=by
 intro pins s σ H vs us Q I r h
 obtain ⟨e,h⟩:=h
 subst e
 cases r
 exact assignInOrder_nil ⟨σ,H,I,h⟩
theorem pgs_cons {e:Expr} {es:List Expr} {t:TG} {u:TGs} (h1:PG X e t) (h2:PGs X es u)
  (hs:(assignEach (e::es) X.env).map (·.2)=assign e X.env::(assignEach es X.env).map (·.2):=by rfl):PGs X (e::es) (gCons t u):=by
 intro pins s σ H vs us Q I r h
 obtain ⟨v,vr,e1,h⟩:=h
 subst e1
 cases r with
 | cons r rr=>
  rw [hs]
  refine assignInOrder_cons (thn (h1 pins s σ H _ _ _ I r h) fun _ s1 ⟨σ1,H1,I1,q1⟩=>?_)
  exact h2 pins s1 σ1 H1 _ _ Q I1 rr q1
noncomputable def gTup (K:PySem.W.Frag) (n:Nat) (t:TGs):TG:=fun v σ H Q=>∃ a xs,v=.ref a∧SqT K H a xs∧xs.length=n∧t xs σ H Q
theorem pg_tup {es:List Expr} {k:Nat} {t:TGs} {n:Nat} (hc:X.calm=true) (h:PGs X es t)
  (hn:(assignEach es X.env).length=n:=by rfl) (hst:(assignEach es X.env).findIdx? (·.1)=none:=by rfl):PG X (.Tuple es k pos) (gTup X.K n t):=by
 intro pins s σ H v u Q I r hw
 obtain ⟨a,xs,e1,hq,hl,hw⟩:=hw
 subst e1
 cases r
 obtain ⟨its,rv,ht,hz⟩:=I.tuple hq
 refine assign_Tuple_tuple (I.ok.hd hc) ht (by simp [hn,← hl,rv.length]) hst fun h' hx=>?_
 have I1:Inv X pins σ H { s with heap:=h' }:=I.kept (t':=s.toks) fun b o e=>hx b o (Nat.ne_of_lt (Heap.lt_size e)) e
 exact h pins _ σ H xs _ Q I1 (by simpa using rv) hw
noncomputable def gSub (to ti:TE) (t:TSet):TG:=fun v σ H Q=>to σ H fun o H1=>ti σ H1 fun i H2=>t o i v H2 fun H3=>Q σ H3
theorem pg_sub {o i:Expr} {to ti:TE} {t:TSet} (ho:PE X o to) (hi:PE X i ti) (hs:PSet X t)
  (ha:∀ v,assign (.Subscript o i pos) X.env v=(do
   let ov ← holding [v] (eval o X.env)
   let iv ← holding [v,ov] (eval i X.env)
   standAt pos
   holding [v,ov,iv] (setItem ov iv v)
   release [v,ov,iv] []):=by intro _;rfl):PG X (.Subscript o i pos) (gSub to ti t):=by
 intro pins s σ H v u Q I r h
 rw [ha]
 refine wpAny_bind (wpAny_holding (thn (ho pins s σ H _ I h) fun ov s1 ⟨x,H1,I1,r1,q1⟩=>?_))
 refine wpAny_bind (wpAny_holding (thn (hi pins s1 σ H1 _ I1 q1) fun iv s2 ⟨y,H2,I2,r2,q2⟩=>?_))
 refine wpAny_bind (wpAny_standAt (wpAny_bind (wpAny_holding (thn (hs pins s2 σ H2 x y v ov iv u _ I2 r1 r2 r q2) fun _ s3 ⟨H3,I3,q3⟩=>?_))))
 exact wpAny_release ⟨σ,H3,I3,q3⟩
noncomputable def tAsg (te:TE) (g:TG):TS:=fun D σ H=>te σ H fun x H1=>g x σ H1 D.nx
theorem ps_asg {tg e:Expr} {te:TE} {g:TG} (he:PE X e te) (hg:PG X tg g) (hs:swapsWithSole [tg] e pos.line X.env=pure false:=by rfl) (hw:swappedStores [tg] e X.env=pure none:=by rfl)
  (h1:(assignEach [tg] X.env).map (·.2)=[assign tg X.env]:=by rfl):PS X (.Assign [tg] e pos) (tAsg te g):=by
 intro pins s σ H D I h
 refine wpAny_Assign_stores (thn (he pins s σ H _ I h) fun v s1 ⟨x,H1,I1,r1,q1⟩=>?_) hs hw
 rw [h1]
 exact thn (hg pins s1 σ H1 x v _ I1 r1 q1) fun _ s2 q=>q
theorem ps_set {i:Nat} {x:Str} {e:Expr} {te:TE} {pos':Pos} (hN:X.N.Nodup) (hi:X.N[i]?=some x) (hx:Loc X.env.scope x) (he:PE X e te) (hs:swapsWith e (some (.Name x pos')) pos.line X.env=pure false:=by rfl) (hf:X.fn x=true ∨ X.env.scope.names.lookup x=some .local:=by first | exact .inl rfl | exact .inr rfl | assumption) :
  PS X (.Assign [.Name x pos'] e pos) (tAsg te (gName i)):=by
 intro pins s σ H D I h
 refine wpAny_Assign_Name (thn (he pins s σ H _ I h) fun v s1 ⟨y,H1,I1,r1,q1⟩=>?_) hs
 exact store_ok I1 hN hi hx r1 (fun s2 I2=>⟨_,H1,I2,q1⟩) hf
end
section
variable {X:Cx} {pos:Pos}
noncomputable def tWhile (c:TT) (tb:TS):TS:=fun D σ H=>∃ W:Nat→St→Hp→Prop,(∃ m,W m σ H)∧∀ m σ H,W m σ H →
 c σ H fun b H1=>if b=true then ∃ N:St→Hp→Prop,(∀ σ' H',N σ' H'→∃ m',m' < m∧W m' σ' H')∧tb { D with nx:=N,ct:=N,bk:=D.nx } σ H1 else D.nx σ H1
theorem ps_while {c:Expr} {body:List Stmt} {tc:TT} {tb:TS} (hp:PassesOwn (model X.prog X.w) X.A X.env X.xe) (hc:PT X c tc) (hb:PSs X body tb):PS X (.While c body [] pos) (tWhile tc tb):=by
 intro pins s σ H D I h
 obtain ⟨W,⟨m0,w0⟩,turn⟩:=h
 refine wpAny_While (codeAny_whileLoop (fun n s'=>∃ σ' H',Inv X pins σ' H' s'∧W n σ' H') ?_ m0 ⟨σ,H,I,w0⟩)
 rintro n s1 ⟨σ1,H1,I1,w1⟩
 refine wpAny_passesOwn hp (thn (hc pins s1 σ1 H1 _ I1 (turn n σ1 H1 w1)) fun b s2 ⟨H2,I2,q2⟩=>?_)
 cases b with
 | true=>
  obtain ⟨N,hN,q2⟩:=q2
  rw [if_pos rfl]
  refine wpAny_passesOwn hp (thn (hb pins s2 σ1 H2 _ I2 q2) fun f s3 q3=>?_)
  cases f with
  | next=>
   obtain ⟨σ3,H3,I3,n3⟩:=q3
   obtain ⟨m',hm,w3⟩:=hN σ3 H3 n3
   exact ⟨m',hm,σ3,H3,I3,w3⟩
  | cont=>
   obtain ⟨σ3,H3,I3,n3⟩:=q3
   obtain ⟨m',hm,w3⟩:=hN σ3 H3 n3
   exact ⟨m',hm,σ3,H3,I3,w3⟩
  | brk=>exact q3
  | ret v=>exact q3
 | false=>
  rw [if_neg Bool.false_ne_true]
  exact wpAny_execs_nil ⟨σ1,H2,I2,q2⟩
end
structure It where
 go:Nat→Hp→Prop
 yld:Nat→Hp→V→Hp→Prop
 stop:Nat→Hp→Prop
noncomputable def FpOk (X:Cx) (pins:List (Addr × Obj)) (H:Hp) (b:Addr):Prop:=
 H b=none∧b ≠ X.env.locals∧b ∉ X.fs∧(b ∈ X.ex ∨ X.s₀.heap.objs.size≤b)∧(∀ x c,X.env.cells.lookup x=some c→c ≠ b)∧∀ p ∈ X.pn++pins,p.1 ≠ b
theorem Inv.fpOk {X:Cx} {pins:List (Addr × Obj)} {σ:St} {H H':Hp} {s:Shared} {b:Addr} (I:Inv X pins σ H s) (hb:s.heap.objs.size≤b) (hn:H' b=none):FpOk X pins H' b:=by
 refine ⟨hn,Nat.ne_of_gt (Nat.lt_of_lt_of_le I.lt hb),I.nofs hb,.inr (Nat.le_trans I.sz hb),fun x c e z=>?_,fun p hp z=>?_⟩
 ·obtain ⟨v,q⟩:=I.cell x c e
  exact absurd (Nat.lt_of_lt_of_le q.lt (by rw [z];exact hb)) (Nat.lt_irrefl _)
 ·exact absurd (Nat.lt_of_lt_of_le (Heap.lt_size (I.pin p hp).1) (by rw [z];exact hb)) (Nat.lt_irrefl _)
structure Turn (P:Program) (w:World) (K:PySem.W.Frag) (tg:Expr) (J:It) (fp:List Addr) (it:Addr) (tn:Nat→Heap→Prop):Prop where
 mem:it ∈ fp
 obj:∀ i h,tn i h→∀ b ∈ fp,∃ o,h.get? b=some o∧∀ v,o.data ≠ .cell v
 keep:∀ i h h',tn i h→(∀ b ∈ fp,∀ o,h.get? b=some o→h'.get? b=some o)→tn i h'
 item:∀ (X:Cx),X.prog=P→X.w=w→X.K=K→X.calm=true→∀ (i:Nat) (pins:List (Addr × Obj)) (s:Shared) (σ:St) (H:Hp) (E:Value→Shared→Prop),Inv X pins σ H s→(∀ b ∈ fp,FpOk X pins H b)→tn i s.heap→J.go i H →
  wpAny (model P w) X.A (pyNext (.ref it)) (fun r s1=>∃ u,r=some u ∧
   wpAny (model P w) X.A (letOwnedTupleGo tg (.ref it) u) (fun _ s2=>∃ x H',Inv X pins σ H' s2∧RelV x u∧J.yld i H x H'∧tn (i + 1) s2.heap∧∀ b ∈ fp,H' b=none) E s1) E s
 done:∀ (X:Cx),X.prog=P→X.w=w→X.K=K→X.calm=true→∀ (i:Nat) (pins:List (Addr × Obj)) (s:Shared) (σ:St) (H:Hp) (E:Value→Shared→Prop),Inv X pins σ H s→(∀ b ∈ fp,FpOk X pins H b)→tn i s.heap→J.stop i H →
  wpAny (model P w) X.A (pyNext (.ref it)) (fun r s1=>r=none∧Inv X pins σ H s1) E s
 self:∀ (A:Around) (i:Nat) (s:Shared) (Q:Value→Shared→Prop) (E:Value→Shared→Prop),tn i s.heap→Q (.ref it) s→wpAny (model P w) A (pyIter (.ref it)) Q E s
noncomputable abbrev TI:=St→Hp→(It→Hp→Prop)→Prop
noncomputable def PIE (X:Cx) (pins:List (Addr × Obj)) (σ:St) (tg:Expr) (R:It→Hp→Prop) (itv:Value) (s2:Shared):Prop:=
 ∃ (it:Addr) (fp:List Addr) (tn:Nat→Heap→Prop) (J:It) (H':Hp),itv=.ref it∧Inv X pins σ H' s2∧Turn X.prog X.w X.K tg J fp it tn∧tn 0 s2.heap∧(∀ b ∈ fp,FpOk X pins H' b)∧R J H'
noncomputable def PI (X:Cx) (tg iter:Expr) (wi:TI):Prop:=
 ∀ (pins:List (Addr × Obj)) (s:Shared) (σ:St) (H:Hp) (R:It→Hp→Prop),Inv X pins σ H s→wi σ H R →
  wpAny (model X.prog X.w) X.A (eval iter X.env) (fun v s1=>wpAny (model X.prog X.w) X.A (pyIter v) (PIE X pins σ tg R) X.xe s1) X.xe s
theorem go_of {M:Model} {A:Around} {E:Value→Shared→Prop} {s:Shared} {tg:Expr} {it:Addr} {u:Value} {o:Obj} {n:String} {vs:Array Value} {Q:Unit→Shared→Prop} (ho:s.heap.get? it=some o) (hc:o.cls=.type n) (hd:o.data=.fields vs)
  (hn:["enumerate","zip","dict_itemiterator","dict_reverseitemiterator","odict_iterator","itertools.zip_longest","itertools.pairwise"].contains n=false) (hQ:Q () s):wpAny M A (letOwnedTupleGo tg (.ref it) u) Q E s:=by
 unfold letOwnedTupleGo
 cases tg <;> first
  | exact wpAny_pure hQ
  | (cases u <;> first
    | exact wpAny_pure hQ
    | (refine wpAny_bind (wpAny_load ho ?_)
       rw [hc,hd]
       show wpAny M A (if (["enumerate","zip","dict_itemiterator","dict_reverseitemiterator","odict_iterator","itertools.zip_longest","itertools.pairwise"].contains n && vs[0]? == some (rawInt _))=true then _ else _) Q E s
       rw [if_neg (by intro h;rw [hn,Bool.false_and] at h;cases h)]
       exact wpAny_pure hQ))
noncomputable def Itl (K:PySem.W.Frag) (a:Addr):It:=
 ⟨fun i H=>∃ xs x,SqL K H a xs∧xs[i]?=some x,fun i H x H'=>H'=H∧∀ xs,SqL K H a xs→xs[i]?=some x,fun i H=>∃ xs,SqL K H a xs∧xs.length≤i⟩
noncomputable def Itt (K:PySem.W.Frag) (a:Addr):It:=
 ⟨fun i H=>∃ xs x,SqT K H a xs∧xs[i]?=some x,fun i H x H'=>H'=H∧∀ xs,SqT K H a xs→xs[i]?=some x,fun i H=>∃ xs,SqT K H a xs∧xs.length≤i⟩
noncomputable def Itr (lo:Int) (n:Nat):It:=⟨fun i _=>i < n,fun i H x H'=>H'=H∧x=.int (lo + i),fun i _=>n≤i⟩
theorem turn_list {P:Program} {w:World} {K:PySem.W.Frag} {tg:Expr} (a it:Addr):Turn P w K tg (Itl K a) [it] it (fun i h=>h.IsListIter it a i) where
 mem:=by simp
 obj:=fun i h st b hb=>by
  have e:b=it:=by simpa using hb
  subst e
  obtain ⟨o,e,c,d⟩:=st
  exact ⟨o,e,fun v z=>by rw [d] at z;cases z⟩
 keep:=fun i h h' st k=>st.at fun o e=>k it (by simp) o e
 item:=by
  intro X hP hw hK hc i pins s σ H E I hf st hg
  subst hP hw hK
  obtain ⟨xs,x,hq,hx⟩:=hg
  obtain ⟨its,rv,p,hz⟩:=I.list hq
  obtain ⟨u,hu,ru⟩:=rv.get hx
  obtain ⟨f0,f1,f2,f3,f4,f5⟩:=hf it (by simp)
  refine wpAny_pyNext_list_item st p.isList (x:=u) (by simpa using hu) fun h' st' sb=>?_
  have I1:Inv X pins σ H { s with heap:=h' }:=I.turned (t':=s.toks) (fun b o hb e=>(sb.2 b hb).trans e) f0 f1 f3 f4 f5
  obtain ⟨o,e,c,d⟩:=id st'
  exact ⟨u,rfl,go_of (s:={ s with heap:=h' }) e c d (by decide) ⟨x,H,I1,ru,⟨rfl,fun ys hy=>by rw [I.list_inj hy hq];exact hx⟩,st',fun b hb=>(hf b hb).1⟩⟩
 done:=by
  intro X hP hw hK hc i pins s σ H E I hf st hg
  subst hP hw hK
  obtain ⟨xs,hq,hx⟩:=hg
  obtain ⟨its,rv,p,hz⟩:=I.list hq
  obtain ⟨f0,f1,f2,f3,f4,f5⟩:=hf it (by simp)
  have hl:=rv.length
  exact wpAny_pyNext_list_end (I.ok.hd hc) st p.isList (by simp;omega) fun h' eb=>⟨rfl,I.turned (t':=s.toks) (fun b o hb e=>eb b o hb e) f0 f1 f3 f4 f5⟩
 self:=fun _ _ _ _ _ st h=>wpAny_pyIter_listiter st h
theorem turn_tuple {P:Program} {w:World} {K:PySem.W.Frag} {tg:Expr} (a it:Addr):Turn P w K tg (Itt K a) [it] it (fun i h=>h.IsTupleIter it a i) where
 mem:=by simp
 obj:=fun i h st b hb=>by
  have e:b=it:=by simpa using hb
  subst e
  obtain ⟨o,e,c,d⟩:=st
  exact ⟨o,e,fun v z=>by rw [d] at z;cases z⟩
 keep:=fun i h h' st k=>st.at fun o e=>k it (by simp) o e
 item:=by
  intro X hP hw hK hc i pins s σ H E I hf st hg
  subst hP hw hK
  obtain ⟨xs,x,hq,hx⟩:=hg
  obtain ⟨its,rv,p,hz⟩:=I.tuple hq
  obtain ⟨u,hu,ru⟩:=rv.get hx
  obtain ⟨f0,f1,f2,f3,f4,f5⟩:=hf it (by simp)
  refine wpAny_pyNext_tuple_item st (show s.heap.IsTuple a its.toArray from p) (x:=u) (by simpa using hu) fun h' st' sb=>?_
  have I1:Inv X pins σ H { s with heap:=h' }:=I.turned (t':=s.toks) (fun b o hb e=>(sb.2 b hb).trans e) f0 f1 f3 f4 f5
  obtain ⟨o,e,c,d⟩:=id st'
  exact ⟨u,rfl,go_of (s:={ s with heap:=h' }) e c d (by decide) ⟨x,H,I1,ru,⟨rfl,fun ys hy=>by rw [I.tuple_inj hy hq];exact hx⟩,st',fun b hb=>(hf b hb).1⟩⟩
 done:=by
  intro X hP hw hK hc i pins s σ H E I hf st hg
  subst hP hw hK
  obtain ⟨xs,hq,hx⟩:=hg
  obtain ⟨its,rv,p,hz⟩:=I.tuple hq
  obtain ⟨f0,f1,f2,f3,f4,f5⟩:=hf it (by simp)
  have hl:=rv.length
  exact wpAny_pyNext_tuple_end (I.ok.hd hc) st (show s.heap.IsTuple a its.toArray from p) (by simp;omega) fun h' eb=>⟨rfl,I.turned (t':=s.toks) (fun b o hb e=>eb b o hb e) f0 f1 f3 f4 f5⟩
 self:=fun _ _ _ _ _ st h=>wpAny_pyIter_tupleiter st h
theorem turn_range {P:Program} {w:World} {K:PySem.W.Frag} {tg:Expr} (it:Addr) (lo:Int) (n:Nat):Turn P w K tg (Itr lo n) [it] it (fun i h=>IsRangeIter h it (lo + (i:Nat) * 1) ((n:Int) - (i:Nat)) 1) where
 mem:=by simp
 obj:=fun i h st b hb=>by
  have e:b=it:=by simpa using hb
  subst e
  exact ⟨_,st,fun v z=>by
   have z':Data.fields _=Data.cell v:=z
   cases z'⟩
 keep:=fun i h h' st k=>k it (by simp) _ st
 item:=by
  intro X hP hw hK hc i pins s σ H E I hf st hg
  subst hP hw hK
  obtain ⟨f0,f1,f2,f3,f4,f5⟩:=hf it (by simp)
  have W:=Walks.range (prog:=X.prog) (w:=X.w) (I.ok.hd hc) it lo 1 n
  refine W.item i s _ _ hg st fun v h' tk hv st' kk=>?_
  obtain ⟨t,rfl⟩:=hv
  have I1:Inv X pins σ H { s with heap:=h',toks:=tk }:=I.turned (fun b o hb e=>kk b o (by simpa using hb) e) f0 f1 f3 f4 f5
  refine ⟨_,rfl,go_of (s:={ s with heap:=h',toks:=tk }) (n:="range_iterator") st' rfl rfl (by decide) ⟨.int (lo + i),H,I1,⟨t,?_⟩,⟨rfl,rfl⟩,st',fun b hb=>(hf b hb).1⟩⟩
  rw [Int.mul_one]
 done:=by
  intro X hP hw hK hc i pins s σ H E I hf st hg
  subst hP hw hK
  obtain ⟨f0,f1,f2,f3,f4,f5⟩:=hf it (by simp)
  exact wpAny_pyNext_range_end (I.ok.hd hc) st (by have:n≤i:=hg;omega) fun h' eb=>⟨rfl,I.turned (t':=s.toks) (fun b o hb e=>eb b o hb e) f0 f1 f3 f4 f5⟩
 self:=fun _ _ _ _ _ st h=>wpAny_pyIter_rangeiter st h
end L2
namespace L2
open PySem PySem.Spec PyProof.Rows
section
variable {X:Cx} {tg:Expr}
theorem range_it {pins:List (Addr × Obj)} {σ:St} {H:Hp} {s:Shared} {R:It→Hp→Prop} {E:Value→Shared→Prop} {lo hi:Int} {t u v:Tok} {tk:Nat} (I:Inv X pins σ H s) (h1:-(2 ^ 62)≤lo) (h2:lo < 2 ^ 62) (h3:-(2 ^ 62)≤hi) (h4:hi < 2 ^ 62)
  (q:R (Itr lo (hi - lo).toNat) H):wpAny (model X.prog X.w) X.A (pyIter (.ref s.heap.objs.size)) (PIE X pins σ tg R) E { s with heap:=s.heap.push { cls:=.type "range",data:=.fields #[.int lo t,.int hi u,.int 1 v] },toks:=tk }:=by
 refine wpAny_pyIter_range (IsRange.new ..) (small_one h1 h2 h3 h4) ?_
 have I1:Inv X pins σ H { s with heap:=s.heap.push { cls:=.type "range",data:=.fields #[.int lo t,.int hi u,.int 1 v] },toks:=tk }:=I.kept fun b o e=>Heap.get?_push_of_some _ e
 refine ⟨(s.heap.push { cls:=.type "range",data:=.fields #[.int lo t,.int hi u,.int 1 v] }).objs.size,[(s.heap.push { cls:=.type "range",data:=.fields #[.int lo t,.int hi u,.int 1 v] }).objs.size],_,_,H,rfl,
  I1.kept (t':=tk) fun b o e=>Heap.get?_push_of_some _ e,turn_range _ lo (hi - lo).toNat,?_,fun b hb=>?_,q⟩
 ·have e1:lo + ((0:Nat):Int) * 1=lo:=by simp
  have e2:(((hi - lo).toNat:Nat):Int) - ((0:Nat):Int)=Builtin.Range.rangeSize lo hi 1:=by rw [rangeSize_one];split <;> omega
  show IsRangeIter _ _ (lo + ((0:Nat):Int) * 1) ((((hi - lo).toNat:Nat):Int) - ((0:Nat):Int)) 1
  rw [e1,e2]
  exact Heap.get?_push_size _ rfl
 ·have e:b=(s.heap.push { cls:=.type "range",data:=.fields #[.int lo t,.int hi u,.int 1 v] }).objs.size:=by simpa using hb
  subst e
  exact I1.fpOk (Nat.le_refl _) (I1.hok.fresh (Nat.le_refl _))
noncomputable def iRng1 (ta:TA):TI:=fun σ H R=>ta σ H fun vs H1=>∃ j:Int,vs=[.int j]∧-(2 ^ 62)≤j∧j < 2 ^ 62∧R (Itr 0 j.toNat) H1
noncomputable def iRng2 (ta:TA):TI:=fun σ H R=>ta σ H fun vs H1=>∃ i j:Int,vs=[.int i,.int j]∧(-(2 ^ 62)≤i∧i < 2 ^ 62∧-(2 ^ 62)≤j∧j < 2 ^ 62)∧R (Itr i (j - i).toNat) H1
theorem pi_range1 {a:Expr} {ta:TA} {p pos:Pos} (hg:Gl X "range") (hm:X.mg "range"=none) (ha:PA X [a] ta) (hs:starEach [a] X.env=[(false,eval a X.env)]:=by rfl):PI X tg (.Call (.Name "range" p) [a] [] pos) (iRng1 ta):=by
 intro pins s σ H R I h
 refine Call_ (ld_blt I hg hm boot_range (PyProof.Rows.callWith_type1 (thn (ha pos pins s σ H _ I h) fun us s1 ⟨vs,H1,I1,r1,q1⟩=>?_) hs rfl))
 obtain ⟨j,e,q1,q2,q⟩:=q1
 subst e
 cases r1 with
 | cons r rr=>
  cases rr
  obtain ⟨t,rfl⟩:=r
  exact call_range_1 (range_it I1 (by omega) (by omega) q1 q2 (by simpa using q))
theorem pi_range2 {a b:Expr} {ta:TA} {p pos:Pos} (hg:Gl X "range") (hm:X.mg "range"=none) (ha:PA X [a,b] ta) (hs:starEach [a,b] X.env=[(false,eval a X.env),(false,eval b X.env)]:=by rfl) (hs2:starEach [b] X.env=[(false,eval b X.env)]:=by rfl) :
  PI X tg (.Call (.Name "range" p) [a,b] [] pos) (iRng2 ta):=by
 intro pins s σ H R I h
 refine Call_ (ld_blt I hg hm boot_range (PyProof.Rows.callWith_type1 (thn (ha pos pins s σ H _ I h) fun us s1 ⟨vs,H1,I1,r1,q1⟩=>?_) (by rw [hs,hs2]) (by rw [hs2];rfl)))
 obtain ⟨i,j,e,⟨q1,q2,q3,q4⟩,q⟩:=q1
 subst e
 cases r1 with
 | cons r rr=>
  cases rr with
  | cons r' rr=>
   cases rr
   obtain ⟨t,rfl⟩:=r
   obtain ⟨t',rfl⟩:=r'
   exact call_range_2 (range_it I1 q1 q2 q3 q4 q)
noncomputable def tFor (wi:TI) (g:TG) (tb:TS):TS:=fun D σ H=>wi σ H fun J H1=>∃ W:Nat→Nat→St→Hp→Prop,(∃ m,W 0 m σ H1)∧∀ i m σ H,W i m σ H →
 (J.stop i H∧D.nx σ H) ∨ (J.go i H∧∃ N:St→Hp→Prop,(∀ σ' H',N σ' H'→∃ m',m' < m∧W (i + 1) m' σ' H')∧∀ x H',J.yld i H x H'→g x σ H' fun σ2 H2=>tb { D with nx:=N,ct:=N,bk:=D.nx } σ2 H2)
noncomputable def pinsAt (fp:List Addr) (h:Heap):List (Addr × Obj):=fp.filterMap fun b=>(h.get? b).map fun o=>(b,o)
theorem mem_pinsAt {fp:List Addr} {h:Heap} {b:Addr} {o:Obj} (hb:b ∈ fp) (e:h.get? b=some o):(b,o) ∈ pinsAt fp h:=List.mem_filterMap.mpr ⟨b,hb,by rw [e];rfl⟩
theorem of_pinsAt {fp:List Addr} {h:Heap} {p:Addr × Obj} (hp:p ∈ pinsAt fp h):p.1 ∈ fp∧h.get? p.1=some p.2:=by
 obtain ⟨b,hb,e⟩:=List.mem_filterMap.mp hp
 cases q:h.get? b with
 | none=>rw [q] at e;cases e
 | some o=>
  rw [q] at e
  have e':(b,o)=p:=Option.some.inj e
  subst e'
  exact ⟨hb,q⟩
theorem Inv.pinned {pins:List (Addr × Obj)} {σ:St} {H:Hp} {s:Shared} {fp:List Addr} (I:Inv X pins σ H s) (hf:∀ b ∈ fp,FpOk X pins H b) (ho:∀ b ∈ fp,∃ o,s.heap.get? b=some o∧∀ v,o.data ≠ .cell v):Inv X (pins++pinsAt fp s.heap) σ H s:=
 I.pins_of fun p hp=>(List.mem_append.mp hp).elim (fun z=>I.pin p (List.mem_append_right _ z)) fun z=>by
  obtain ⟨hb,e⟩:=of_pinsAt z
  obtain ⟨f0,f1,f2,_⟩:=hf p.1 hb
  obtain ⟨o,e',d⟩:=ho p.1 hb
  rw [e] at e';cases e'
  exact ⟨e,f0,f1,f2,d⟩
theorem Inv.unpinned {pins pl:List (Addr × Obj)} {σ:St} {H:Hp} {s:Shared} (I:Inv X (pins++pl) σ H s):Inv X pins σ H s:=I.pins_of fun p hp=>I.pin p (List.mem_append_right _ (List.mem_append_left _ hp))
theorem ps_for {iter:Expr} {body:List Stmt} {wi:TI} {g:TG} {tb:TS} {pos:Pos} (hp:PassesOwn (model X.prog X.w) X.A X.env X.xe) (hc:X.calm=true) (hi:PI X tg iter wi) (hg:PG X tg g) (hb:PSs X body tb)
  (hs:∀ x,foldedSetIterable iter X.env x=pure x:=by intro _;rfl):PS X (.For tg iter body [] pos) (tFor wi g tb):=by
 intro pins s σ H D I h
 refine wpAny_For (thn (hi pins s σ H _ I h) fun v s1 h1=>thn h1 fun itv s2 h2=>?_) hs
 obtain ⟨it,fp,tn,J,H2,e,I2,T,st2,f2,W,⟨m0,w0⟩,turn⟩:=h2
 subst e
 have stat:∀ {H':Hp},(∀ b ∈ fp,H' b=none)→∀ b ∈ fp,FpOk X pins H' b:=fun hn b hb=>⟨hn b hb,(f2 b hb).2⟩
 refine codeAny_forLoop_any (fun n s'=>∃ i σ' H',Inv X pins σ' H' s'∧tn i s'.heap∧(∀ b ∈ fp,H' b=none)∧W i n σ' H') ?_ m0 ⟨0,σ,H2,I2,st2,fun b hb=>(f2 b hb).1,w0⟩
 rintro n s3 ⟨i,σ3,H3,I3,st3,fr3,w3⟩
 rcases turn i n σ3 H3 w3 with ⟨stop,qn⟩ | ⟨go,N,hN,step⟩
 ·refine wpAny_passesOwn hp (thn (T.done X rfl rfl rfl hc i pins s3 σ3 H3 X.xe I3 (stat fr3) st3 stop) fun r s4 ⟨hr,I4⟩=>?_)
  subst hr
  exact wpAny_execs_nil ⟨σ3,H3,I4,qn⟩
 ·refine wpAny_passesOwn hp (thn (T.item X rfl rfl rfl hc i pins s3 σ3 H3 X.xe I3 (stat fr3) st3 go) fun r s4 ⟨u,hr,h4⟩=>?_)
  subst hr
  refine wpAny_passesOwn hp (thn h4 fun _ s5 ⟨x,H5,I5,r5,y5,st5,fr5⟩=>?_)
  have I5':=I5.pinned (stat fr5) (T.obj _ _ st5)
  refine wpAny_passesOwn hp (thn (hg _ s5 σ3 H5 x u _ I5' r5 (step x H5 y5)) fun _ s6 ⟨σ6,H6,I6,q6⟩=>?_)
  refine wpAny_passesOwn hp (thn (hb _ s6 σ6 H6 _ I6 q6) fun f s7 q7=>?_)
  have again:∀ {σ7:St} {H7:Hp},Inv X (pins++pinsAt fp s5.heap) σ7 H7 s7→N σ7 H7→∃ m,m < n∧∃ i σ' H',Inv X pins σ' H' s7∧tn i s7.heap∧(∀ b ∈ fp,H' b=none)∧W i m σ' H':=fun {σ7 H7} I7 n7=>by
   obtain ⟨m',hm,w7⟩:=hN σ7 H7 n7
   refine ⟨m',hm,i + 1,σ7,H7,I7.unpinned,T.keep _ _ _ st5 fun b hb o e=>(I7.pin (b,o) (List.mem_append_right _ (List.mem_append_right _ (mem_pinsAt hb e)))).1,fun b hb=>?_,w7⟩
   obtain ⟨o,e,d⟩:=T.obj _ _ st5 b hb
   exact (I7.pin (b,o) (List.mem_append_right _ (List.mem_append_right _ (mem_pinsAt hb e)))).2.1
  cases f with
  | next=>obtain ⟨σ7,H7,I7,n7⟩:=q7;exact again I7 n7
  | cont=>obtain ⟨σ7,H7,I7,n7⟩:=q7;exact again I7 n7
  | brk=>obtain ⟨σ7,H7,I7,q7⟩:=q7;exact ⟨σ7,H7,I7.unpinned,q7⟩
  | ret v=>obtain ⟨x7,σ7,H7,I7,r7,q7⟩:=q7;exact ⟨x7,σ7,H7,I7.unpinned,r7,q7⟩
end
end L2
namespace L2
open PySem PySem.Spec PyProof.Rows
noncomputable abbrev R2:=V→V→Hp→VK→Prop
noncomputable def OpR (X:Cx) (f:Value→Value→Sem Value) (r:R2):Prop:=
 ∀ (pins:List (Addr × Obj)) (s:Shared) (σ:St) (H:Hp) (x y:V) (v u:Value) (Q:VK),Inv X pins σ H s→RelV x v→RelV y u→r x y H Q →
  wpAny (model X.prog X.w) X.A (f v u) (EP X pins σ Q) X.xe s
noncomputable def UnR (X:Cx) (f:Value→Sem Value) (r:V→Hp→VK→Prop):Prop:=
 ∀ (pins:List (Addr × Obj)) (s:Shared) (σ:St) (H:Hp) (x:V) (v:Value) (Q:VK),Inv X pins σ H s→RelV x v→r x H Q →
  wpAny (model X.prog X.w) X.A (f v) (EP X pins σ Q) X.xe s
noncomputable def CallR (X:Cx) (f:Value) (r:List V→Hp→VK→Prop):Prop:=
 ∀ (pins:List (Addr × Obj)) (s:Shared) (σ:St) (H:Hp) (xs:List V) (us:List Value) (Q:VK),Inv X pins σ H s→Vals xs us→r xs H Q →
  wpAny (model X.prog X.w) X.A (call f us) (EP X pins σ Q) X.xe s
noncomputable def tOp (r:R2) (ta tb:TE):TE:=fun σ H Q=>ta σ H fun x H1=>tb σ H1 fun y H2=>r x y H2 Q
noncomputable def tUn (r:V→Hp→VK→Prop) (ta:TE):TE:=fun σ H Q=>ta σ H fun x H1=>r x H1 Q
noncomputable def rI (C:Int→Int→Prop) (g:Int→Int→V):R2:=fun x y H Q=>∃ i j,x=.int i∧y=.int j∧C i j∧Q (g i j) H
noncomputable def rI0 (g:Int→Int→V):R2:=fun x y H Q=>∃ i j,x=.int i∧y=.int j∧Q (g i j) H
noncomputable def rU (g:Int→V):V→Hp→VK→Prop:=fun x H Q=>∃ i,x=.int i∧Q (g i) H
section
variable {X:Cx} {a b c:Expr} {ta tb tc:TE} {pos:Pos}
theorem binT (ha:PE X a ta) (hb:PE X b tb) {pins:List (Addr × Obj)} {s:Shared} {σ:St} {H:Hp} {R:V→V→Hp→Prop} (I:Inv X pins σ H s)
  (h:ta σ H fun x H1=>tb σ H1 fun y H2=>R x y H2) {Q:Value→Shared→Prop} {f:Value→Value→Sem Value}
  (hf:∀ v u s2 x y H2,Inv X pins σ H2 s2→RelV x v→RelV y u→R x y H2→wpAny (model X.prog X.w) X.A (f v u) Q X.xe s2) :
  wpAny (model X.prog X.w) X.A (eval a X.env) (fun v s₁=>wpAny (model X.prog X.w) X.A (eval b X.env) (fun u s₂=>wpAny (model X.prog X.w) X.A (f v u) Q X.xe s₂) X.xe s₁) X.xe s:=by
 refine thn (ha pins s σ H _ I h) fun v s1 ⟨x,H1,I1,r1,q1⟩=>?_
 refine thn (hb pins s1 σ H1 _ I1 q1) fun u s2 ⟨y,H2,I2,r2,q2⟩=>?_
 exact hf v u s2 x y H2 I2 r1 r2 q2
theorem pe_op {op:Operator} {r:R2} (ho:OpR X (binaryOp op) r) (ha:PE X a ta) (hb:PE X b tb):PE X (.BinOp a op b pos) (tOp r ta tb):=by
 intro pins s σ H Q I h
 exact wpAny_BinOp (binT ha hb I h fun v u s2 x y H2 I2 rx ry q=>ho pins s2 σ H2 x y v u Q I2 rx ry q)
theorem pe_un {op:UnaryOp} {r:V→Hp→VK→Prop} (ho:UnR X (unaryOp op) r) (ha:PE X a ta):PE X (.UnaryOp op a pos) (tUn r ta):=by
 intro pins s σ H Q I h
 exact UnaryOp_ (thn (ha pins s σ H _ I h) fun v s1 ⟨x,H1,I1,r1,q1⟩=>ho pins s1 σ H1 x v Q I1 r1 q1)
theorem opI {f:Value→Value→Sem Value} {C:Int→Int→Prop} {g:Int→Int→Int}
  (rule:∀ (i j:Int) (t u:Tok) (s:Shared) (Q:Value→Shared→Prop) (E:Value→Shared→Prop),C i j→Q (.int (g i j) s.toks) { s with toks:=s.toks + 1 }→wpAny (model X.prog X.w) X.A (f (.int i t) (.int j u)) Q E s) :
  OpR X f (rI C fun i j=>.int (g i j)):=by
 intro pins s σ H x y v u Q I rx ry h
 obtain ⟨i,j,rfl,rfl,hc,q⟩:=h
 obtain ⟨t,rfl⟩:=rx
 obtain ⟨t',rfl⟩:=ry
 exact rule i j t t' s _ _ hc ⟨.int (g i j),H,I.tok _,⟨_,rfl⟩,q⟩
theorem opI0 {f:Value→Value→Sem Value} {g:Int→Int→Int}
  (rule:∀ (i j:Int) (t u:Tok) (s:Shared) (Q:Value→Shared→Prop) (E:Value→Shared→Prop),Q (.int (g i j) s.toks) { s with toks:=s.toks + 1 }→wpAny (model X.prog X.w) X.A (f (.int i t) (.int j u)) Q E s) :
  OpR X f (rI0 fun i j=>.int (g i j)):=by
 intro pins s σ H x y v u Q I rx ry h
 obtain ⟨i,j,rfl,rfl,q⟩:=h
 obtain ⟨t,rfl⟩:=rx
 obtain ⟨t',rfl⟩:=ry
 exact rule i j t t' s _ _ ⟨.int (g i j),H,I.tok _,⟨_,rfl⟩,q⟩
theorem opB0 {f:Value→Value→Sem Value} {g:Int→Int→Bool}
  (rule:∀ (i j:Int) (t u:Tok) (s:Shared) (Q:Value→Shared→Prop) (E:Value→Shared→Prop),Q (.bool (g i j)) s→wpAny (model X.prog X.w) X.A (f (.int i t) (.int j u)) Q E s) :
  OpR X f (rI0 fun i j=>.bl (g i j)):=by
 intro pins s σ H x y v u Q I rx ry h
 obtain ⟨i,j,rfl,rfl,q⟩:=h
 obtain ⟨t,rfl⟩:=rx
 obtain ⟨t',rfl⟩:=ry
 exact rule i j t t' s _ _ ⟨.bl (g i j),H,I,rfl,q⟩
noncomputable def CPow (i j:Int):Prop:=0≤j∧j≤1000000∧i.natAbs < 2 ^ 64
noncomputable def CMul (i j:Int):Prop:=(-(2 ^ 64) < i∧i < 2 ^ 64) ∨ (-(2 ^ 64) < j∧j < 2 ^ 64)
theorem CMul.ok {i j:Int} (h:CMul i j):IntMulOk i j:=by
 rcases h with ⟨h1,h2⟩ | ⟨h1,h2⟩
 ·exact .of_left (intBits_le_64 h1 h2)
 ·exact .of_right (intBits_le_64 h1 h2)
theorem op_add:OpR X (binaryOp .Add) (rI0 fun i j=>.int (i + j)):=opI0 fun _ _ _ _ _ _ _ q=>add_int q
theorem op_sub:OpR X (binaryOp .Sub) (rI0 fun i j=>.int (i - j)):=opI0 fun _ _ _ _ _ _ _ q=>sub_int q
theorem op_mod:OpR X (binaryOp .Mod) (rI (fun _ j=>0 < j) fun i j=>.int (i % j)):=opI fun i j _ _ _ _ _ hc q=>by
 have h1:(0:Int) < j:=hc
 exact mod_int' (by omega) (by rw [Int.fmod_eq_emod_of_nonneg i (by omega)];exact q)
theorem op_pow:OpR X (binaryOp .Pow) (rI CPow fun i j=>.int (i ^ j.toNat)):=opI fun _ _ _ _ _ _ _ hc q=>pow_int_small hc.1 hc.2.1 hc.2.2 q
theorem unI {f:Value→Sem Value} {g:Int→Int}
  (rule:∀ (i:Int) (t:Tok) (s:Shared) (Q:Value→Shared→Prop) (E:Value→Shared→Prop),Q (.int (g i) s.toks) { s with toks:=s.toks + 1 }→wpAny (model X.prog X.w) X.A (f (.int i t)) Q E s) :
  UnR X f (rU fun i=>.int (g i)):=by
 intro pins s σ H x v Q I rx h
 obtain ⟨i,rfl,q⟩:=h
 obtain ⟨t,rfl⟩:=rx
 exact rule i t s _ _ ⟨.int (g i),H,I.tok _,⟨_,rfl⟩,q⟩
theorem un_neg:UnR X (unaryOp .USub) (rU fun i=>.int (-i)):=unI fun _ _ _ _ _ q=>neg_int q
end
section
variable {X:Cx} {a b c:Expr} {ta tb tc:TE} {pos:Pos}
theorem op_lt:OpR X (compareOp .Lt) (rI0 fun i j=>.bl (decide (i < j))):=opB0 fun _ _ _ _ _ _ _ q=>lt_int q
theorem op_le:OpR X (compareOp .LtE) (rI0 fun i j=>.bl (decide (i≤j))):=opB0 fun _ _ _ _ _ _ _ q=>le_int q
theorem op_gt:OpR X (compareOp .Gt) (rI0 fun i j=>.bl (decide (j < i))):=opB0 fun _ _ _ _ _ _ _ q=>gt_int q
theorem op_ge:OpR X (compareOp .GtE) (rI0 fun i j=>.bl (decide (j≤i))):=opB0 fun _ _ _ _ _ _ _ q=>ge_int q
theorem OpR.or {f:Value→Value→Sem Value} {r r':R2} (h:OpR X f r) (h':OpR X f r'):OpR X f (fun x y H Q=>r x y H Q ∨ r' x y H Q):=by
 intro pins s σ H x y v u Q I rx ry q
 rcases q with q | q
 ·exact h pins s σ H x y v u Q I rx ry q
 ·exact h' pins s σ H x y v u Q I rx ry q
theorem nomark (b:Expr) {op:CmpOp} (h:op ≠ .In:=by decide) (h2:op ≠ .NotIn:=by decide):behindInMarks op b=false:=by
 have e1:(op == CmpOp.In)=false:=by cases op <;> first | rfl | exact absurd rfl h
 have e2:(op == CmpOp.NotIn)=false:=by cases op <;> first | rfl | exact absurd rfl h2
 cases b <;> simp [behindInMarks,e1,e2]
theorem pe_cmpR {op:CmpOp} {r:R2} (ho:OpR X (compareOp op) r) (ha:PE X a ta) (hb:PE X b tb) (hm:behindInMarks op b=false):PE X (.Compare a [op] [b] pos) (tOp r ta tb):=by
 intro pins s σ H Q I h
 exact wpAny_Compare1 (binT ha hb I h fun v u s2 x y H2 I2 rx ry q=>ho pins s2 σ H2 x y v u Q I2 rx ry q) hm
noncomputable def tTest (t:TE):TT:=fun σ H Q=>t σ H fun x H'=>∃ k,x=.bl k∧Q k H'
theorem pt_cmpR {op:CmpOp} {r:R2} (ho:OpR X (compareOp op) r) (ha:PE X a ta) (hb:PE X b tb) (hm:behindInMarks op b=false):PT X (.Compare a [op] [b] pos) (tTest (tOp r ta tb)):=by
 intro pins s σ H Q I h
 refine wpAny_isTrue_Compare1 (thn (ha pins s σ H _ I h) fun v s1 ⟨x,H1,I1,r1,q1⟩=>thn (hb pins s1 σ H1 _ I1 q1) fun u s2 ⟨y,H2,I2,r2,q2⟩=>
  thn (ho pins s2 σ H2 x y v u _ I2 r1 r2 q2) fun c s3 ⟨z,H3,I3,r3,k,e,q3⟩=>?_) hm
 subst e
 cases r3
 exact wpAny_truthy_bool ⟨H3,I3,q3⟩
theorem line63:(sizeLine:Nat) < 2 ^ 63:=by rw [sizeLine_eq];decide
theorem vals1 {x:V} {us:List Value} (r:Vals [x] us):∃ u,us=[u]∧RelV x u:=by
 cases r with
 | cons r1 r2=>cases r2;exact ⟨_,rfl,r1⟩
theorem vals2 {x y:V} {us:List Value} (r:Vals [x,y] us):∃ u w',us=[u,w']∧RelV x u∧RelV y w':=by
 cases r with
 | cons r1 r2=>
  cases r2 with
  | cons r3 r4=>cases r4;exact ⟨_,_,rfl,r1,r3⟩
theorem call_abs:CallR X (.builtin "abs") (fun xs H Q=>∃ i,xs=[.int i]∧Q (.int (if i < 0 then -i else i)) H):=by
 intro pins s σ H xs us Q I r h
 obtain ⟨i,rfl,q⟩:=h
 obtain ⟨u,rfl,t,rfl⟩:=vals1 r
 exact call_abs_int fun u tk=>⟨.int (if i < 0 then -i else i),H,I.tok _,⟨_,rfl⟩,q⟩
theorem call_max2 (hc:X.calm=true):CallR X (.builtin "max") (fun xs H Q=>∃ i j,xs=[.int i,.int j]∧Q (.int (if j > i then j else i)) H):=by
 intro pins s σ H xs us Q I r h
 obtain ⟨i,j,rfl,q⟩:=h
 obtain ⟨u,w',rfl,⟨t,rfl⟩,⟨t',rfl⟩⟩:=vals2 r
 refine max_two_ints (I.ok.hd hc) fun h' tk k=>⟨_,H,I.kept k,?_,q⟩
 by_cases hj:j > i
 ·rw [if_pos hj,if_pos hj];exact ⟨_,rfl⟩
 ·rw [if_neg hj,if_neg hj];exact ⟨_,rfl⟩
theorem call_min2 (hc:X.calm=true):CallR X (.builtin "min") (fun xs H Q=>∃ i j,xs=[.int i,.int j]∧Q (.int (if j < i then j else i)) H):=by
 intro pins s σ H xs us Q I r h
 obtain ⟨i,j,rfl,q⟩:=h
 obtain ⟨u,w',rfl,⟨t,rfl⟩,⟨t',rfl⟩⟩:=vals2 r
 refine min_two_ints (I.ok.hd hc) fun h' tk k=>⟨_,H,I.kept k,?_,q⟩
 by_cases hj:j < i
 ·rw [if_pos hj,if_pos hj];exact ⟨_,rfl⟩
 ·rw [if_neg hj,if_neg hj];exact ⟨_,rfl⟩
theorem call_int1:CallR X (.type "int") (fun xs H Q=>(∃ i,xs=[.int i]∧Q (.int i) H) ∨ ∃ k,xs=[.bl k]∧Q (.int (if k then 1 else 0)) H):=by
 intro pins s σ H xs us Q I r h
 rcases h with ⟨i,rfl,q⟩ | ⟨k,rfl,q⟩
 ·obtain ⟨u,rfl,t,rfl⟩:=vals1 r
  exact call_int_int ⟨.int i,H,I,⟨_,rfl⟩,q⟩
 ·obtain ⟨u,rfl,r1⟩:=vals1 r
  cases r1
  exact call_int_bool ⟨.int (if k then 1 else 0),H,I.tok _,⟨_,rfl⟩,q⟩
end
end L2
namespace L2
open PySem PySem.Spec PyProof.Rows
theorem RelO.some_of {v:V} {o:Option Value} (r:RelO (some v) o):∃ u,o=some u∧RelV v u:=by
 cases o with
 | none=>exact (show False from r).elim
 | some u=>exact ⟨u,rfl,r⟩
structure Cls (K:PySem.W.Frag) (C:Addr):Prop where
 pg:PySem.W.plainGet K C Str.empty=true
 hd:PySem.W.hasDictIn K C=true
 po:PySem.W.plainOver K C=true
 sa:PySem.W.findIn K (.ref C) "__setattr__"=some (some (.builtin "object.__setattr__"))
noncomputable def NoAttr (K:PySem.W.Frag) (C:Addr) (f:Str):Prop:=PySem.W.findIn K (.ref C) f=some none
structure Meth (K:PySem.W.Frag) (C:Addr) (m:Str) (f:Addr):Prop where
 at_:PySem.W.findIn K (.ref C) m=some (some (.ref f))
 fn:PySem.W.isFn K (.ref f)=true
 kp:PySem.W.keepIn K (.ref f)=true
end L2
namespace L2
open PySem PySem.Spec PyProof.Rows
structure Room (k:Nat) (A:Around):Prop where
 hd:A.handled=none
 dp:A.depth + 3 * k + 5 < recursionLimit
 un:A.units + 16 * k + 200 < cLine
theorem Room.deeper {k:Nat} {A:Around} (r:Room (k + 1) A) (env:Env):Room k (A.deeper env):=
 ⟨r.hd,by have:=r.dp;show A.depth + 1 + 3 * k + 5 < _;omega,by have:=r.un;show A.units + 3 + 16 * k + 200 < _;omega⟩
theorem Room.depth {k:Nat} {A:Around} (r:Room k A):A.depth < recursionLimit:=by have:=r.dp;omega
noncomputable def tNil:TA:=fun _ H Q=>Q [] H
noncomputable def tCons (ta:TE) (tr:TA):TA:=fun σ H Q=>ta σ H fun x H1=>tr σ H1 fun xs H2=>Q (x::xs) H2
section
variable {X:Cx} {e:Expr} {es:List Expr} {te:TE} {t:TA} {pos:Pos}
theorem pa_nil:PA X [] tNil:=fun _ _ _ _ H Q I h=>Calls.spliced_nil ⟨[],H,I,.nil,h⟩
theorem pa_cons (ha:PE X e te) (hr:PA X es t) (hs:starEach (e::es) X.env=(false,eval e X.env)::starEach es X.env:=by rfl):PA X (e::es) (tCons te t):=by
 intro pos pins s σ H Q I h
 rw [hs]
 show wpAny _ _ (spliced ((false,eval e X.env)::backTo pos (starEach es X.env))) _ _ s
 refine Calls.spliced_cons (thn (ha pins s σ H _ I h) fun u s1 ⟨x,H1,I1,r1,q1⟩=>?_)
 exact thn (hr pos pins s1 σ H1 _ I1 q1) fun us s2 ⟨xs,H2,I2,r2,q2⟩=>⟨x::xs,H2,I2,.cons r1 r2,q2⟩
noncomputable def tTup (t:TA):TE:=fun σ H Q=>t σ H fun xs H1=>xs.length≤sizeLine∧∀ p,H1 p=none→Q (.ref p) (upd H1 p (.tup xs))
noncomputable def tLst (t:TA):TE:=fun σ H Q=>t σ H fun xs H1=>xs.length≤sizeLine∧∀ p,H1 p=none→Q (.ref p) (upd H1 p (.lst xs))
theorem pe_tup {x1} (h:PA X es t):PE X (.Tuple es x1 pos) (tTup t):=by
 intro pins s σ H Q I hq
 refine wpAny_Tuple_spliced (thn (h pos pins s σ H _ I hq) fun us s1 ⟨xs,H1,I1,r,z,q⟩=>⟨by rw [← r.length];exact z,?_⟩)
 have hf:H1 s1.heap.objs.size=none:=I1.hok.fresh (Nat.le_refl _)
 refine ⟨.ref s1.heap.objs.size,upd H1 s1.heap.objs.size (.tup xs),I1.laid (t':=s1.toks) (fun b u e=>Heap.get?_push_of_some _ e) (Nat.le_refl _) ?_,rfl,q _ hf⟩
 exact ⟨z,us,r,IsTupD.new _ _⟩
theorem pe_lst (h:PA X es t):PE X (.List es pos) (tLst t):=by
 intro pins s σ H Q I hq
 refine wpAny_List_spliced (thn (h pos pins s σ H _ I hq) fun us s1 ⟨xs,H1,I1,r,z,q⟩=>⟨by rw [← r.length];exact z,?_⟩)
 have hf:H1 s1.heap.objs.size=none:=I1.hok.fresh (Nat.le_refl _)
 refine ⟨.ref s1.heap.objs.size,upd H1 s1.heap.objs.size (.lst xs),I1.laid (t':=s1.toks) (fun b u e=>Heap.get?_push_of_some _ e) (Nat.le_refl _) ?_,rfl,q _ hf⟩
 exact ⟨z,us,0,r,Heap.get?_push_size _ rfl⟩
end
noncomputable abbrev Sp:=List V→Hp→VK→XK→Prop
noncomputable abbrev CXT:=List Env→Hp→Shared→XK→Value→Shared→Prop
structure Env0 (P:Program) (w:World) (K:PySem.W.Frag) (mg:Str→Option Value) (base:Heap) (A:Around) (outer:List Env) (s:Shared) (H:Hp):Prop where
 frames:A.frames=some outer
 mod:Mod K mg base
 bs:∀ b o,base.get? b=some o→s.heap.get? b=some o∧H b=none
 bsz:base.objs.size≤s.heap.objs.size
 funs:s.heap.FunFrames base outer
 frf:∀ b ∈ frs outer,H b=none
 hok:HOk P w H s.heap
 bare:AllBare s.gens
noncomputable def CE (outer:List Env) (P:Program) (w:World) (H:Hp) (s:Shared) (Q:VK) (u:Value) (s':Shared):Prop:=
 ∃ v H',s'.os=s.os∧AllBare s'.gens∧Un (frs outer) [] H H' s.heap s'.heap∧HOk P w H' s'.heap∧RelV v u∧Q v H'
noncomputable def CR (CX:CXT) (outer:List Env) (P:Program) (w:World) (H:Hp) (s:Shared) (Q:VK) (E:XK) (r:Result) (s':Shared):Prop:=
 match r with
 | .ok (.ret u)=>CE outer P w H s Q u s'
 | .ok _=>False
 | .error e=>CX outer H s E e s'
structure FnOk (P:Program) (w:World) (K:PySem.W.Frag) (mg:Str→Option Value) (base:Heap) (CX:CXT) (k:Nat) (f:Addr) (fd:FuncData) (ps:List Str) (sp:Sp):Prop where
 len:∀ vs H Q E,sp vs H Q E→vs.length=ps.length
 run:∀ (A:Around) (outer:List Env) (s:Shared) (H:Hp) (args:Args) (us:List Value) (vs:List V) (Q:VK) (E:XK),Room k A→Env0 P w K mg base A outer s H→BindsTo s fd args (ps.zip us)→Vals vs us→sp vs H Q E →
  codeAny (model P w) A (.call (.ref f) args) (CR CX outer P w H s Q E) s
section
variable {X:Cx} {pins:List (Addr × Obj)} {σ:St} {H:Hp} {s s':Shared}
theorem Inv.env0 (I:Inv X pins σ H s):Env0 X.prog X.w X.K X.mg X.base X.A X.stack s H:=
 ⟨I.ok.frames,I.ok.mod,I.bs,Nat.le_trans I.ok.bsz I.sz,I.stack,I.stkFree,I.hok,I.bare⟩
theorem Inv.after {Q:VK} {u:Value} (I:Inv X pins σ H s) (h:CE X.stack X.prog X.w H s Q u s'):EP X pins σ Q u s':=by
 obtain ⟨v,H',os,bare,un,hok,r,q⟩:=h
 obtain ⟨hh,g,d,t,os'⟩:=s'
 obtain rfl:os'=s.os:=os
 exact ⟨v,H',I.call (h':=hh) (g':=g) (d':=d) (t':=t) (ch:=[]) un hok bare (fun b z=>absurd z (by simp)),r,q⟩
end
noncomputable def tCall (sp:Sp) (dvs:List V) (E:XK) (t:TA):TE:=fun σ H Q=>t σ H fun vs H1=>sp (vs++dvs) H1 Q E
noncomputable def Binds (K:PySem.W.Frag) (fd:FuncData) (ps:List Str) (ds:List Value):Prop:=
 ∀ (s:Shared) (us:List Value),K.In s.heap→(us++ds).length=ps.length→BindsTo s fd ⟨us,[]⟩ (ps.zip (us++ds))
theorem Binds.all {K:PySem.W.Frag} {fd:FuncData} {ps:List Str} (h:∀ us:List Value,us.length=ps.length→bindArgs fd ⟨us,[]⟩=pure (ps.zip us)):Binds K fd ps []:=fun s us _ hl=>by
 rw [List.append_nil] at hl ⊢
 exact .of_eq (h us hl)
noncomputable def Passes (CX:CXT) (X:Cx) (E:XK):Prop:=∀ (pins:List (Addr × Obj)) (σ:St) (H:Hp) (s:Shared) (e:Value) (s':Shared),Inv X pins σ H s→CX X.stack H s E e s'→X.xe e s'
section
variable {X:Cx} {CX:CXT} {k:Nat} {f C:Addr} {fd:FuncData} {ps:List Str} {sp:Sp} {dvs:List V} {ds:List Value} {E:XK} {x m:Str} {p pos apos:Pos} {e o:Expr} {es:List Expr} {ta:TE} {t:TA}
theorem run_fn {pins:List (Addr × Obj)} {σ:St} {H:Hp} {s:Shared} {Q:VK} {us:List Value} {vs:List V} (F:FnOk X.prog X.w X.K X.mg X.base CX k f fd ps sp) (hr:Room k X.A) (hb:Binds X.K fd ps ds) (hd:Vals dvs ds) (hx:Passes CX X E)
  (I:Inv X pins σ H s) (r:Vals vs us) (h:sp (vs++dvs) H Q E):wpAny (model X.prog X.w) X.A (call (.ref f) us) (EP X pins σ Q) X.xe s:=by
 have r2:Vals (vs++dvs) (us++ds):=r.append hd
 have hl:(us++ds).length=ps.length:=by rw [← r2.length];exact F.len _ _ _ _ h
 refine wpAny_call (codeAny_mono (F.run X.A X.stack s H ⟨us,[]⟩ (us++ds) (vs++dvs) Q E hr I.env0 (hb s us I.kIn hl) r2 h) fun r s' hq=>?_)
 cases r with
 | error e=>exact hx pins σ H s e s' I hq
 | ok fl=>
  cases fl with
  | ret u=>exact I.after hq
  | next=>exact False.elim hq
  | brk=>exact False.elim hq
  | cont=>exact False.elim hq
theorem pe_call (F:FnOk X.prog X.w X.K X.mg X.base CX k f fd ps sp) (hr:Room k X.A) (hg:Gl X x) (hm:X.mg x=some (.ref f)) (hk:PySem.W.keepIn X.K (.ref f)=true) (hb:Binds X.K fd ps ds) (hd:Vals dvs ds) (hx:Passes CX X E)
  (ha:PA X (e::es) t) (hdb:(x == ("__debug__":Str))=false:=by decide) (he:starEach (e::es) X.env=(false,eval e X.env)::starEach es X.env:=by rfl) (hpl:(backTo pos (starEach es X.env)).any (·.1)=false:=by rfl) :
  PE X (.Call (.Name x p) (e::es) [] pos) (tCall sp dvs E t):=by
 intro pins s σ H Q I h
 refine wpAny_Call_Name_kw (ld_glob I hg hm ?_ hdb)
 refine PySem.W.callWith_K (h₀:=X.base) I.ok.mod.kin hk (thn (ha pos pins s σ H _ I h) fun us s1 ⟨vs,H1,I1,r,q⟩=>⟨I1.kIn,?_⟩) he hpl
 exact run_fn F hr hb hd hx I1 r q
structure Mk (K:PySem.W.Frag) (C f:Addr):Prop where
 makes:PySem.W.makesIn K C=true
 init:PySem.W.findIn K (.ref C) "__init__"=some (some (.ref f))
 fn:PySem.W.isFn K (.ref f)=true
 kp:PySem.W.keepIn K (.ref C)=true
end
structure FnScope (N P:List Str) (sc:Scope):Prop where
 kind:sc.kind=.function
 co:sc.isCoroutine=false
 gen:sc.isGenerator=false
 nd:N.Nodup
 pre:N.take P.length=P
 par:∀ x ∈ P,sc.names.lookup x=some .local ∨ sc.names.lookup x=some .cell
 nofree:∀ y ∈ sc.names,y.2 ≠ .free
theorem bindL_out {kindOf:Str→Option NameKind} {x:Str}:∀ {binds:List (Str × Value)} {m:Str→Option Value},(∀ v,(x,v) ∉ binds)→bindL kindOf binds m x=m x
 | [],_,_=>rfl
 | (n,v)::r,m,h=>by
  unfold bindL
  rw [bindL_out fun w hw=>h w (List.mem_cons_of_mem _ hw)]
  split
  ·have:x ≠ n:=by rintro rfl;exact h v List.mem_cons_self
   simp [this]
  ·rfl
theorem bindC_out {kindOf:Str→Option NameKind} {x:Str}:∀ {binds:List (Str × Value)} {m:Str→Option Value},(∀ v,(x,v) ∉ binds)→bindC kindOf binds m x=m x
 | [],_,_=>rfl
 | (n,v)::r,m,h=>by
  unfold bindC
  rw [bindC_out fun w hw=>h w (List.mem_cons_of_mem _ hw)]
  split
  ·rfl
  ·have:x ≠ n:=by rintro rfl;exact h v List.mem_cons_self
   simp [this]
theorem bindL_get {kindOf:Str→Option NameKind} {x:Str} {v:Value}:∀ {P:List Str} {vs:List Value} {i:Nat} {m:Str→Option Value},P.Nodup→P[i]?=some x→vs[i]?=some v→kindOf x=some .local →
  bindL kindOf (P.zip vs) m x=some v
 | [],_,_,_,_,h,_,_=>by simp at h
 | _::_,[],_,_,_,_,h,_=>by simp at h
 | p::P,w::vs,0,m,nd,h1,h2,hk=>by
  simp at h1 h2;subst h1;subst h2
  show bindL kindOf ((p,w)::P.zip vs) m p=_
  unfold bindL
  rw [bindL_out fun v hv=>(List.nodup_cons.mp nd).1 (List.of_mem_zip hv).1,if_pos hk]
  simp
 | p::P,w::vs,i + 1,m,nd,h1,h2,hk=>by
  show bindL kindOf ((p,w)::P.zip vs) m x=_
  unfold bindL
  exact bindL_get (i:=i) (List.nodup_cons.mp nd).2 (by simpa using h1) (by simpa using h2) hk
theorem bindC_get {kindOf:Str→Option NameKind} {x:Str} {v:Value}:∀ {P:List Str} {vs:List Value} {i:Nat} {m:Str→Option Value},P.Nodup→P[i]?=some x→vs[i]?=some v→kindOf x ≠ some .local →
  bindC kindOf (P.zip vs) m x=some v
 | [],_,_,_,_,h,_,_=>by simp at h
 | _::_,[],_,_,_,_,h,_=>by simp at h
 | p::P,w::vs,0,m,nd,h1,h2,hk=>by
  simp at h1 h2;subst h1;subst h2
  show bindC kindOf ((p,w)::P.zip vs) m p=_
  unfold bindC
  rw [bindC_out fun v hv=>(List.nodup_cons.mp nd).1 (List.of_mem_zip hv).1,if_neg hk]
  simp
 | p::P,w::vs,i + 1,m,nd,h1,h2,hk=>by
  show bindC kindOf ((p,w)::P.zip vs) m x=_
  unfold bindC
  exact bindC_get (i:=i) (List.nodup_cons.mp nd).2 (by simpa using h1) (by simpa using h2) hk
noncomputable def start (N:List Str) (vs:List V):St:=vs.map some++List.replicate (N.length - vs.length) none
noncomputable def cxOf (CX:CXT) (P:Program) (w:World) (K:PySem.W.Frag) (mg:Str→Option Value) (base:Heap) (N:List Str) (qual:Str) (scope:Scope) (f:Addr) (cd:Value) (A:Around) (outer:List Env) (s:Shared) (H:Hp) (E:XK):Cx where
 prog:=P
 w:=w
 K:=K
 mg:=mg
 base:=base
 A:=A.deeper (envOfC qual scope s.heap.objs.size f cd)
 N:=N
 s₀:=s
 H₀:=H
 env:=envOfC qual scope s.heap.objs.size f cd
 outer:=outer
 stack:=envOfC qual scope s.heap.objs.size f cd::outer
 ex:=[]
 calm:=true
 fn:=fun _=>true
 pn:=[]
 xe:=fun e s'=>wpAny (model P w) (A.deeper (envOfC qual scope s.heap.objs.size f cd)) (leaving (envOfC qual scope s.heap.objs.size f cd) e) (fun _ s''=>CX outer H s E e s'') (fun e' s''=>CX outer H s E e' s'') s'
theorem cell_has {sc:Scope} {n:Nat} {x:Str} (h:sc.names.lookup x=some .cell):∃ c,(cellsFrom n sc.names []).lookup x=some c:=by
 have q:=PySem.W.cellsFrom_some sc.names n [] (.inl h)
 exact Option.isSome_iff_exists.mp q
theorem inv_start {CX:CXT} {P:Program} {w:World} {K:PySem.W.Frag} {mg:Str→Option Value} {base:Heap} {N ps:List Str} {qual:Str} {scope:Scope} {f:Addr} {cd:Value} {A:Around} {outer:List Env} {s s1:Shared} {H:Hp} {E:XK} {us:List Value} {vs:List V}
  (S:FnScope N ps scope) (hd:A.handled=none) (e0:Env0 P w K mg base A outer s H) (hl:vs.length=ps.length) (r:Vals vs us)
  (x:InCallC s s.heap.objs.size (bindL (envOfC qual scope s.heap.objs.size f cd).kindOf (ps.zip us) fun _=>none) (cellsFrom (s.heap.objs.size + 1) scope.names []) (bindC (envOfC qual scope s.heap.objs.size f cd).kindOf (ps.zip us) fun _=>none) s1) :
  Inv (cxOf CX P w K mg base N qual scope f cd A outer s H E) [] (start N vs) H s1:=by
 have hpl:ps.length≤N.length:=by have:=congrArg List.length S.pre;rw [List.length_take] at this;omega
 obtain ⟨h1,tk,rfl,hk⟩:=x.done
 have noA:∀ b:Addr,b ∉ (cxOf CX P w K mg base N qual scope f cd A outer s H E).ex:=fun b z=>absurd (show b ∈ ([]:List Addr) from z) (by simp)
 refine ⟨⟨e0.mod,S.kind,rfl,rfl,Nat.le_refl _,fun y z c h1 h2=>?_,fun y hy=>?_,fun y c _ h=>?_,fun _=>hd,Around.frames_deeper e0.frames,.inr ⟨rfl,rfl⟩,fun b z=>absurd z (noA b),e0.bs,e0.bsz,fun b _ _=>noA b,fun b z=>absurd z (noA b),e0.funs,e0.frf⟩,
  rfl,e0.bare,Un.kept hk,⟨_,x.toInCall.ns,fun i y v h1 h2 h3=>?_⟩,fun y c h=>⟨_,x.cell y c h⟩,e0.hok.fresh (Nat.le_refl _),fun y c h=>?_,fun p hp=>absurd (show p ∈ ([]:List (Addr × Obj)) from hp) (by simp),e0.hok.kept hk,?_⟩
 ·exact name_of_addr x.apart (PySem.mem_of_lookup h1) (PySem.mem_of_lookup h2)
 ·have hy:scope.names.lookup y=some .cell ∨ scope.names.lookup y=some .free:=hy
  rcases hy with hy | hy
  ·exact cell_has hy
  ·exact absurd rfl (S.nofree _ (PySem.mem_of_lookup hy))
 ·exact Nat.le_of_lt (x.above y c (PySem.mem_of_lookup h))
 ·have hi:i < vs.length:=by
   unfold start at h2
   by_cases hi:i < vs.length
   ·exact hi
   ·rw [List.getElem?_append_right (by simpa using hi)] at h2
    rw [List.getElem?_replicate] at h2
    split at h2 <;> cases h2
  have ha:vs[i]?=some v:=by
   unfold start at h2
   rw [List.getElem?_append_left (by simpa using hi),List.getElem?_map] at h2
   cases e:vs[i]? with
   | none=>rw [e] at h2;cases h2
   | some a=>rw [e] at h2;cases h2;rfl
  obtain ⟨u,hu,rv⟩:=r.get ha
  have hp:ps[i]?=some y:=by
   rw [← S.pre,List.getElem?_take_of_lt (by omega)];exact h1
  have ndP:ps.Nodup:=by rw [← S.pre];exact S.nd.sublist (List.take_sublist _ _)
  refine ⟨u,rv,?_⟩
  rcases S.par y (List.mem_of_getElem? hp) with k | k
  ·exact .inl ⟨k,bindL_get ndP hp hu k⟩
  ·obtain ⟨c,e⟩:=cell_has (n:=s.heap.objs.size + 1) k
   refine .inr ⟨.inl k,c,e,?_⟩
   have q:=x.cell y c e
   rw [bindC_get ndP hp hu (by show scope.names.lookup y ≠ _;rw [k];decide)] at q
   exact q
 ·exact .inl (e0.hok.fresh (Nat.le_of_lt (x.above y c (PySem.mem_of_lookup h))))
 ·unfold start
  show _=N.length
  rw [List.length_append,List.length_map,List.length_replicate]
  omega
end L2
namespace L2
open PySem PySem.Spec PyProof.Rows
section
variable {X:Cx} {x:Str} {p pos:Pos} {e:Expr} {es:List Expr} {t:TA} {id T:String} {r:List V→Hp→VK→Prop}
noncomputable def tCB (r:List V→Hp→VK→Prop) (t:TA):TE:=fun σ H Q=>t σ H fun vs H1=>r vs H1 Q
theorem pe_callB (hc:CallR X (.builtin id) r) (hg:Gl X x) (hm:X.mg x=none) (hv:bootBuiltins x=some (.builtin id)) (ha:PA X (e::es) t) (hn:x ≠ "__name__":=by decide) (hdb:(x == ("__debug__":Str))=false:=by decide)
  (he:starEach (e::es) X.env=(false,eval e X.env)::starEach es X.env:=by rfl) (hpl:(backTo pos (starEach es X.env)).any (·.1)=false:=by rfl):PE X (.Call (.Name x p) (e::es) [] pos) (tCB r t):=by
 intro pins s σ H Q I h
 refine wpAny_Call_Name_kw (ld_blt I hg hm hv ?_ hn hdb)
 exact PyProof.Rows.callWith_builtin1 (thn (ha pos pins s σ H _ I h) fun us s1 ⟨vs,H1,I1,r1,q1⟩=>hc pins s1 σ H1 vs us Q I1 r1 q1) he hpl
theorem pe_callTy (hc:CallR X (.type T) r) (hg:Gl X x) (hm:X.mg x=none) (hv:bootBuiltins x=some (.type T)) (ha:PA X (e::es) t) (hn:x ≠ "__name__":=by decide) (hdb:(x == ("__debug__":Str))=false:=by decide)
  (he:starEach (e::es) X.env=(false,eval e X.env)::starEach es X.env:=by rfl) (hpl:(backTo pos (starEach es X.env)).any (·.1)=false:=by rfl):PE X (.Call (.Name x p) (e::es) [] pos) (tCB r t):=by
 intro pins s σ H Q I h
 refine wpAny_Call_Name_kw (ld_blt I hg hm hv ?_ hn hdb)
 exact PyProof.Rows.callWith_type1 (thn (ha pos pins s σ H _ I h) fun us s1 ⟨vs,H1,I1,r1,q1⟩=>hc pins s1 σ H1 vs us Q I1 r1 q1) he hpl
end
end L2
namespace HT
open PySem PyProof.Rows
section
open PySem.SeqAt
open PySem.AutoSeq1 (wpAny_loadPart')
open PySem.MeetsSeq PySem.MeetsSeq2 PySem.MeetsSeq3
end
section
variable {prog:Program} {w:World} {A:Around} {E:Value→Shared→Prop} {s:Shared}
theorem cat_tup {t b:Addr} {vs ws:List Value} {Q:Value→Shared→Prop} (ht:IsTup s.heap t vs.toArray) (hb:IsTup s.heap b ws.toArray) (hv:vs ≠ [])
  (h1:ws=[]→Q (.ref t) s) (h2:ws ≠ []→Q (.ref s.heap.objs.size) { s with heap:=s.heap.push { cls:=.type "tuple",data:=.seq (vs++ws).toArray } })
  (hsz:vs.length + ws.length≤sizeLine):wpAny (model prog w) A (binaryOp .Add (.ref t) (.ref b)) Q E s:=by
 obtain ⟨⟨cls,dd,data,sl⟩,ho,hc,n,hd⟩:=id ht
 obtain ⟨⟨cls2,dd2,data2,sl2⟩,ho2,hc2,n2,hd2⟩:=id hb
 simp only at hc hd hc2 hd2
 subst hc hd hc2 hd2
 have e:vs.toArray++ws.toArray=(vs++ws).toArray:=by simp
 by_cases hw:ws=[]
 ·exact concat_meets ⟨_,ho,rfl⟩ ⟨_,ho2,rfl⟩ noFill_tuple_add seq_tuple_add PySem.F.slot_tuple_add PySem.F.entry_tuple_add (PySem.F.args_tuple_add_2 _ _)
   (tuple_addW1 t b vs.toArray ws.toArray n n2 dd dd2 sl sl2 (by simpa using hv) (by simp [hw])) ⟨ho,ho2,h1 hw⟩
 ·refine concat_meets ⟨_,ho,rfl⟩ ⟨_,ho2,rfl⟩ noFill_tuple_add seq_tuple_add PySem.F.slot_tuple_add PySem.F.entry_tuple_add (PySem.F.args_tuple_add_2 _ _)
   (tuple_addW2 t b vs.toArray ws.toArray n n2 dd dd2 sl sl2 (by simpa using hv) (by simpa using hw) (by rw [List.size_toArray,List.size_toArray];exact hsz)) ⟨ho,ho2,?_⟩
  rw [e]
  exact h2 hw
noncomputable def sIx (n d:Nat):Option Int→Nat
 | none=>d
 | some v=>if v < 0 then (v + (n:Int)).toNat else min v.toNat n
theorem sIx_le (n d:Nat) (hd:d≤n) (o:Option Int):sIx n d o≤n:=by
 cases o with
 | none=>exact hd
 | some v=>
  show (if v < 0 then (v + (n:Int)).toNat else min v.toNat n)≤n
  by_cases hv:v < 0
  ·rw [if_pos hv];omega
  ·rw [if_neg hv];exact Nat.min_le_right _ _
theorem clip_eq (v:Int) (n d:Nat):(if v < 0 then max (v + (n:Int)) 0 else min v (n:Int))=((sIx n d (some v):Nat):Int):=by
 show (if v < 0 then max (v + (n:Int)) 0 else min v (n:Int))=(((if v < 0 then (v + (n:Int)).toNat else min v.toNat n):Nat):Int)
 by_cases hv:v < 0
 ·simp only [if_pos hv];omega
 ·simp only [if_neg hv];omega
theorem adjust_gen (lo hi:Option Int) (n:Nat):Builtin.Slice.sliceAdjust lo hi 1 (n:Int)=(((sIx n 0 lo:Nat):Int),((sIx n n hi:Nat):Int)):=by
 have h1:¬ ((1:Int) < 0):=by omega
 unfold Builtin.Slice.sliceAdjust
 simp only [h1,if_false]
 refine Prod.ext ?_ ?_
 ·cases lo with
  | none=>rfl
  | some v=>exact clip_eq v n 0
 ·cases hi with
  | none=>rfl
  | some v=>exact clip_eq v n n
theorem places_gen (i j:Nat):Builtin.Slice.slicePlaces (i:Int) (j:Int) 1=j - i:=by
 unfold Builtin.Slice.slicePlaces
 have h1:(1:Int) > 0:=by omega
 simp only [h1,if_true,Int.ediv_one]
 split <;> omega
theorem slicePart_ {v:Value} {o:Option Int} {Q:Option Int→Shared→Prop} (p:IsPart v o) (h:Q o s):wpAny (model prog w) A (Builtin.Slice.slicePartIndex v) Q E s:=by
 cases p with
 | none=>exact slicePart_none h
 | int i t=>exact slicePart_int h
theorem sliceApplied_gen {sl:Addr} {vl vu:Value} {lo hi:Option Int} {n:Nat} {Q:Int × Int × Nat→Shared→Prop} (hs:s.heap.IsSliceOf sl vl vu .none) (pl:IsPart vl lo) (pu:IsPart vu hi)
  (h:Q (((sIx n 0 lo:Nat):Int),1,sIx n n hi - sIx n 0 lo) s):wpAny (model prog w) A (Builtin.Slice.sliceApplied (.ref sl) (pure (n:Int))) Q E s:=by
 obtain ⟨os,hos,hcs,hds⟩:=id hs
 unfold Builtin.Slice.sliceApplied Builtin.Slice.sliceFields
 refine wpAny_bind (wpAny_bind (wpAny_field hos hds (x:=vl) rfl (wpAny_bind (wpAny_field hos hds (x:=vu) rfl (wpAny_bind (wpAny_field hos hds (x:=.none) rfl (wpAny_pure ?_)))))))
 refine wpAny_bind (slicePart_none ?_)
 show wpAny _ _ (if ((1:Int) == 0)=true then _ else _) _ _ s
 rw [if_neg (by decide)]
 refine wpAny_bind (slicePart_ pl (wpAny_bind (slicePart_ pu (wpAny_bind (wpAny_pure ?_)))))
 show wpAny _ _ (match Builtin.Slice.sliceAdjust lo hi 1 (n:Int) with | (lo,hi)=>pure (lo,(1:Int),Builtin.Slice.slicePlaces lo hi 1)) _ _ s
 rw [adjust_gen lo hi n]
 show wpAny _ _ (pure (((sIx n 0 lo:Nat):Int),(1:Int),Builtin.Slice.slicePlaces ((sIx n 0 lo:Nat):Int) ((sIx n n hi:Nat):Int) 1)) _ _ s
 rw [places_gen]
 exact wpAny_pure h
theorem pick_gen (xs:Array Value) (i k:Nat):((List.range k).filterMap fun (m:Nat)=>xs[((i:Int) + (m:Int) * 1).toNat]?).toArray=((xs.toList.drop i).take k).toArray:=by
 have e:(fun (m:Nat)=>xs[((i:Int) + (m:Int) * 1).toNat]?)=fun m=>xs[i + m]?:=by
  funext m
  have:((i:Int) + (m:Int) * 1).toNat=i + m:=by omega
  rw [this]
 rw [e]
 have:=pick_run xs i k
 rw [List.filterMap_map] at this
 have e2:((fun x=>xs[x]?) ∘ fun x=>i + x)=fun m=>xs[i + m]?:=rfl
 rw [e2] at this
 rw [this]
theorem getItem_tuple_cut {t sl:Addr} {items:Array Value} {vl vu:Value} {lo hi:Option Int} {Q:Value→Shared→Prop} (ht:IsTup s.heap t items) (hs:s.heap.IsSliceOf sl vl vu .none) (pl:IsPart vl lo) (pu:IsPart vu hi)
  (hw:¬ (sIx items.size 0 lo=0∧sIx items.size items.size hi=items.size))
  (h:Q (.ref s.heap.objs.size) { s with heap:=s.heap.push { cls:=.type "tuple",data:=.seq ((items.toList.drop (sIx items.size 0 lo)).take (sIx items.size items.size hi - sIx items.size 0 lo)).toArray } })
  (hsz:items.size≤sizeLine):wpAny (model prog w) A (getItem (.ref t) (.ref sl)) Q E s:=by
 have htake:sizeOk (.seq ((items.toList.drop (sIx items.size 0 lo)).take (sIx items.size items.size hi - sIx items.size 0 lo)).toArray):=by
  show ((items.toList.drop (sIx items.size 0 lo)).take (sIx items.size items.size hi - sIx items.size 0 lo)).toArray.size≤sizeLine
  rw [List.size_toArray,List.length_take,List.length_drop,Array.length_toList]
  omega
 have hj:sIx items.size items.size hi≤items.size:=sIx_le _ _ (Nat.le_refl _) hi
 obtain ⟨os,hos,hcs,hds⟩:=id hs
 have hTs:s.TypeIs (.ref sl) "slice":=⟨os,hos,hcs⟩
 unfold getItem
 try with_reducible refine wpAny_holding ?_
 first | refine wpAny_bind (wpAny_pure ?_) | skip
 refine wpAny_bind (wpAny_sequenceKey ht.typeIs (by decide) ?_)
 refine wpAny_bind (wpAny_callSpecial?_slot (name:=Str.ofString "__getitem__") ht.typeIs PyProof.Rows.slot_tuple_getitem
  (wpAny_call_entry PyProof.Rows.slot_tuple_getitem ht.typeIs entry_tuple_getitem ?_ (args_tuple_getitem _ _)))
 show wpAny _ _ (Builtin.Tuple.tupleItemsOf (.ref t) >>= _) _ _ s
 refine wpAny_bind (tupleItemsOf_ ht ?_)
 refine wpAny_bind (wpAny_typeOf hTs ?_)
 rw [if_pos (by decide)]
 refine wpAny_bind (sliceApplied_gen hs pl pu ?_)
 have hno:¬ ((((sIx items.size 0 lo:Nat):Int) == 0 && (1:Int) == 1 && (sIx items.size items.size hi - sIx items.size 0 lo) == items.size)=true):=by
  intro q
  rw [Bool.and_eq_true,Bool.and_eq_true] at q
  have q1:((sIx items.size 0 lo:Nat):Int)=0:=eq_of_beq q.1.1
  have q2:sIx items.size items.size hi - sIx items.size 0 lo=items.size:=eq_of_beq q.2
  exact hw ⟨by omega,by omega⟩
 show wpAny _ _ (if (((sIx items.size 0 lo:Nat):Int) == 0 && (1:Int) == 1 && (sIx items.size items.size hi - sIx items.size 0 lo) == items.size)=true then _ else _) _ _ s
 rw [if_neg hno,pick_gen]
 first
  | exact wpAny_bind (m:=Builtin.Tuple.tupleExact _) (wpAny_newObj_type (wpAny_pure ⟨_,rfl,wpAny_pure h⟩) htake)
  | exact wpAny_bind (m:=Builtin.Tuple.tupleExact _) (wpAny_newObj_type (wpAny_bind (wpAny_pure (wpAny_pure ⟨_,rfl,wpAny_pure h⟩))) htake)
  | exact wpAny_bind (wpAny_bind (m:=Builtin.Tuple.tupleExact _) (wpAny_newObj_type (wpAny_pure (wpAny_pure ⟨_,rfl,wpAny_pure h⟩)) htake))
  | exact wpAny_bind (wpAny_bind (m:=Builtin.Tuple.tupleExact _) (wpAny_newObj_type (wpAny_pure ⟨_,rfl,wpAny_pure h⟩) htake))
end
end HT
namespace L2
open PySem PySem.Spec PyProof.Rows
noncomputable abbrev TO:=St→Hp→(Option Int→Hp→Prop)→Prop
noncomputable def PO (X:Cx) (e:Option Expr) (t:TO):Prop:=
 ∀ (pins:List (Addr × Obj)) (s:Shared) (σ:St) (H:Hp) (Q:Option Int→Hp→Prop),Inv X pins σ H s→t σ H Q →
  wpAny (model X.prog X.w) X.A (evalPart e X.env) (fun u s'=>∃ o H',Inv X pins σ H' s'∧IsPart u o∧Q o H') X.xe s
noncomputable def tNoPart:TO:=fun _ H Q=>Q none H
noncomputable def tPart (t:TE):TO:=fun σ H Q=>t σ H fun x H1=>∃ i,x=.int i∧Q (some i) H1
theorem intsAre_of {ns:List Int}:∀ {us:List Value},Vals (ns.map V.int) us→IntsAre us ns:=by
 induction ns with
 | nil=>intro us r;rw [List.map_nil] at r;cases r;exact .nil
 | cons n ns ih=>
  intro us r
  rw [List.map_cons] at r
  cases r with
  | cons r1 r2=>
   obtain ⟨t,e⟩:=r1
   subst e
   exact .cons n t (ih r2)
section
variable {X:Cx} {e:Expr} {te:TE} {lo hi:Option Expr} {tl th:TO} {pos p2:Pos}
theorem po_none:PO X none tNoPart:=by
 intro pins s σ H Q I h
 rw [evalPart_none]
 exact wpAny_pure ⟨none,H,I,.none,h⟩
theorem po_some (h:PE X e te):PO X (some e) (tPart te):=by
 intro pins s σ H Q I hw
 rw [evalPart_some]
 refine thn (h pins s σ H _ I hw) fun u s1 ⟨x,H1,I1,r1,q1⟩=>?_
 obtain ⟨i,rfl,q⟩:=q1
 obtain ⟨t,rfl⟩:=r1
 exact ⟨some i,H1,I1,.int i t,q⟩
noncomputable def SlR (X:Cx) (r:V→Option Int→Option Int→Hp→VK→Prop):Prop:=
 ∀ (pins:List (Addr × Obj)) (s:Shared) (σ:St) (H:Hp) (x:V) (v vl vu:Value) (lo hi:Option Int) (sl:Addr) (Q:VK),Inv X pins σ H s→RelV x v→s.heap.IsSliceOf sl vl vu .none→IsPart vl lo→IsPart vu hi→r x lo hi H Q →
  ∃ T id,typeLookup (.type T) "__getitem__"=pure (some (.builtin id))∧s.TypeIs v T∧wpAny (model X.prog X.w) X.A (getItem v (.ref sl)) (EP X pins σ Q) X.xe s
theorem SlR.or {r r':V→Option Int→Option Int→Hp→VK→Prop} (h:SlR X r) (h':SlR X r'):SlR X (fun x lo hi H Q=>r x lo hi H Q ∨ r' x lo hi H Q):=by
 intro pins s σ H x v vl vu lo hi sl Q I rx hs pl pu q
 rcases q with q | q
 ·exact h pins s σ H x v vl vu lo hi sl Q I rx hs pl pu q
 ·exact h' pins s σ H x v vl vu lo hi sl Q I rx hs pl pu q
noncomputable def tSl (r:V→Option Int→Option Int→Hp→VK→Prop) (te:TE) (tl th:TO):TE:=fun σ H Q=>te σ H fun x H1=>tl σ H1 fun l H2=>th σ H2 fun u H3=>r x l u H3 Q
theorem pe_slice {r:V→Option Int→Option Int→Hp→VK→Prop} (hr:SlR X r) (he:PE X e te) (hl:PO X lo tl) (hu:PO X hi th):PE X (.Subscript e (.Slice lo hi none p2) pos) (tSl r te tl th):=by
 intro pins s σ H Q I h
 refine Subscript_ (thn (he pins s σ H _ I h) fun v s1 ⟨x,H1,I1,r1,q1⟩=>?_)
 refine wpAny_Slice (thn (hl pins s1 σ H1 _ I1 q1) fun vl s2 ⟨l,H2,I2,pl,q2⟩=>thn (hu pins s2 σ H2 _ I2 q2) fun vu s3 ⟨u,H3,I3,pu,q3⟩=>?_)
 rw [evalPart_none]
 refine wpAny_pure ?_
 have I4:Inv X pins σ H3 { s3 with heap:=s3.heap.push { cls:=.type "slice",data:=.fields #[vl,vu,.none] } }:=I3.kept (t':=s3.toks) fun b ob q=>Heap.get?_push_of_some _ q
 obtain ⟨T,id,hT,ht,hg⟩:=hr pins { s3 with heap:=s3.heap.push { cls:=.type "slice",data:=.fields #[vl,vu,.none] } } σ H3 x v vl vu l u s3.heap.objs.size Q I4 r1 (Heap.IsSliceOf.new ..) pl pu q3
 show wpAny (model X.prog X.w) X.A (subscriptTail e (.Slice lo hi none p2) v (.ref s3.heap.objs.size)) (EP X pins σ Q) X.xe { s3 with heap:=s3.heap.push { cls:=.type "slice",data:=.fields #[vl,vu,.none] } }
 exact tail_any (ops:=[.ref s3.heap.objs.size,v]) ht hT hg (by with_unfolding_all rfl)
noncomputable def cutV (xs:List V) (lo hi:Option Int):List V:=(xs.drop (HT.sIx xs.length 0 lo)).take (HT.sIx xs.length xs.length hi - HT.sIx xs.length 0 lo)
theorem cutV_length (xs:List V) (lo hi:Option Int):(cutV xs lo hi).length≤xs.length:=by
 unfold cutV
 rw [List.length_take,List.length_drop]
 omega
noncomputable def rSlT (K:PySem.W.Frag):V→Option Int→Option Int→Hp→VK→Prop:=fun x lo hi H Q=>∃ a xs,x=.ref a∧SqT K H a xs ∧
 ¬ (HT.sIx xs.length 0 lo=0∧HT.sIx xs.length xs.length hi=xs.length)∧∀ p,H p=none→Q (.ref p) (upd H p (.tup (cutV xs lo hi)))
theorem sl_tup:SlR X (rSlT X.K):=by
 intro pins s σ H x v vl vu lo hi sl Q I rx hs pl pu h
 obtain ⟨a,xs,rfl,hx,hw,q⟩:=h
 cases rx
 obtain ⟨its,r,ht,hz⟩:=I.tuple hx
 have hlen:its.toArray.size=xs.length:=by rw [List.size_toArray];exact r.length.symm
 refine ⟨"tuple",_,PyProof.Rows.slot_tuple_getitem.lookup,ht.typeIs,?_⟩
 refine HT.getItem_tuple_cut ht hs pl pu (by rw [hlen];exact hw) ?_ (by rw [hlen];exact hz)
 rw [hlen]
 refine ⟨.ref s.heap.objs.size,_,I.laid (t':=s.toks) (o:=.tup (cutV xs lo hi)) (fun b ob q=>Heap.get?_push_of_some _ q) (Nat.le_refl _) ?_,rfl,q _ (I.hok.fresh (Nat.le_refl _))⟩
 exact ⟨Nat.le_trans (cutV_length xs lo hi) hz,_,(r.drop (HT.sIx xs.length 0 lo)).take (HT.sIx xs.length xs.length hi - HT.sIx xs.length 0 lo),IsTupD.new _ _⟩
noncomputable def rCatT (K:PySem.W.Frag):R2:=fun x y H Q=>∃ a b xs ys,x=.ref a∧y=.ref b∧SqT K H a xs∧SqT K H b ys∧xs ≠ []∧xs.length + ys.length≤sizeLine ∧
 (ys=[]→Q (.ref a) H)∧(ys ≠ []→∀ p,H p=none→Q (.ref p) (upd H p (.tup (xs++ys))))
theorem Vals.nil_iff {xs:List V} {us:List Value} (r:Vals xs us):us=[] ↔ xs=[]:=by
 cases r with
 | nil=>simp
 | cons _ _=>simp
theorem op_catT:OpR X (binaryOp .Add) (rCatT X.K):=by
 intro pins s σ H x y v u Q I rx ry h
 obtain ⟨a,b,xs,ys,rfl,rfl,ha,hb,hx,hz,q1,q2⟩:=h
 cases rx
 cases ry
 obtain ⟨its,r1,p1,_⟩:=I.tuple ha
 obtain ⟨its2,r2,p2,_⟩:=I.tuple hb
 refine HT.cat_tup p1 p2 (fun z=>hx (r1.nil_iff.mp z)) (fun z=>⟨.ref a,H,I,rfl,q1 (r2.nil_iff.mp z)⟩) (fun z=>?_) (by rw [← r1.length,← r2.length];exact hz)
 refine ⟨.ref s.heap.objs.size,_,I.laid (t':=s.toks) (o:=.tup (xs++ys)) (fun b ob q=>Heap.get?_push_of_some _ q) (Nat.le_refl _) ?_,rfl,q2 (fun w=>z (r2.nil_iff.mpr w)) _ (I.hok.fresh (Nat.le_refl _))⟩
 exact ⟨by rw [List.length_append];exact hz,_,r1.append r2,IsTupD.new _ _⟩
end
end L2
namespace L2
open PySem PySem.Spec PyProof.Rows
noncomputable def ixN (n:Nat) (i:Int):Option Nat:=if 0≤i then (if i < n then some i.toNat else none) else if -(n:Int)≤i then some (i + n).toNat else none
noncomputable def atI {α:Type} (xs:List α) (i:Int):Option α:=(ixN xs.length i).bind fun j=>xs[j]?
theorem ixN_seq {n:Nat} {i:Int} {j:Nat} (h:ixN n i=some j):seqIndex? i n=some j∧j < n∧-(n:Int)≤i∧i < n:=by
 unfold ixN at h
 by_cases h0:0≤i
 ·rw [if_pos h0] at h
  by_cases h1:i < n
  ·rw [if_pos h1] at h
   have e:i.toNat=j:=Option.some.inj h
   exact ⟨by rw [seqIndex_of h0 h1,e],by omega,by omega,h1⟩
  ·rw [if_neg h1] at h;cases h
 ·rw [if_neg h0] at h
  by_cases h1:-(n:Int)≤i
  ·rw [if_pos h1] at h
   have e:(i + n).toNat=j:=Option.some.inj h
   exact ⟨by rw [seqIndex_neg (by omega) h1,e],by omega,h1,by omega⟩
  ·rw [if_neg h1] at h;cases h
theorem atI_get {α:Type} {xs:List α} {i:Int} {v:α} (h:atI xs i=some v):∃ j,seqIndex? i xs.length=some j∧xs[j]?=some v∧j < xs.length∧-(xs.length:Int)≤i∧i < xs.length:=by
 unfold atI at h
 cases e:ixN xs.length i with
 | none=>rw [e] at h;cases h
 | some j=>
  rw [e] at h
  obtain ⟨h1,h2,h3,h4⟩:=ixN_seq e
  exact ⟨j,h1,h,h2,h3,h4⟩
noncomputable def PlainIx (b:Expr):Prop:=∀ o i,subscripted b false o i=operate [o,i] (getItem o i)
noncomputable def IxR (X:Cx) (r:R2):Prop:=
 ∀ (value slice:Expr) (pins:List (Addr × Obj)) (s:Shared) (σ:St) (H:Hp) (x y:V) (v u:Value) (Q:VK),Inv X pins σ H s→RelV x v→RelV y u→r x y H Q →
  subscripted slice false v u=operate [v,u] (getItem v u)→wpAny (model X.prog X.w) X.A (subscriptTail value slice v u) (EP X pins σ Q) X.xe s
noncomputable def MtR (X:Cx) (id:String) (r:V→List V→Hp→VK→Prop):Prop:=
 ∀ (pins:List (Addr × Obj)) (s:Shared) (σ:St) (H:Hp) (x:V) (xs:List V) (v:Value) (us:List Value) (Q:VK),Inv X pins σ H s→RelV x v→Vals xs us→r x xs H Q →
  wpAny (model X.prog X.w) X.A (call (.builtin id) (v::us)) (EP X pins σ Q) X.xe s
section
variable {X:Cx} {a b:Expr} {ta tb:TE} {pos:Pos}
theorem IxR.or {r r':R2} (h:IxR X r) (h':IxR X r'):IxR X (fun x y H Q=>r x y H Q ∨ r' x y H Q):=by
 intro value slice pins s σ H x y v u Q I rx ry q hs
 rcases q with q | q
 ·exact h value slice pins s σ H x y v u Q I rx ry q hs
 ·exact h' value slice pins s σ H x y v u Q I rx ry q hs
theorem pe_ix {r:R2} (hr:IxR X r) (ha:PE X a ta) (hb:PE X b tb) (hs:PlainIx b):PE X (.Subscript a b pos) (tOp r ta tb):=by
 intro pins s σ H Q I h
 exact Subscript_ (binT ha hb I h fun v u s2 x y H2 I2 rx ry q=>hr a b pins s2 σ H2 x y v u Q I2 rx ry q (hs _ _))
noncomputable def rIxL (K:PySem.W.Frag):R2:=fun x y H Q=>∃ p xs i v,x=.ref p∧y=.int i∧SqL K H p xs∧atI xs i=some v∧Q v H
noncomputable def rIxT (K:PySem.W.Frag):R2:=fun x y H Q=>∃ p xs i v,x=.ref p∧y=.int i∧SqT K H p xs∧atI xs i=some v∧Q v H
noncomputable def rIxS:R2:=fun x y H Q=>∃ z i c,x=.str z∧y=.int i∧z.length≤sizeLine∧atI z.cps.toList i=some c∧Q (.str ⟨#[c]⟩) H
theorem ix_list:IxR X (rIxL X.K):=by
 intro value slice pins s σ H x y v u Q I rx ry h hs
 obtain ⟨p,xs,i,z,rfl,rfl,hq,he,q⟩:=h
 cases rx
 obtain ⟨t,rfl⟩:=ry
 obtain ⟨its,r,pl,hz⟩:=I.list hq
 obtain ⟨j,h1,h2,h3,h4,h5⟩:=atI_get he
 obtain ⟨w,ew,rw'⟩:=r.get h2
 have hl:=r.length
 have hn:=line63
 have fin:EP X pins σ Q w s:=⟨z,H,I,rw',q⟩
 by_cases h0:0≤i
 ·have hj:i.toNat=j:=by
   rw [seqIndex_of h0 h5] at h1
   exact Option.some.inj h1
  exact item_listR pl.isList h0 (by omega) (by rw [hj];simpa using ew) fin hs
 ·have hj:(i + (its.toArray.size:Int)).toNat=j:=by
   rw [seqIndex_neg (by omega) h4] at h1
   rw [List.size_toArray,← hl]
   exact Option.some.inj h1
  exact subscriptTail_builtinR (x:=w) pl.isList.typeIs slot_list_getitem.lookup
   (wpAny_getItem_list_neg (Q:=fun r s'=>r=w∧EP X pins σ Q r s') pl.isList (by omega) (by rw [List.size_toArray] <;> omega) (by omega) (by rw [hj];simpa using ew) ⟨rfl,fin⟩) hs
theorem ix_tup:IxR X (rIxT X.K):=by
 intro value slice pins s σ H x y v u Q I rx ry h hs
 obtain ⟨p,xs,i,z,rfl,rfl,hq,he,q⟩:=h
 cases rx
 obtain ⟨t,rfl⟩:=ry
 obtain ⟨its,r,pl,hz⟩:=I.tuple hq
 obtain ⟨j,h1,h2,h3,h4,h5⟩:=atI_get he
 obtain ⟨w,ew,rw'⟩:=r.get h2
 have hl:=r.length
 have hn:=line63
 have fin:EP X pins σ Q w s:=⟨z,H,I,rw',q⟩
 exact subscriptTail_builtinR (x:=w) pl.typeIs slot_tuple_getitem.lookup
  (getItem_tuple (j:=j) (Q:=fun r s'=>r=w∧EP X pins σ Q r s') pl (by omega) (by omega) (by rw [List.size_toArray,← hl];exact h1) (by simpa using ew) ⟨rfl,fin⟩) hs
theorem ix_str:IxR X rIxS:=by
 intro value slice pins s σ H x y v u Q I rx ry h hs
 obtain ⟨z,i,c,rfl,rfl,hz,he,q⟩:=h
 obtain ⟨t,rfl⟩:=rx
 obtain ⟨t',rfl⟩:=ry
 obtain ⟨j,h1,h2,h3,h4,h5⟩:=atI_get he
 have hl:z.cps.toList.length=z.length:=by simp [Str.length]
 rw [hl] at h1 h4 h5
 have hn:=line63
 exact tail_any (typeIs_str s z t) slot_str_getitem.lookup (getItem_str (c:=c) (by
  have e1:decide (i < -(2 ^ 63:Int))=false:=decide_eq_false (by omega)
  have e2:decide (i ≥ 2 ^ 63)=false:=decide_eq_false (by omega)
  rw [e1,e2,Bool.or_false]) (by rw [h1];simpa using h2) ⟨.str ⟨#[c]⟩,H,I.tok _,⟨_,rfl⟩,q⟩) hs
theorem mapSeq_set (its:List Value) (n j:Nat) (u:Value):Obj.mapSeq (·.setIfInBounds j u) { cls:=.type "list",data:=.seq its.toArray n }={ cls:=.type "list",data:=.seq (its.set j u).toArray n }:=by
 simp [Obj.mapSeq]
theorem Inv.lst {pins:List (Addr × Obj)} {σ:St} {H:Hp} {s:Shared} {p:Addr} {xs:List V} (I:Inv X pins σ H s) (h:H p=some (.lst xs)) :
  ∃ (its:List Value) (n:Nat),Vals xs its∧s.heap.get? p=some { cls:=.type "list",data:=.seq its.toArray n }∧xs.length≤sizeLine:=by
 obtain ⟨z,its,n,r,e⟩:=I.hok p _ h
 exact ⟨its,n,r,e,z⟩
theorem Inv.lstUpd {pins:List (Addr × Obj)} {σ:St} {H:Hp} {s:Shared} {p:Addr} {xs ys:List V} {its its':List Value} {n n':Nat} {f:Obj→Obj} (I:Inv X pins σ H s) (h:H p=some (.lst xs))
  (ho:s.heap.get? p=some { cls:=.type "list",data:=.seq its.toArray n }) (hf:f { cls:=.type "list",data:=.seq its.toArray n }={ cls:=.type "list",data:=.seq its'.toArray n' }) (r:Vals ys its') (hz:ys.length≤sizeLine) (t:Nat) :
  Inv X pins σ (upd H p (.lst ys)) { s with heap:=s.heap.update p f,toks:=t }:=by
 have e:(s.heap.update p f).get? p=some { cls:=.type "list",data:=.seq its'.toArray n' }:=by
  rw [Heap.get?_update_self f ho (by rw [hf] <;> rfl),hf]
 refine I.write (x:=p) (e:=p) (by rw [h];trivial) (.inl rfl) (fun b u hb q=>(Heap.get?_update_other _ _ (Ne.symm hb)).trans q) ⟨_,e⟩ ?_
 exact ⟨hz,its',n',r,e⟩
noncomputable def rSetL:V→V→V→Hp→(Hp→Prop)→Prop:=fun o i v H Q=>∃ p xs k j,o=.ref p∧i=.int k∧H p=some (.lst xs)∧ixN xs.length k=some j∧Q (upd H p (.lst (xs.set j v)))
theorem set_list:PSet X rSetL:=by
 intro pins s σ H o i v ov iv u Q I ro ri rv h
 obtain ⟨p,xs,k,j,rfl,rfl,hp,hj,q⟩:=h
 cases ro
 obtain ⟨t,rfl⟩:=ri
 obtain ⟨its,n,r,ho,hz⟩:=I.lst hp
 obtain ⟨h1,h2,h3,h4⟩:=ixN_seq hj
 have hl:=r.length
 have hn:=line63
 have I':Inv X pins σ (upd H p (.lst (xs.set j v))) { s with heap:=s.heap.update p (Obj.mapSeq (·.setIfInBounds j u)) }:=
  I.lstUpd hp ho (mapSeq_set its n j u) (r.set rv j) (by rw [List.length_set];exact hz) s.toks
 by_cases h0:0≤k
 ·have hk:k.toNat=j:=by
   rw [seqIndex_of h0 h4] at h1
   exact Option.some.inj h1
  exact PySem.W.ki_setAt ho h0 (by omega) (by rw [List.size_toArray,← hl];exact h4) (by rw [hk];exact ⟨_,I',q⟩)
 ·have hk:(k + (its.toArray.size:Int)).toNat=j:=by
   rw [seqIndex_neg (by omega) h3] at h1
   rw [List.size_toArray,← hl]
   exact Option.some.inj h1
  exact PySem.W.ki_setBack ho (by omega) (by rw [List.size_toArray,← hl];exact h3) (by omega) (by rw [hk];exact ⟨_,I',q⟩)
theorem slice_bounds (lo hi:Option Int) (n:Nat):(sliceBounds lo hi none n).1=((HT.sIx n 0 lo:Nat):Int)∧(sliceBounds lo hi none n).2.1=((HT.sIx n n hi:Nat):Int)∧(sliceBounds lo hi none n).2.2=1:=by
 refine ⟨?_,?_,rfl⟩
 ·cases lo with
  | none=>simp [sliceBounds,HT.sIx]
  | some i=>
   simp only [sliceBounds,HT.sIx,Option.getD_none,show (1:Int) > 0 by decide,if_true]
   by_cases h:i < 0
   ·simp only [h,if_true] <;> omega
   ·simp only [h,if_false] <;> omega
 ·cases hi with
  | none=>simp [sliceBounds,HT.sIx]
  | some i=>
   simp only [sliceBounds,HT.sIx,Option.getD_none,show (1:Int) > 0 by decide,if_true]
   by_cases h:i < 0
   ·simp only [h,if_true] <;> omega
   ·simp only [h,if_false] <;> omega
theorem slicePick_cut (its:List Value) (lo hi:Option Int):slicePick its.toArray lo hi none=((its.drop (HT.sIx its.length 0 lo)).take (HT.sIx its.length its.length hi - HT.sIx its.length 0 lo)).toArray:=by
 obtain ⟨h1,h2,h3⟩:=slice_bounds lo hi its.toArray.size
 unfold slicePick
 rw [h1,h2,h3]
 simp only [sliceRange_one,pick_run,List.size_toArray] <;> rfl
noncomputable def rSlL (K:PySem.W.Frag):V→Option Int→Option Int→Hp→VK→Prop:=fun x lo hi H Q=>∃ a xs,x=.ref a∧SqL K H a xs∧∀ p,H p=none→Q (.ref p) (upd H p (.lst (cutV xs lo hi)))
theorem sl_list:SlR X (rSlL X.K):=by
 intro pins s σ H x v vl vu lo hi sl Q I rx hs pl pu h
 obtain ⟨a,xs,rfl,hx,q⟩:=h
 cases rx
 obtain ⟨its,r,ht,hz⟩:=I.list hx
 have hlen:=r.length
 refine ⟨"list",_,slot_list_getitem.lookup,ht.isList.typeIs,?_⟩
 refine wpAny_getItem_list_slice ht.isList hs pl pu .none (by simp) ?_ (by rw [List.size_toArray] <;> omega)
 rw [slicePick_cut,← hlen]
 refine ⟨.ref s.heap.objs.size,_,I.laid (t':=s.toks) (o:=.lst (cutV xs lo hi)) (fun b ob q=>Heap.get?_push_of_some _ q) (Nat.le_refl _) ?_,rfl,q _ (I.hok.fresh (Nat.le_refl _))⟩
 exact ⟨Nat.le_trans (cutV_length xs lo hi) hz,_,0,(r.drop (HT.sIx xs.length 0 lo)).take (HT.sIx xs.length xs.length hi - HT.sIx xs.length 0 lo),Heap.get?_push_size _ rfl⟩
theorem call_len_seq:CallR X (.builtin "len") (fun xs H Q=>∃ p ys,xs=[.ref p]∧(SqL X.K H p ys ∨ SqT X.K H p ys)∧Q (.int ys.length) H):=by
 intro pins s σ H xs us Q I r h
 obtain ⟨p,ys,rfl,hq,q⟩:=h
 obtain ⟨u,rfl,rx⟩:=vals1 r
 cases rx
 have hn:=line63
 rcases hq with hq | hq
 ·obtain ⟨its,r',pl,hz⟩:=I.list hq
  have hlen:=r'.length
  exact Calls.call_len_list pl.isList (by simp only [List.size_toArray] <;> omega) ⟨.int ys.length,H,I.tok _,⟨s.toks + 1,by rw [List.size_toArray,hlen]⟩,q⟩
 ·obtain ⟨its,r',pl,hz⟩:=I.tuple hq
  have hlen:=r'.length
  exact len_tuple pl (by simp only [List.size_toArray] <;> omega) ⟨.int ys.length,H,I.tok _,⟨s.toks + 1,by rw [List.size_toArray,hlen]⟩,q⟩
theorem call_list_of:CallR X (.type "list") (fun xs H Q=>∃ p ys,xs=[.ref p]∧(SqL X.K H p ys ∨ SqT X.K H p ys)∧∀ l,H l=none→Q (.ref l) (upd H l (.lst ys))):=by
 intro pins s σ H xs us Q I r h
 obtain ⟨p,ys,rfl,hq,q⟩:=h
 obtain ⟨u,rfl,rx⟩:=vals1 r
 cases rx
 have fin:∀ (its:List Value),Vals ys its→ys.length≤sizeLine→∀ (h':Heap) (c':Nat),(∀ b o',s.heap.get? b=some o'→h'.get? b=some o') →
   h'.get? s.heap.objs.size=some { cls:=.type "list",dict:=none,data:=.seq its.toArray c',slots:=#[] }→EP X pins σ Q (.ref s.heap.objs.size) { s with heap:=h' }:=fun its r' hz h' c' kp e=>
  ⟨.ref s.heap.objs.size,_,I.laid (t':=s.toks) kp (Nat.le_refl _) (show ObjOk X.prog X.w _ h' _ (.lst ys) from ⟨hz,its,c',r',e⟩),rfl,q _ (I.hok.fresh (Nat.le_refl _))⟩
 rcases hq with hq | hq
 ·obtain ⟨its,r',pl,hz⟩:=I.list hq
  have hlen:=r'.length
  obtain ⟨o,ho,hc,n,hd⟩:=pl.isList
  exact call_list_seq p (.inl rfl) ho hc hd (fun h' c' kp e=>fin its r' hz h' c' kp e) (by simp only [List.size_toArray] <;> omega)
 ·obtain ⟨its,r',pl,hz⟩:=I.tuple hq
  have hlen:=r'.length
  obtain ⟨o,ho,hc,n,hd⟩:=pl
  exact call_list_seq p (.inr rfl) ho hc hd (fun h' c' kp e=>fin its r' hz h' c' kp e) (by simp only [List.size_toArray] <;> omega)
theorem call_tuple_of:CallR X (.type "tuple") (fun xs H Q=>∃ p ys,xs=[.ref p]∧((SqL X.K H p ys∧∀ l,H l=none→Q (.ref l) (upd H l (.tup ys))) ∨ (SqT X.K H p ys∧Q (.ref p) H))):=by
 intro pins s σ H xs us Q I r h
 obtain ⟨p,ys,rfl,h⟩:=h
 obtain ⟨u,rfl,rx⟩:=vals1 r
 cases rx
 rcases h with ⟨hq,q⟩ | ⟨hq,q⟩
 ·obtain ⟨its,r',pl,hz⟩:=I.list hq
  have hlen:=r'.length
  refine call_tuple_list pl.isList (fun h' kp=>?_) (by simp only [List.size_toArray] <;> omega)
  have I1:Inv X pins σ H { s with heap:=h' }:=I.kept (t':=s.toks) kp
  have I2:Inv X pins σ (upd H h'.objs.size (.tup ys)) { s with heap:=h'.push { cls:=.type "tuple",data:=.seq its.toArray } }:=
   I1.laid (t':=s.toks) (fun b o e=>Heap.get?_push_of_some _ e) (Nat.le_refl _) (show ObjOk X.prog X.w _ _ _ (.tup ys) from ⟨hz,its,r',IsTupD.new _ _⟩)
  exact ⟨.ref h'.objs.size,_,I2,rfl,q _ (I1.hok.fresh (Nat.le_refl _))⟩
 ·obtain ⟨its,r',pl,hz⟩:=I.tuple hq
  exact call_tuple_same pl ⟨.ref p,H,I,rfl,q⟩
noncomputable def tyV (K:PySem.W.Frag) (T:String) (x:V) (H:Hp):Prop:=match x with
 | .str _=>T="str"
 | .int _=>T="int"
 | .ref p=>(T="list"∧∃ xs,SqL K H p xs) ∨ (T="tuple"∧∃ o,K.lookup p=some o∧o.cls=.type "tuple"∧o.dict=none) ∨
   (T="dict"∧((∃ kvs,H p=some (.dK kvs)) ∨ ∃ kvs,H p=some (.dT kvs))) ∨ (T="set"∧∃ S n,H p=some (.set S n))
 | _=>False
theorem tyV_is {pins:List (Addr × Obj)} {σ:St} {H:Hp} {s:Shared} {T:String} {x:V} {v:Value} (I:Inv X pins σ H s) (r:RelV x v) (ty:tyV X.K T x H) :
  s.TypeIs v T∧∀ a,v=.ref a→∃ ob,s.heap.get? a=some ob∧ob.dict=none:=by
 cases x with
 | str z=>
  obtain ⟨t,rfl⟩:=r
  cases (show T="str" from ty)
  exact ⟨typeIs_str s z t,fun _ e=>nomatch e⟩
 | int i=>
  obtain ⟨t,rfl⟩:=r
  cases (show T="int" from ty)
  exact ⟨typeIs_int s i t,fun _ e=>nomatch e⟩
 | ref p=>
  cases r
  rcases ty with ⟨rfl,xs,hq⟩ | ⟨rfl,o,hk,hc,hd⟩ | ⟨rfl,hk⟩ | ⟨rfl,S,n,hk⟩
  ·obtain ⟨its,_,pl,_⟩:=I.list hq
   refine ⟨pl.isList.typeIs,fun a e=>?_⟩
   cases e
   obtain ⟨o,n,e,c,hd,_⟩:=pl
   exact ⟨o,e,hd⟩
  ·refine ⟨⟨o,I.kIn p o hk,hc⟩,fun a e=>?_⟩
   cases e
   exact ⟨o,I.kIn _ o hk,hd⟩
  ·have z:∃ o,s.heap.get? p=some o∧o.ExactDict:=by
    rcases hk with ⟨kvs,hk⟩ | ⟨kvs,hk⟩
    ·obtain ⟨_,_,_,_,o,_,_,e,ex,_⟩:=I.hok p _ hk
     exact ⟨o,e,ex⟩
    ·obtain ⟨_,_,_,_,o,_,_,e,ex,_⟩:=I.hok p _ hk
     exact ⟨o,e,ex⟩
   obtain ⟨o,e,ex⟩:=z
   refine ⟨⟨o,e,ex.1⟩,fun a e2=>?_⟩
   cases e2
   exact ⟨o,e,ex.2.1⟩
  ·obtain ⟨o,_,_,_,e,ex,_⟩:=I.hok p _ hk
   refine ⟨⟨o,e,ex.1⟩,fun a e2=>?_⟩
   cases e2
   exact ⟨o,e,ex.2.1⟩
 | _=>exact False.elim ty
noncomputable def tBM0 (K:PySem.W.Frag) (T:String) (r:V→List V→Hp→VK→Prop) (to:TE):TE:=fun σ H Q=>to σ H fun x H1=>tyV K T x H1∧r x [] H1 Q
noncomputable def tBM (K:PySem.W.Frag) (T:String) (r:V→List V→Hp→VK→Prop) (to:TE) (t:TA):TE:=fun σ H Q=>to σ H fun x H1=>tyV K T x H1∧t σ H1 fun xs H2=>r x xs H2 Q
variable {o e:Expr} {es:List Expr} {to:TE} {t:TA} {name:Str} {apos cpos:Pos} {T id:String} {r:V→List V→Hp→VK→Prop}
theorem pe_bm0 (pa:PlainAttrs T) (slot:Slot T name id) (hty:typeOf (.builtin id)=pure (.type "method_descriptor")) (hm:MtR X id r) (ho:PE X o to)
  (hbase:attributeBase o name X.env (eval o X.env)=eval o X.env:=by rfl) (hline:(apos.endLine == cpos.line)=true:=by rfl):PE X (.Call (.Attribute o name apos) [] [] cpos) (tBM0 X.K T r to):=by
 intro pins s σ H Q I h
 refine wpAny_Call_method0_late hbase hline (thn (ho pins s σ H _ I h) fun v s1 ⟨x,H1,I1,r1,ty,q1⟩=>?_)
 obtain ⟨h1,h2⟩:=tyV_is I1 r1 ty
 exact ⟨T,id,pa,slot,hty,h1,h2,Calls.callWith_builtin rfl (PySem.evalArgs_none (hm pins s1 σ H1 x [] v [] Q I1 r1 .nil q1))⟩
theorem pe_bm (pa:PlainAttrs T) (slot:Slot T name id) (hty:typeOf (.builtin id)=pure (.type "method_descriptor")) (hm:MtR X id r) (ho:PE X o to) (ha:PA X (e::es) t)
  (hbase:attributeBase o name X.env (eval o X.env)=eval o X.env:=by rfl)
  (hfew:((backTo cpos (starEach (e::es) X.env)).all (fun x=>!x.1) && (backToKw cpos (keywordEach [] X.env)).all (fun x=>x.1.isSome)
   && decide ((e::es).length + ([]:List Keyword).length + (if ([]:List Keyword).isEmpty then 0 else 1) < 30))=true:=by rfl)
  (hline:(apos.endLine == cpos.line)=true:=by rfl) (hs:starEach (e::es) X.env=(false,eval e X.env)::starEach es X.env:=by rfl) (hplain:(backTo cpos (starEach es X.env)).any (·.1)=false:=by rfl) :
  PE X (.Call (.Attribute o name apos) (e::es) [] cpos) (tBM X.K T r to t):=by
 intro pins s σ H Q I h
 refine wpAny_Call_method_late hbase hfew hline rfl (thn (ho pins s σ H _ I h) fun v s1 ⟨x,H1,I1,r1,ty,q1⟩=>?_)
 obtain ⟨h1,h2⟩:=tyV_is I1 r1 ty
 refine ⟨T,id,pa,slot,hty,h1,h2,?_⟩
 have hA:=ha cpos pins s1 σ H1 _ I1 q1
 rw [hs] at hA ⊢
 refine Calls.callWith_builtin (by show (false || (backTo cpos (starEach es X.env)).any (·.1))=false;rw [hplain] <;> rfl) (Calls.evalArgs_plain ?_)
 exact thn hA fun us s2 ⟨vs,H2,I2,r2,q2⟩=>hm pins s2 σ H2 x vs v us Q I2 r1 r2 q2
end
end L2
namespace L2
open PySem PySem.Spec PyProof.Rows
noncomputable def MtM (X:Cx) (id:String) (r:V→List V→Hp→VK→Prop):Prop:=
 ∀ (pins:List (Addr × Obj)) (s:Shared) (σ:St) (H:Hp) (x:V) (xs:List V) (v:Value) (us:List Value) (Q:VK),Inv X pins σ H s→RelV x v→Vals xs us→r x xs H Q →
  wpAny (model X.prog X.w) X.A (call (.builtin id) (v::us)) (EP X pins σ Q) X.xe s
theorem Vals.one:∀ {x:V} {us:List Value},Vals [x] us→∃ u,us=[u]∧RelV x u
 | _,_,.cons r .nil=>⟨_,rfl,r⟩
theorem Vals.two {x y:V} {us:List Value} (h:Vals [x,y] us):∃ u v,us=[u,v]∧RelV x u∧RelV y v:=by
 cases h with | cons r t=>cases t with | cons q t=>cases t;exact ⟨_,_,rfl,r,q⟩
theorem Vals.zero:∀ {us:List Value},Vals [] us→us=[]
 | _,.nil=>rfl
theorem Vals.dropLast {xs:List V} {us:List Value} (h:Vals xs us):Vals xs.dropLast us.dropLast:=by
 induction h with
 | nil=>exact .nil
 | cons r t ih=>
  cases t with
  | nil=>exact .nil
  | cons q t'=>exact .cons r ih
theorem Vals.eraseIdx:∀ {xs:List V} {us:List Value} (i:Nat),Vals xs us→Vals (xs.eraseIdx i) (us.eraseIdx i)
 | _,_,_,.nil=>.nil
 | _,_,0,.cons _ t=>t
 | _,_,i + 1,.cons r t=>.cons r (Vals.eraseIdx i t)
theorem Vals.reverse {xs:List V} {us:List Value} (h:Vals xs us):Vals xs.reverse us.reverse:=by
 induction h with
 | nil=>exact .nil
 | cons r t ih=>rw [List.reverse_cons,List.reverse_cons];exact Vals.append ih (.cons r .nil)
theorem erase_last {α:Type} (l:List α):l.eraseIdx (l.length - 1)=l.dropLast:=by
 induction l with
 | nil=>rfl
 | cons a r ih=>
  cases r with
  | nil=>rfl
  | cons b r=>
   have e:(a::b::r).length - 1=((b::r).length - 1) + 1:=by
    have h1:(a::b::r).length=r.length + 2:=rfl
    have h2:(b::r).length=r.length + 1:=rfl
    omega
   rw [e,List.eraseIdx_cons_succ,ih]
   all_goals rfl
theorem len_erase {α:Type}:∀ (l:List α) (i:Nat),(l.eraseIdx i).length≤l.length
 | [],_=>Nat.le_refl _
 | _::_,0=>Nat.le_succ _
 | _::r,i + 1=>Nat.succ_le_succ (len_erase r i)
section
variable {X:Cx} {pins:List (Addr × Obj)} {σ:St} {H:Hp} {s:Shared} {l b:Addr} {xs ys zs:List V}
theorem Inv.lset {its its':List Value} {n:Nat} {f:Array Value→Array Value} {t':Nat} (I:Inv X pins σ H s) (hH:H l=some (.lst xs))
  (e:s.heap.get? l=some { cls:=.type "list",data:=.seq its.toArray n }) (hf:f its.toArray=its'.toArray) (hv:Vals ys its') (hz:ys.length≤sizeLine) :
  Inv X pins σ (upd H l (.lst ys)) { s with heap:=s.heap.update l (Obj.mapSeq f),toks:=t' }:=by
 have q:=PySem.IsL.update e f
 rw [hf] at q
 refine I.write (x:=l) (e:=l) (by rw [hH];exact trivial) (.inl rfl) (fun b' u hb hu=>(Heap.get?_update_other s.heap (Obj.mapSeq f) (Ne.symm hb)).trans hu) ⟨_,q⟩ ?_
 exact ⟨hz,its',_,hv,q⟩
theorem Inv.lnew {its:List Value} {t':Nat} (I:Inv X pins σ H s) (hv:Vals ys its) (hz:ys.length≤sizeLine) :
  Inv X pins σ (upd H s.heap.objs.size (.lst ys)) { s with heap:=s.heap.push { cls:=.type "list",data:=.seq its.toArray },toks:=t' }:=
 I.laid (fun _ _ q=>Heap.get?_push_of_some _ q) (Nat.le_refl _) ⟨hz,its,0,hv,Heap.get?_push_size _ rfl⟩
theorem Inv.fresh (I:Inv X pins σ H s):H s.heap.objs.size=none:=I.hok.fresh (Nat.le_refl _)
theorem Inv.lstM (I:Inv X pins σ H s) (hH:H l=some (.lst xs)):xs.length≤sizeLine∧∃ (its:List Value) (n:Nat),Vals xs its∧xs.length=its.length∧s.heap.get? l=some { cls:=.type "list",data:=.seq its.toArray n }:=by
 obtain ⟨z,its,n,r,e⟩:=I.hok l _ hH
 exact ⟨z,its,n,r,r.length,e⟩
theorem notLongL {n:Nat} (h:n≤sizeLine):Builtin.List.listTooLong n=false:=by
 unfold Builtin.List.listTooLong
 exact decide_eq_false (by omega)
end
section
variable {X:Cx}
noncomputable def rAppend:V→List V→Hp→VK→Prop:=fun x vs H Q=>∃ l xs y,x=.ref l∧vs=[y]∧H l=some (.lst xs)∧xs.length < sizeLine∧Q .non (upd H l (.lst (xs++[y])))
theorem mt_append:MtM X "list.append" rAppend:=by
 intro pins s σ H x vs v us Q I rx rv h
 obtain ⟨l,xs,y,rfl,rfl,hH,hz,q⟩:=h
 cases rx
 obtain ⟨u,rfl,ru⟩:=rv.one
 obtain ⟨z,its,n,r,hl,e⟩:=I.lstM hH
 refine call_meets F.slot_list_append ⟨_,e,rfl⟩ F.entry_list_append (F.args_list_append_2 _ _) (PySem.list_append l its.toArray n u (by rw [List.size_toArray];omega)) ⟨e,?_⟩
 refine ⟨.non,_,I.lset (its':=its++[u]) hH e (by simp) (r.append (.cons ru .nil)) ?_,rfl,q⟩
 rw [List.length_append,List.length_singleton]
 omega
noncomputable def rExtend:V→List V→Hp→VK→Prop:=fun x vs H Q=>∃ l b xs zs,x=.ref l∧vs=[.ref b]∧H l=some (.lst xs)∧H b=some (.lst zs)∧xs.length + zs.length≤sizeLine∧Q .non (upd H l (.lst (xs++zs)))
theorem mt_extend:MtM X "list.extend" rExtend:=by
 intro pins s σ H x vs v us Q I rx rv h
 obtain ⟨l,b,xs,zs,rfl,rfl,hH,hB,hz,q⟩:=h
 cases rx
 obtain ⟨u,rfl,ru⟩:=rv.one
 cases ru
 obtain ⟨z,its,n,r,hl,e⟩:=I.lstM hH
 obtain ⟨z2,its2,n2,r2,hl2,e2⟩:=I.lstM hB
 have hsz:its.toArray.size + its2.toArray.size≤sizeLine:=by rw [List.size_toArray,List.size_toArray];omega
 have hlong:¬ (!its.toArray.isEmpty && Builtin.List.listTooLong (its.toArray.size + its2.toArray.size))=true:=by
  rw [notLongL hsz,Bool.and_false]
  exact Bool.false_ne_true
 refine call_meets F.slot_list_extend ⟨_,e,rfl⟩ F.entry_list_extend (F.args_list_extend_2 _ _)
  (AutoSeq1.list_extend_list_list_0 l its.toArray n b its2.toArray n2 hlong (by rw [List.size_toArray];omega) (by omega)) ⟨e,e2,?_⟩
 refine ⟨.non,_,I.lset (its':=its++its2) hH e (by simp) (r.append r2) ?_,rfl,q⟩
 rw [List.length_append]
 omega
noncomputable def rPop:V→List V→Hp→VK→Prop:=fun x vs H Q=>∃ l xs y,x=.ref l∧vs=[]∧H l=some (.lst xs)∧xs[xs.length - 1]?=some y∧Q y (upd H l (.lst xs.dropLast))
theorem mt_pop:MtM X "list.pop" rPop:=by
 intro pins s σ H x vs v us Q I rx rv h
 obtain ⟨l,xs,y,rfl,rfl,hH,hy,q⟩:=h
 cases rx
 have hus:=rv.zero
 subst hus
 obtain ⟨z,its,n,r,hl,e⟩:=I.lstM hH
 obtain ⟨u,hu,ru⟩:=r.get hy
 have hy':its.toArray[its.toArray.size - 1]?=some u:=by
  show its.toArray[its.length - 1]?=some u
  rw [← Array.getElem?_toList,← hl]
  exact hu
 refine call_meets F.slot_list_pop ⟨_,e,rfl⟩ F.entry_list_pop (F.args_list_pop_1 _) (MeetsSeq.list_pop_last l its.toArray n u hy' (by rw [List.size_toArray];omega)) ⟨e,?_⟩
 refine ⟨y,_,I.lset (its':=its.dropLast) hH e ?_ r.dropLast ?_,ru,q⟩
 ·show its.toArray.eraseIdxIfInBounds (its.toArray.size - 1)=its.dropLast.toArray
  rw [List.size_toArray,List.eraseIdxIfInBounds_toArray,erase_last]
 ·rw [List.length_dropLast]
  omega
noncomputable def rPopAt:V→List V→Hp→VK→Prop:=fun x vs H Q=>∃ l xs i k y,x=.ref l∧vs=[.int i]∧H l=some (.lst xs)∧-(2 ^ 63)≤i∧i < 2 ^ 63∧seqIndex? i xs.length=some k∧xs[k]?=some y∧Q y (upd H l (.lst (xs.eraseIdx k)))
theorem mt_popAt:MtM X "list.pop" rPopAt:=by
 intro pins s σ H x vs v us Q I rx rv h
 obtain ⟨l,xs,i,k,y,rfl,rfl,hH,h1,h2,hk,hy,q⟩:=h
 cases rx
 obtain ⟨u,rfl,ru⟩:=rv.one
 obtain ⟨t,rfl⟩:=ru
 obtain ⟨z,its,n,r,hl,e⟩:=I.lstM hH
 obtain ⟨w,hw,rw'⟩:=r.get hy
 refine call_meets F.slot_list_pop ⟨_,e,rfl⟩ F.entry_list_pop (F.args_list_pop_2 _ _)
  (MeetsSeq.list_pop_at l its.toArray n i t k w (fitsIndex_both h1 h2) (by rw [List.size_toArray,← hl];exact hk) (by rw [← Array.getElem?_toList];exact hw) (by rw [List.size_toArray];omega)) ⟨e,?_⟩
 refine ⟨y,_,I.lset (its':=its.eraseIdx k) hH e ?_ (r.eraseIdx k) ?_,rw',q⟩
 ·show its.toArray.eraseIdxIfInBounds k=(its.eraseIdx k).toArray
  rw [List.eraseIdxIfInBounds_toArray]
 ·have:=len_erase xs k
  omega
noncomputable def rCat:R2:=fun x y H Q=>∃ l b xs zs,x=.ref l∧y=.ref b∧H l=some (.lst xs)∧H b=some (.lst zs)∧xs.length + zs.length≤sizeLine∧∀ p,H p=none→Q (.ref p) (upd H p (.lst (xs++zs)))
theorem op_cat:OpR X (binaryOp .Add) rCat:=by
 intro pins s σ H x y v u Q I rx ry h
 obtain ⟨l,b,xs,zs,rfl,rfl,hH,hB,hz,q⟩:=h
 cases rx
 cases ry
 obtain ⟨z,its,n,r,hl,e⟩:=I.lstM hH
 obtain ⟨z2,its2,n2,r2,hl2,e2⟩:=I.lstM hB
 refine PySem.P.add_list e e2 ?_ (by rw [List.size_toArray,List.size_toArray];omega)
 have ea:its.toArray++its2.toArray=(its++its2).toArray:=by simp
 rw [ea]
 exact ⟨.ref _,_,I.lnew (t':=s.toks) (r.append r2) (by rw [List.length_append];omega),rfl,q _ I.fresh⟩
end
end L2
namespace L2
open PySem PySem.Spec PyProof.Rows
section
variable {κ:Type} [DecidableEq κ]
noncomputable def valV (kvs:List (κ × V)) (k:κ):Option V:=(kvs.find? fun kv=>decide (kv.1=k)).map (·.2)
noncomputable def putK (kvs:List (κ × V)) (k:κ) (v:V):List (κ × V):=
 if (kvs.any fun kv=>decide (kv.1=k))=true then kvs.map (fun kv=>if kv.1=k then (kv.1,v) else kv) else kvs++[(k,v)]
theorem valV_pos {p:κ × V} {r:List (κ × V)} {k:κ} (e:p.1=k):valV (p::r) k=some p.2:=by simp [valV,List.find?_cons,e]
theorem valV_neg {p:κ × V} {r:List (κ × V)} {k:κ} (e:¬ p.1=k):valV (p::r) k=valV r k:=by simp [valV,List.find?_cons,e]
theorem valV_any (k:κ):∀ kvs:List (κ × V),(kvs.any fun kv=>decide (kv.1=k))=(valV kvs k).isSome
 | []=>rfl
 | p::r=>by
  rw [List.any_cons]
  by_cases e:p.1=k
  ·simp only [valV_pos e,decide_eq_true e,Bool.true_or,Option.isSome_some]
  ·rw [valV_neg e,decide_eq_false e,Bool.false_or];exact valV_any k r
theorem length_putK (kvs:List (κ × V)) (k:κ) (v:V):(putK kvs k v).length≤kvs.length + 1:=by
 unfold putK
 split
 ·rw [List.length_map];omega
 ·rw [List.length_append,List.length_cons,List.length_nil];omega
theorem putK_new {kvs:List (κ × V)} {k:κ} (v:V) (h:valV kvs k=none):putK kvs k v=kvs++[(k,v)]:=by
 unfold putK
 rw [valV_any,h]
 exact if_neg (by decide)
theorem RelO.isSome_eq {o:Option V} {u:Option Value} (r:RelO o u):o.isSome=u.isSome:=by
 cases o with
 | none=>cases u with
  | none=>rfl
  | some _=>exact (show False from r).elim
 | some _=>cases u with
  | none=>exact (show False from r).elim
  | some _=>rfl
theorem KV.val {kvs:List (κ × V)} {vs:List (κ × Value)} (r:KV kvs vs) (k:κ):RelO (valV kvs k) (valueAt vs k):=by
 unfold KV at r
 induction r with
 | nil=>exact True.intro
 | @cons p q ps qs h t ih=>
  obtain ⟨h1,h2⟩:=h
  by_cases e:p.1=k
  ·have e':q.1=k:=h1.symm.trans e
   have b:valueAt (q::qs) k=some q.2:=by simp [valueAt,List.find?_cons,e']
   rw [valV_pos e,b];exact h2
  ·have e':¬ q.1=k:=fun z=>e (h1.trans z)
   have b:valueAt (q::qs) k=valueAt qs k:=by simp [valueAt,List.find?_cons,e']
   rw [valV_neg e,b];exact ih
theorem KV.any {kvs:List (κ × V)} {vs:List (κ × Value)} (r:KV kvs vs) (k:κ):(kvs.any fun kv=>decide (kv.1=k))=vs.any fun kv=>decide (kv.1=k):=by
 unfold KV at r
 induction r with
 | nil=>rfl
 | cons h t ih=>rw [List.any_cons,List.any_cons,ih,h.1]
theorem KV.repl {kvs:List (κ × V)} {vs:List (κ × Value)} (r:KV kvs vs) (k:κ) {y:V} {u:Value} (ry:RelV y u) :
  KV (kvs.map fun kv=>if kv.1=k then (kv.1,y) else kv) (vs.map fun kv=>if kv.1=k then (kv.1,u) else kv):=by
 unfold KV at r ⊢
 induction r with
 | nil=>exact .nil
 | @cons p q ps qs h t ih=>
  rw [List.map_cons,List.map_cons]
  refine .cons ?_ ih
  obtain ⟨h1,h2⟩:=h
  by_cases e:p.1=k
  ·rw [if_pos e,if_pos (h1.symm.trans e)];exact ⟨h1,ry⟩
  ·rw [if_neg e,if_neg (fun z=>e (h1.trans z))];exact ⟨h1,h2⟩
theorem KV.put {kvs:List (κ × V)} {vs:List (κ × Value)} (r:KV kvs vs) (k:κ) {y:V} {u:Value} (ry:RelV y u):KV (putK kvs k y) (stored vs k u):=by
 unfold putK stored
 rw [r.any k]
 by_cases e:(vs.any fun kv=>decide (kv.1=k))=true
 ·rw [if_pos e,if_pos e];exact r.repl k ry
 ·rw [if_neg e,if_neg e];exact Paired.snoc r ⟨rfl,ry⟩
end
theorem kV_is {P:Program} {w:World} {k:Key} {u:Value} (r:RelV (kV k) u):(mixKind P w).is k u=true:=by
 cases k with
 | inl i=>obtain ⟨t,e⟩:=(show ∃ t,u=Value.int i t from r);subst e;exact mixKind_int P w i t
 | inr x=>obtain ⟨t,e⟩:=(show ∃ t,u=Value.str x t from r);subst e;exact mixKind_str P w x t
theorem items_are {P:Program} {w:World}:∀ {ks:List Key} {us:List Value},Vals (ks.map kV) us→ItemsAre (mixKind P w) ks us
 | [],_,r=>by rw [List.map_nil] at r;cases r;exact .nil
 | k::ks,_,r=>by
  rw [List.map_cons] at r
  cases r with
  | cons h t=>exact .cons (kV_is h) (items_are t)
noncomputable abbrev KT (H:Hp):List (List Key × V)→List (List Key × Addr × Value)→Prop:=Paired fun p q=>p.1=q.1∧H q.2.1=some (.tup (p.1.map kV))∧RelV p.2 q.2.2
theorem KT.val {H:Hp} {kvs:List (List Key × V)} {xs:List (List Key × Addr × Value)} (r:KT H kvs xs) (k:List Key):RelO (valV kvs k) ((atKey xs k).map (·.2)):=by
 induction r with
 | nil=>exact True.intro
 | @cons p q ps qs h t ih=>
  obtain ⟨h1,_,h2⟩:=h
  by_cases e:p.1=k
  ·have e':q.1=k:=h1.symm.trans e
   have b:atKey (q::qs) k=some q.2:=by simp [atKey,List.find?_cons,e']
   rw [valV_pos e,b];exact h2
  ·have e':¬ q.1=k:=fun z=>e (h1.trans z)
   have b:atKey (q::qs) k=atKey qs k:=by simp [atKey,List.find?_cons,e']
   rw [valV_neg e,b];exact ih
section
variable {P:Program} {w:World} {H:Hp} {h:Heap} {a:Addr}
theorem rd_of {u:HO} (ok:HOk P w H h) (e:Rd H a u):ObjOk P w H h a u:=e.ok ok
theorem dk_rd {kvs:List (Key × V)} (ok:HOk P w H h) (e:Rd H a (.dK kvs)):kvs.length≤sizeLine∧(a == sysModules)=false∧∃ vs,KV kvs vs∧h.DictOf (mixKind P w) a vs:=
 show ObjOk P w H h a (.dK kvs) from rd_of ok e
theorem dk_of {kvs:List (Key × V)} (ok:HOk P w H h) (e:H a=some (.dK kvs)):kvs.length≤sizeLine∧(a == sysModules)=false∧∃ vs,KV kvs vs∧h.DictOf (mixKind P w) a vs:=dk_rd ok (.inl e)
theorem key_of {ks:List Key} (ok:HOk P w H h) (e:H a=some (.tup (ks.map kV))):(tupleKind (mixKind P w)).is h ks a:=by
 obtain ⟨_,its,r,o,h1,h2,_,n,h3⟩:=(show ObjOk P w H h a (.tup (ks.map kV)) from ok a _ e)
 exact ⟨o,its.toArray,n,h1,h2,h3,by simpa using items_are r⟩
theorem dt_rd {kvs:List (List Key × V)} (ok:HOk P w H h) (e:Rd H a (.dT kvs)):kvs.length≤sizeLine∧(a == sysModules)=false ∧
  ∃ xs,KT H kvs xs∧h.DictOfH (tupleKind (mixKind P w)) a xs:=by
 obtain ⟨z,y,xs,r,o,es,ep,h1,h2,h3,h4,h5⟩:=(show ObjOk P w H h a (.dT kvs) from rd_of ok e)
 refine ⟨z,y,xs,r,o,es,ep,h1,h2,h3,h4,fun x hx=>?_,h5⟩
 have all:∀ {l:List (List Key × V)} {m:List (List Key × Addr × Value)},KT H l m→∀ x ∈ m,(tupleKind (mixKind P w)).is h x.1 x.2.1:=by
  intro l m q
  induction q with
  | nil=>intro x hx;exact nomatch hx
  | @cons p q ps qs hq t ih=>
   intro x hx
   rcases List.mem_cons.mp hx with e | hx
   ·subst e
    exact key_of ok (by rw [← hq.1];exact hq.2.1)
   ·exact ih x hx
 exact all r x hx
end
noncomputable def DGet (H:Hp) (a:Addr) (y:V) (r:Option V):Prop:=
 (∃ kvs k,Rd H a (.dK kvs)∧y=kV k∧r=valV kvs k) ∨ ∃ kvs k b,Rd H a (.dT kvs)∧y=.ref b∧H b=some (.tup (k.map kV))∧r=valV kvs k
theorem DGet.k {H:Hp} {a:Addr} {kvs:List (Key × V)} {k:Key} (e:H a=some (.dK kvs)):DGet H a (kV k) (valV kvs k):=.inl ⟨kvs,k,.inl e,rfl,rfl⟩
section
variable {X:Cx} {pins:List (Addr × Obj)} {σ:St} {H:Hp} {s:Shared} {a:Addr} {y v:V} {u r:Value} {o:Option V} {A:Around} {E:Value→Shared→Prop}
theorem Inv.big (I:Inv X pins σ H s):sysModules < s.heap.objs.size:=by
 have h:mainGlobals < s.heap.objs.size:=(I.mod.glob.keeps I.bk).lt
 exact Nat.lt_trans (by decide) h
theorem d_getItem {Q:Value→Shared→Prop} (hu:A.units + 1 < cLine) (I:Inv X pins σ H s) (g:DGet H a y (some v)) (ry:RelV y u) (h:∀ w' s',Inv X pins σ H s'→RelV v w'→Q w' s') :
  wpAny (model X.prog X.w) A (getItem (.ref a) u) Q E s:=by
 rcases g with ⟨kvs,k,e,ey,l⟩ | ⟨kvs,k,b,e,ey,eb,l⟩
 ·subst ey
  obtain ⟨z,hd,vs,rel,dd⟩:=dk_rd I.hok e
  obtain ⟨w',hw,rw'⟩:=RelO.some_of (v:=v) (o:=valueAt vs k) (by rw [l];exact rel.val k)
  exact wpAny_getItem_of (kV_is ry) dd.mapOf hw (h w' _ (I.tok _) rw')
 ·subst ey
  cases (show u=Value.ref b from ry)
  obtain ⟨z,hd,xs,rel,dd⟩:=dt_rd I.hok e
  obtain ⟨w',hw,rw'⟩:=RelO.some_of (v:=v) (o:=(atKey xs k).map (·.2)) (by rw [l];exact rel.val k)
  obtain ⟨p,hp,hp2⟩:=Option.map_eq_some_iff.mp hw
  refine wpAny_getItem_heap (tupleKind_room_in1 hu) (key_of I.hok eb) dd hp ?_
  rw [hp2]
  exact h w' _ (I.tok _) rw'
theorem d_in {Q:Value→Shared→Prop} (hu:A.units + 1 < cLine) (I:Inv X pins σ H s) (g:DGet H a y o) (ry:RelV y u) (h:∀ s',Inv X pins σ H s'→Q (.bool o.isSome) s') :
  wpAny (model X.prog X.w) A (compareOp .In u (.ref a)) Q E s:=by
 rcases g with ⟨kvs,k,e,ey,l⟩ | ⟨kvs,k,b,e,ey,eb,l⟩
 ·subst ey
  obtain ⟨z,hd,vs,rel,dd⟩:=dk_rd I.hok e
  refine wpAny_in_of (kV_is ry) hd dd.mapOf ?_
  rw [← (rel.val k).isSome_eq,← l]
  exact h _ (I.tok _)
 ·subst ey
  cases (show u=Value.ref b from ry)
  obtain ⟨z,hd,xs,rel,dd⟩:=dt_rd I.hok e
  refine wpAny_in_heap (tupleKind_room_in1 hu) (key_of I.hok eb) hd dd ?_
  have q:=(rel.val k).isSome_eq
  rw [Option.isSome_map] at q
  rw [← q,← l]
  exact h _ (I.tok _)
theorem d_notIn {Q:Value→Shared→Prop} (hu:A.units + 1 < cLine) (I:Inv X pins σ H s) (g:DGet H a y o) (ry:RelV y u) (h:∀ s',Inv X pins σ H s'→Q (.bool (!o.isSome)) s') :
  wpAny (model X.prog X.w) A (compareOp .NotIn u (.ref a)) Q E s:=by
 rcases g with ⟨kvs,k,e,ey,l⟩ | ⟨kvs,k,b,e,ey,eb,l⟩
 ·subst ey
  obtain ⟨z,hd,vs,rel,dd⟩:=dk_rd I.hok e
  refine wpAny_notIn_of (kV_is ry) hd dd.mapOf ?_
  rw [← (rel.val k).isSome_eq,← l]
  exact h _ (I.tok _)
 ·subst ey
  cases (show u=Value.ref b from ry)
  obtain ⟨z,hd,xs,rel,dd⟩:=dt_rd I.hok e
  refine wpAny_notIn_heap (tupleKind_room_in1 hu) (key_of I.hok eb) hd dd ?_
  have q:=(rel.val k).isSome_eq
  rw [Option.isSome_map] at q
  rw [← q,← l]
  exact h _ (I.tok _)
theorem d_write {h':Heap} {t':Nat} {ob:HO} (I:Inv X pins σ H s) (mu:Mut (H a)) (hs:Heap.SameBut a s.heap h') (he:∃ q,h'.get? a=some q) (new:ObjOk X.prog X.w (upd H a ob) h' a ob) :
  Inv X pins σ (upd H a ob) { s with heap:=h',toks:=t' }:=
 I.write (x:=a) (e:=a) mu (.inl rfl) (fun b q hb z=>(hs.2 b hb).trans z) he new
theorem dk_new {P:Program} {w:World} {H':Hp} {h':Heap} {kvs:List (Key × V)} {vs:List (Key × Value)} (z:kvs.length≤sizeLine) (hd:(a == sysModules)=false) (rel:KV kvs vs) (dd:h'.DictOf (mixKind P w) a vs) :
  ObjOk P w H' h' a (.dK kvs):=⟨z,hd,vs,rel,dd⟩
end
noncomputable def NoSl (i:Expr):Prop:=∀ ov iv,subscripted i false ov iv=operate [ov,iv] (getItem ov iv)
theorem subD_of {prog:Program} {w:World} {A:Around} {E:Value→Shared→Prop} {s:Shared} {env:Env} {value slice:Expr} {pos:Pos} {T id:String} {Q:Value→Shared→Prop}
  (hl:typeLookup (.type T) "__getitem__"=pure (some (.builtin id))) (hs:NoSl slice)
  (h:wpAny (model prog w) A (eval value env) (fun o s₁=>wpAny (model prog w) A (eval slice env) (fun i s₂=>s₂.TypeIs o T∧wpAny (model prog w) A (getItem o i) Q E s₂) E s₁) E s) :
  wpAny (model prog w) A (eval (.Subscript value slice pos) env) Q E s:=by
 refine Subscript_ (wpAny_mono h (fun o s₁ h₁=>wpAny_mono h₁ (fun i s₂ h₂=>?_) fun _ _ x=>x) fun _ _ x=>x)
 obtain ⟨hT,h₂⟩:=h₂
 unfold subscriptTail
 refine wpAny_bind ?_
 rw [getitemInPython_of_ne hT.not_modules]
 refine wpAny_bind (wpAny_specialOf hT hl ?_)
 have fin:wpAny (model prog w) A (subscripted slice false o i) (fun r s₃=>wpAny (model prog w) A (letTemporaryGo value o r >>= fun _=>pure r) Q E s₃) E s₂:=by
  rw [hs o i]
  exact wpAny_operating (wpAny_mono h₂ (fun r s₃ h₃=>wpAny_bind (wpAny_letTemporaryGo (wpAny_pure h₃))) fun _ _ x=>x)
 first
  | exact wpAny_pure (wpAny_bind fin)
  | exact wpAny_bind (wpAny_pure (wpAny_bind fin))
  | exact wpAny_bind fin
theorem dict_typeIs {X:Cx} {pins:List (Addr × Obj)} {σ:St} {H:Hp} {s:Shared} {a:Addr} {y:V} {o:Option V} (I:Inv X pins σ H s) (g:DGet H a y o):s.TypeIs (.ref a) "dict":=by
 rcases g with ⟨kvs,k,e,_,_⟩ | ⟨kvs,k,b,e,_,_,_⟩
 ·obtain ⟨_,_,vs,_,dd⟩:=dk_rd I.hok e
  exact dd.typeIs
 ·obtain ⟨_,_,xs,_,dd⟩:=dt_rd I.hok e
  exact dd.typeIs
noncomputable def tDGet (td ty:TE):TE:=fun σ H Q=>td σ H fun x H1=>ty σ H1 fun y H2=>∃ a v,x=.ref a∧DGet H2 a y (some v)∧Q v H2
section
variable {X:Cx} {o i e value:Expr} {pos pos' tpos:Pos} {td ty tv:TE}
theorem pe_dget (hu:X.A.units + 1 < cLine) (ho:PE X o td) (hi:PE X i ty) (hs:NoSl i):PE X (.Subscript o i pos) (tDGet td ty):=by
 intro pins s σ H Q I h
 refine subD_of PySem.F.slot_dict_getitem.lookup hs (thn (ho pins s σ H _ I h) fun u s1 ⟨x,H1,I1,rx,q1⟩=>thn (hi pins s1 σ H1 _ I1 q1) fun iv s2 ⟨y,H2,I2,ry,a,v,ex,g,q2⟩=>?_)
 subst ex
 obtain rfl:u=Value.ref a:=rx
 exact ⟨dict_typeIs I2 g,d_getItem hu I2 g ry fun w' s3 I3 rw'=>⟨v,H2,I3,rw',q2⟩⟩
end
theorem dk_empty {P:Program} {w:World} {H:Hp} (h:Heap) (hb:sysModules < h.objs.size):ObjOk P w H (h.push { cls:=.type "dict",data:=.dict #[] }) h.objs.size (.dK []):=
 ⟨Nat.zero_le _,beq_eq_false_iff_ne.mpr (Ne.symm (Nat.ne_of_lt hb)),[],.nil,Heap.DictOf.new h⟩
noncomputable def tPairs:List (TE × TE)→St→Hp→(List (V × V)→Hp→Prop)→Prop
 | [],_,H,Q=>Q [] H
 | (tk,tv)::r,σ,H,Q=>tk σ H fun x H1=>tv σ H1 fun y H2=>tPairs r σ H2 fun ps H3=>Q ((x,y)::ps) H3
noncomputable abbrev VV:List (V × V)→List (Value × Value)→Prop:=Paired fun p q=>RelV p.1 q.1∧RelV p.2 q.2
noncomputable def PPs (X:Cx) (pos:Pos) (keys:List (Option Expr)) (values:List Expr) (trs:List (TE × TE)):Prop:=
 ∀ (pins:List (Addr × Obj)) (s:Shared) (σ:St) (H:Hp) (Q:List (V × V)→Hp→Prop),Inv X pins σ H s→tPairs trs σ H Q →
  wpAny (model X.prog X.w) X.A (evalPairs (pairTrees keys values X.env pos)) (fun vs s'=>∃ ps H',Inv X pins σ H' s'∧VV ps vs∧Q ps H') X.xe s
theorem pps_nil {X:Cx} {pos:Pos}:PPs X pos [] [] []:=fun pins s σ H Q I h=>pairTrees_nil_walk ⟨[],H,I,.nil,h⟩
theorem pps_cons {X:Cx} {pos:Pos} {k v:Expr} {ks:List (Option Expr)} {vs:List Expr} {tk tv:TE} {trs:List (TE × TE)} (hk:PE X k tk) (hv:PE X v tv) (hr:PPs X pos ks vs trs) :
  PPs X pos (some k::ks) (v::vs) ((tk,tv)::trs):=fun pins s σ H Q I h=>
 pairTrees_cons_walk (thn (hk pins s σ H _ I h) fun u s1 ⟨x,H1,I1,rx,q1⟩=>thn (hv pins s1 σ H1 _ I1 q1) fun w2 s2 ⟨y,H2,I2,ry,q2⟩=>
  thn (hr pins s2 σ H2 _ I2 q2) fun ws s3 ⟨ps,H3,I3,rel,q3⟩=>⟨(x,y)::ps,H3,I3,.cons ⟨rx,ry⟩ rel,q3⟩)
noncomputable def mergeK (kvs more:List (Key × V)):List (Key × V):=more.foldl (fun acc kv=>putK acc kv.1 kv.2) kvs
theorem KV.merge:∀ {more:List (Key × V)} {rs:List (Key × Value)} {kvs:List (Key × V)} {vs:List (Key × Value)},KV more rs→KV kvs vs→KV (mergeK kvs more) (merged vs rs):=by
 intro more rs kvs vs r
 unfold KV at r
 induction r generalizing kvs vs with
 | nil=>intro q;exact q
 | @cons p q ps qs h t ih=>
  intro r0
  have e:KV (putK kvs p.1 p.2) (stored vs q.1 q.2):=by
   have:=r0.put p.1 h.2
   rw [← h.1];exact this
  exact ih e
theorem length_mergeK:∀ (more kvs:List (Key × V)),(mergeK kvs more).length≤kvs.length + more.length
 | [],kvs=>by show kvs.length≤kvs.length + 0;omega
 | p::r,kvs=>by
  have h1:=length_mergeK r (putK kvs p.1 p.2)
  have h2:=length_putK kvs p.1 p.2
  show (mergeK (putK kvs p.1 p.2) r).length≤_
  rw [List.length_cons];omega
theorem carries_of {P:Program} {w:World}:∀ {kvs:List (Key × V)} {ws:List (Value × Value)},VV (kvs.map fun kv=>(kV kv.1,kv.2)) ws→∃ rs,Carries (mixKind P w) ws rs∧KV kvs rs
 | [],_,r=>by rw [List.map_nil] at r;cases r;exact ⟨[],True.intro,.nil⟩
 | p::kvs,_,r=>by
  rw [List.map_cons] at r
  cases r with
  | @cons a b as bs h t=>
   obtain ⟨rs,c,q⟩:=carries_of (P:=P) (w:=w) t
   obtain ⟨b1,b2⟩:=b
   exact ⟨(p.1,b2)::rs,⟨kV_is h.1,rfl,c⟩,.cons ⟨rfl,h.2⟩ q⟩
noncomputable def tDisp (trs:List (TE × TE)):TE:=fun σ H Q=>∀ p,H p=none→tPairs trs σ (upd H p (.dK [])) fun ps H2=>H2 p=some (.dK [])∧∃ kvs:List (Key × V),ps=kvs.map (fun kv=>(kV kv.1,kv.2))∧kvs.length≤15∧Q (.ref p) (upd H2 p (.dK (mergeK [] kvs)))
theorem pe_disp {X:Cx} {pos:Pos} {keys:List (Option Expr)} {values:List Expr} {trs:List (TE × TE)} (h:PPs X pos keys values trs) (hall:keys.all (·.isSome)=true) (hl:keys.length=values.length) (h0:keys ≠ [])
  (h15:keys.length≤15):PE X (.Dict keys values pos) (tDisp trs):=by
 intro pins s σ H Q I q
 have hn:=I.hok.fresh (Nat.le_refl s.heap.objs.size)
 have I1:=I.laid (a:=s.heap.objs.size) (o:=.dK []) (h':=s.heap.push { cls:=.type "dict",data:=.dict #[] }) (t':=s.toks) (fun _ _ q=>Heap.get?_push_of_some _ q) (Nat.le_refl _) (dk_empty s.heap I.big)
 refine wpAny_Dict_walk (knd:=mixKind X.prog X.w) hall hl h0 h15 (thn (h pins _ σ _ _ I1 (q _ hn)) fun ws s2 ⟨ps,H2,I2,rel,e,kvs,ep,lk,q2⟩=>?_)
 subst ep
 obtain ⟨rs,c,rk⟩:=carries_of (P:=X.prog) (w:=X.w) rel
 obtain ⟨z,hd,vs0,r0,dd⟩:=dk_of I2.hok e
 cases r0
 refine ⟨rs,c,dd,fun h' dd' hs=>⟨.ref s.heap.objs.size,_,?_,rfl,q2⟩⟩
 have hz:(mergeK [] kvs).length≤sizeLine:=by
  have h1:=length_mergeK kvs []
  rw [List.length_nil] at h1
  rw [sizeLine_eq];omega
 have he:∃ q,h'.get? s.heap.objs.size=some q:=let ⟨q,_,_,hq,_⟩:=dd';⟨q,hq⟩
 exact d_write I2 (by rw [e];exact True.intro) hs he (dk_new hz hd (rk.merge .nil) dd')
noncomputable def IsD (H:Hp) (a:Addr):Prop:=(∃ kvs,Rd H a (.dK kvs)) ∨ ∃ kvs,Rd H a (.dT kvs)
end L2
namespace Att
open PySem PySem.W PySem.Calls PyProof.Rows
theorem ints_of_wellAll {P:Params} {h:Heap}:∀ (ns:List Int) (vs:List Value),WellAll P h vs (ns.map WData.int)→IntsAre vs ns:=by
 intro ns
 induction ns with
 | nil=>
  intro vs w
  rw [List.map_nil] at w
  cases w
  exact .nil
 | cons n ns ih=>
  intro vs w
  rw [List.map_cons] at w
  cases w with
  | cons a b=>
   cases a
   exact .cons _ _ (ih _ b)
theorem script_of {l:OpenLaw} {n:Nat} (hn:l.most=some n) {P:Params} {h:Heap} {args:List WData} {vals:List Value}
  (hpre:l.row.toRowW.claim.pre args=true) (hwl:WellAll P h vals args) :
  ∃ a vs ns,vals=[Value.ref a]∧args=[WData.list (ns.map WData.int)]∧h.get? a=some { cls:=.type "list",data:=.seq vs.toArray }∧IntsAre vs ns∧ns.length≤n:=by
 have hsh:WShape.hasAll [] args [.list .int]=true:=(pre_splitW hpre).1
 have hc:l.pre.holds [] { args:=args }=true:=(pre_splitW hpre).2
 obtain ⟨d,r,rfl,h1,h2⟩:=hasAllW_cons hsh
 obtain rfl:=hasAllW_nil h2
 obtain ⟨xs,rfl,h3⟩:=hasW_list h1
 obtain ⟨ns,rfl⟩:=items_int h3
 have hlen:ns.length≤n:=by
  unfold OpenLaw.pre at hc
  have h4:(WTm.not (.lt (.lit (.int (n:Int))) (.len (.arg 0)))).holds [] { args:=[.list (ns.map .int)] }=true:=by
   have h4:=(holds_andW hc).1
   rw [hn] at h4
   exact h4
  have h5:=condW_of h4 (w_not (w_lt w_lit (w_len_list (w_arg rfl))))
  rw [List.length_map] at h5
  refine Nat.le_of_not_lt fun q=>?_
  have q':(n:Int) < ((ns.length:Nat):Int):=by omega
  first
   | (rw [decide_eq_true q'] at h5;exact absurd h5 (by decide))
   | (simp at h5;omega)
 cases hwl with
 | cons w1 w2=>
  cases w2
  cases w1 with
  | list ho hall=>exact ⟨_,_,ns,rfl,rfl,ho,ints_of_wellAll ns _ hall,hlen⟩
theorem post_true (l:OpenLaw) (args:List WData):l.row.toRowW.claim.post args (.bool true) args=true:=
 postW_of (r:=l.row.toRowW) (X:=(true == true))
  (show WShape.has [] (.bool true) .bool=true by first | rfl | decide | simp [WShape.has,WShape.arms,WShape.armsAll])
  (show (WTm.eq .res (.lit (.bool true))).value [] { args:=args,res:=some (.bool true),after:=args }=some (.bool (true == true)) from w_eq_bool (w_res rfl) w_lit) rfl
theorem attach_call {l:OpenLaw} {n:Nat} {q:Program} {loose:List Str} {XP:(Str→Option Value)→Heap→Prop} {YP:World→Heap→Prop} {d:DefRec}
  (hn:l.most=some n) (hdf:d.params.defaults=[])
  (call:∀ (w:World) (s₀ s₁:Shared) (mg mb:Str→Option Value) (fa:Addr) (o:Obj) (pm cd doc:Value) (a:Addr) (vs:List Value) (ns:List Int),
   Ground q loose [] XP w s₀ mg mb s₁.heap→YP w s₁.heap →
   s₁.heap.get? fa=some o→o.data=.func (docDef d.name d.params d.body d.scope pm cd doc)→s₁.heap.CodeRec cd d.name→mg d.name=some (.ref fa) →
   s₁.heap.get? a=some { cls:=.type "list",data:=.seq vs.toArray }→IntsAre vs ns→ns.length≤n→s₁.gens=#[] →
   codeAny (model l.prog w) callerA (.call (.ref fa) ⟨[.ref a],[]⟩) (fun r s'=>r=.ok (.ret (.bool true))∧OldK s₁.heap s'.heap∧s'.os=s₁.os∧AllBare s'.gens) s₁) :
  WalkO q loose XP YP l.row.toRowW d [] (fun f vs=>PySem.call f vs):=by
 intro w s₀ s₁ mg mb G Y fa o pm cd doc dV kV ho hd hcd hD hmg hg args vals as hpre hlay hrd hwl hlo
 obtain rfl:dV=.none:=Dflts.none hD hdf
 obtain rfl:kV=.none:=Dflts.noKw hD
 obtain ⟨a,vs,ns,rfl,rfl,hobj,hints,hlen⟩:=script_of hn hpre hwl
 refine enter_call (codeAny_mono (call w s₀ s₁ mg mb fa o pm cd doc a vs ns G Y ho (fd_plain hd) hcd hmg hobj hints hlen hg) fun r s' hq=>?_)
 obtain ⟨rfl,h2,h3,h4⟩:=hq
 exact ⟨.inl ⟨.bool true,.bool true,[],rfl,fun _=>rfl,.bool true,post_true l _,fun _=>⟨List.Pairwise.nil,fun _ hm=>(nomatch hm)⟩⟩,h2,h3,h4⟩
section
variable {prog:Program} {w:World} {A:Around} {E:Value→Shared→Prop} {s:Shared} {K:Frag}
noncomputable def ledger (h:Heap) (L d:Addr):List (Addr × Obj):=(List.range h.objs.size).filterMap fun a=>if a=L ∨ a=d then none else (h.get? a).map fun o=>(a,o)
end
end Att
namespace L2
open PySem PySem.Spec PyProof.Rows
theorem vals_ints:∀ {vs:List Value} {ns:List Int},IntsAre vs ns→Vals (ns.map V.int) vs
 | _,_,.nil=>.nil
 | _,_,.cons n t h=>.cons ⟨t,rfl⟩ (vals_ints h)
end L2
namespace L2
open PySem PySem.Spec PyProof.Rows
end L2
namespace L2
open PySem PySem.Spec PyProof.Rows
noncomputable def defArgs (s:Stmt):Arguments:=match s with
 | .FunctionDef _ a _ _ _ _ _ _ _ _=>a
 | _=>{ posonlyargs:=[],args:=[],vararg:=none,kwonlyargs:=[],kw_defaults:=[],kwarg:=none,defaults:=[] }
noncomputable def defBody (s:Stmt):List Stmt:=match s with
 | .FunctionDef _ _ b _ _ _ _ _ _ _=>b
 | _=>[]
noncomputable def defScope (s:Stmt):Scope:=match s with
 | .FunctionDef _ _ _ _ _ _ sc _ _ _=>sc
 | _=>{ kind:=.function,names:=[],isGenerator:=false,isCoroutine:=false }
noncomputable abbrev CX0:CXT:=fun _ _ _ _ _ _=>False
noncomputable abbrev E0:XK:=fun _ _ _=>False
theorem pass0 {X:Cx}:Passes CX0 X E0:=fun _ _ _ _ _ _ _ h=>h.elim
structure Fun (K:PySem.W.Frag) (x qual:Str) (st:Stmt) (f:Addr) (fd:FuncData):Prop where
 ex:∃ (oc:Value) (od:Option Addr) (kV doc pm:Value) (an:Option Addr) (cdv ct:Value) (osl:Array (Option Value)),
  fd=PySem.W.fnOf x qual (defArgs st) (defBody st) (defScope st) .none kV doc pm an cdv ct∧K.lookup f=some ⟨oc,od,.func fd,osl⟩∧PySem.W.codeIn K cdv qual=true
 kp:PySem.W.keepIn K (.ref f)=true
section
variable {P:Program} {w:World} {K:PySem.W.Frag} {mg:Str→Option Value} {base:Heap}
theorem fun_mk {x qual:Str} {st:Stmt} {f:Addr} {oc:Value} {od an:Option Addr} {osl:Array (Option Value)} {kV doc pm cdv ct:Value} (l:K.lookup f=some ⟨oc,od,.func (PySem.W.fnOf x qual (defArgs st) (defBody st) (defScope st) .none kV doc pm an cdv ct),osl⟩)
  (c:PySem.W.codeIn K cdv qual=true) (k:PySem.W.keepIn K (.ref f)=true):Fun K x qual st f (PySem.W.fnOf x qual (defArgs st) (defBody st) (defScope st) .none kV doc pm an cdv ct):=⟨⟨oc,od,kV,doc,pm,an,cdv,ct,osl,rfl,l,c⟩,k⟩
end
theorem small1000 {n:Nat} (h:n≤1000):n < sizeLine:=Nat.lt_of_le_of_lt h (by decide)
noncomputable def Same (H H':Hp):Prop:=∀ b o,H b=some o→H' b=some o
theorem Same.refl (H:Hp):Same H H:=fun _ _ h=>h
theorem Same.trans {H H1 H2:Hp} (a:Same H H1) (b:Same H1 H2):Same H H2:=fun c o h=>b c o (a c o h)
end L2
set_option Elab.async false
set_option linter.all false
set_option maxRecDepth 100000
set_option maxHeartbeats 4000000
namespace L2
open PySem PySem.Spec PyProof.Rows
theorem compLoop_any {prog:Program} {w:World} {A:Around} {R:Result→Shared→Prop} {s:Shared} {elt target iter:Expr} {ifs:List Expr} {scope:Scope} {pos:Pos} {it acc:Value} {env:Env} (I:Nat→Shared→Prop)
  (turn:∀ n s,I n s→wpAny (model prog w) A (pyNext it) (fun r s₁=>match r with
   | none=>R (.ok .next) s₁
   | some v=>wpAny (model prog w) A (letOwnedTupleGo target it v) (fun _ s₁'=>wpAny (model prog w) A (assign target env v) (fun _ s₂=>
     wpAny (model prog w) A (forIn ifs true fun c r=>if r=true then do let ok ← isTrue c env (eval c env);pure (ForInStep.yield ok) else pure (ForInStep.yield r)) (fun ok s₃=>
      if ok=true then wpAny (model prog w) A (eval elt env) (fun x s₄=>
       wpAny (model prog w) A (call (.builtin "list.append") [acc,x]) (fun _ s₅=>∃ m,m < n∧I m s₅) (fun _ _=>False) s₄) (fun _ _=>False) s₃
      else ∃ m,m < n∧I m s₃) (fun _ _=>False) s₂) (fun _ _=>False) s₁') (fun _ _=>False) s₁) (fun _ _=>False) s)
  (n:Nat) (h:I n s) :
  codeAny (model prog w) A (.compLoop (.ListComp elt [⟨target,iter,ifs,0⟩] scope pos) 0 it acc env) R s:=by
 refine codeAny_loop rfl I (fun n s hI=>?_) n h
 show wpAny _ A ((compTurn (.ListComp elt [⟨target,iter,ifs,0⟩] scope pos) 0 it acc env).onRaise (fun x=>do noteFrame x env;theTreesLotGoes x)) _ _ s
 refine wpAny_noted ?_
 rw [compTurn_list]
 refine wpAny_bind (wpAny_standAt (wpAny_bind (wpAny_mono (turn n s hI) (fun r s₁ h₁=>?_) fun _ _ h'=>h'.elim)))
 cases r with
 | none=>exact wpAny_pure h₁
 | some v=>
  refine wpAny_bind (wpAny_mono h₁ (fun _ s₁' h₁'=>?_) fun _ _ h'=>h'.elim)
  refine wpAny_bind (wpAny_mono h₁' (fun _ s₂ h₂=>wpAny_bind (wpAny_mono h₂ (fun ok s₃ h₃=>?_) fun _ _ h'=>h'.elim)) fun _ _ h'=>h'.elim)
  cases ok with
  | false=>exact wpAny_pure ⟨rfl,h₃⟩
  | true=>
   exact wpAny_bind (wpAny_bind (wpAny_mono h₃ (fun x s₄ h₄=>wpAny_bind (wpAny_mono h₄ (fun _ s₅ h₅=>wpAny_pure (wpAny_pure ⟨rfl,h₅⟩)) fun _ _ h'=>h'.elim)) fun _ _ h'=>h'.elim))
noncomputable def clOf (cells:List (Str × Addr)):List (Str × NameKind)→List (Str × Addr)→List (Str × Addr)
 | [],acc=>acc
 | (n,k)::r,acc=>clOf cells r (if k == .free then (match cells.lookup n with | some a=>(n,a)::acc | none=>acc) else acc)
theorem closure_go {env:Env}:∀ (names:List (Str × NameKind)) (acc:List (Str × Addr)),(∀ x ∈ names,x.2=.free→(env.cells.lookup x.1).isSome=true) →
  (forIn names acc fun x r=>match x with
   | (name,kind)=>if (kind == NameKind.free)=true then do let a ← cellOf env name;pure (ForInStep.yield ((name,a)::r)) else pure (ForInStep.yield r):Sem (List (Str × Addr)))=pure (clOf env.cells names acc)
 | [],acc,_=>rfl
 | (n,k)::r,acc,h=>by
  have hr:∀ x ∈ r,x.2=.free→(env.cells.lookup x.1).isSome=true:=fun x hx=>h x (List.mem_cons_of_mem _ hx)
  rw [List.forIn_cons]
  cases hk:(k == NameKind.free) with
  | false=>
   simp only [hk,Bool.false_eq_true,if_false,pure_bind]
   rw [closure_go r acc hr]
   simp only [clOf,hk,Bool.false_eq_true,if_false]
  | true=>
   have hf:k=.free:=by simpa using hk
   obtain ⟨a,ha⟩:=Option.isSome_iff_exists.mp (h (n,k) List.mem_cons_self hf)
   have hc:cellOf env n=pure a:=by unfold cellOf;rw [ha]
   simp only [hk,if_true,hc,pure_bind]
   rw [closure_go r _ hr]
   simp only [clOf,hk,if_true,ha]
theorem closure_of {env:Env} {scope:Scope} (h:∀ x ∈ scope.names,x.2=.free→(env.cells.lookup x.1).isSome=true):closureFor scope env=pure (clOf env.cells scope.names []):=by
 unfold closureFor
 have e:=closure_go (env:=env) scope.names [] h
 show ((forIn scope.names ([]:List (Str × Addr)) (fun x r=>match x with
   | (name,kind)=>if (kind == NameKind.free)=true then do let a ← cellOf env name;pure (ForInStep.yield ((name,a)::r)) else pure (ForInStep.yield r)):Sem (List (Str × Addr))) >>= fun cs=>pure cs)=_
 rw [e]
 rfl
theorem clOf_sub {cells:List (Str × Addr)}:∀ {names:List (Str × NameKind)} {acc:List (Str × Addr)} {x:Str} {c:Addr},(x,c) ∈ clOf cells names acc→(x,c) ∈ acc ∨ (cells.lookup x=some c∧(x,NameKind.free) ∈ names)
 | [],acc,x,c,h=>.inl h
 | (n,k)::r,acc,x,c,h=>by
  unfold clOf at h
  rcases clOf_sub h with h1 | ⟨h1,h2⟩
  ·cases hk:(k == NameKind.free) with
   | false=>simp only [hk,Bool.false_eq_true,if_false] at h1;exact .inl h1
   | true=>
    have hf:k=.free:=by simpa using hk
    subst hf
    simp only [hk,if_true] at h1
    cases hc:cells.lookup n with
    | none=>rw [hc] at h1;exact .inl h1
    | some a=>
     rw [hc] at h1
     rcases List.mem_cons.mp h1 with e | e
     ·cases e;exact .inr ⟨hc,List.mem_cons_self⟩
     ·exact .inl e
  ·exact .inr ⟨h1,List.mem_cons_of_mem _ h2⟩
theorem clOf_has {cells:List (Str × Addr)}:∀ {names:List (Str × NameKind)} {acc:List (Str × Addr)} {x:Str} {c:Addr},cells.lookup x=some c→((x,NameKind.free) ∈ names ∨ (x,c) ∈ acc)→(x,c) ∈ clOf cells names acc
 | [],acc,x,c,_,h=>by
  rcases h with h | h
  ·cases h
  ·exact h
 | (n,k)::r,acc,x,c,hc,h=>by
  unfold clOf
  refine clOf_has hc ?_
  rcases h with h | h
  ·rcases List.mem_cons.mp h with e | e
   ·cases e
    refine .inr ?_
    rw [if_pos (by decide),hc]
    exact List.mem_cons_self
   ·exact .inl e
  ·refine .inr ?_
   split
   ·split
    ·exact List.mem_cons_of_mem _ h
    ·exact h
   ·exact h
theorem lookup_mem {α:Type} {l:List (Str × α)} {x:Str} {a:α} (h:l.lookup x=some a):(x,a) ∈ l:=PySem.mem_of_lookup h
theorem mem_isSome {α:Type}:∀ {l:List (Str × α)} {x:Str} {a:α},(x,a) ∈ l→∃ b,l.lookup x=some b
 | [],_,_,h=>by cases h
 | (y,b)::r,x,a,h=>by
  rw [List.lookup_cons]
  cases e:x == y with
  | true=>exact ⟨b,rfl⟩
  | false=>
   rcases List.mem_cons.mp h with z | z
   ·cases z;simp at e
   ·exact mem_isSome z
theorem clOf_lookup {cells:List (Str × Addr)} {names:List (Str × NameKind)} {x:Str} {c:Addr} (h:(clOf cells names []).lookup x=some c):cells.lookup x=some c∧(x,NameKind.free) ∈ names:=by
 rcases clOf_sub (lookup_mem h) with z | z
 ·cases z
 ·exact z
theorem clOf_get {cells:List (Str × Addr)} {names:List (Str × NameKind)} {x:Str} {c:Addr} (h:cells.lookup x=some c) (hm:(x,NameKind.free) ∈ names):(clOf cells names []).lookup x=some c:=by
 obtain ⟨b,hb⟩:=mem_isSome (clOf_has (acc:=[]) h (.inl hm))
 have:=(clOf_lookup hb).1
 rw [h] at this
 cases this
 exact hb
structure CompScope (X:Cx) (scope:Scope) (Nc:List Str) (fr:List Nat) (k:Nat):Prop where
 kind:scope.kind=.function
 nocell:∀ y ∈ scope.names,y.2 ≠ .cell
 names:∀ y ∈ scope.names,y.2=.local→scope.names.lookup y.1=some .local
 frees:∀ y ∈ scope.names,y.2=.free→X.env.scope.names.lookup y.1=some .cell ∨ X.env.scope.names.lookup y.1=some .free
 uniq:∀ y ∈ scope.names,y.2=.free→(y.1,NameKind.local) ∉ scope.names
 nd:Nc.Nodup
 len:Nc.length=fr.length + k
 fre:∀ i x,Nc[i]?=some x→i < fr.length→∃ j,fr[i]?=some j∧X.N[j]?=some x∧(x,NameKind.free) ∈ scope.names
noncomputable def compSt (fr:List Nat) (k:Nat) (σ:St):St:=(fr.map fun j=>(σ[j]?).join)++List.replicate k none
theorem relabel_kind {scope:Scope} {env:Env} {x:Str} (h:((relabel scope env).names.lookup x=some .cell ∨ (relabel scope env).names.lookup x=some .free)) (hc:∀ y ∈ scope.names,y.2 ≠ .cell):(x,NameKind.free) ∈ scope.names:=by
 have go:∀ k,(relabel scope env).names.lookup x=some k→(k=.cell ∨ k=.free)→(x,NameKind.free) ∈ scope.names:=by
  intro k hk hkk
  have hm:=lookup_mem hk
  unfold relabel at hm
  obtain ⟨⟨n,k'⟩,h1,h2⟩:=List.mem_map.mp hm
  dsimp only at h2
  split at h2
  ·rename_i hcond
   cases h2
   have:k'=.free:=by
    simp only [Bool.and_eq_true,beq_iff_eq] at hcond
    exact hcond.1.1
   rw [← this];exact h1
  ·cases h2
   rcases hkk with z | z
   ·exact absurd z (hc _ h1)
   ·rw [← z];exact h1
 rcases h with h | h
 ·exact go _ h (.inl rfl)
 ·exact go _ h (.inr rfl)
theorem relabel_vis {scope:Scope} {env:Env} {x:Str}:∀ {k},(relabel scope env).names.lookup x=some k→∃ k',(x,k') ∈ scope.names∧(k=k' ∨ (k'=.free∧k=.cell)):=by
 intro k hk
 have hm:=lookup_mem hk
 unfold relabel at hm
 obtain ⟨⟨n,k'⟩,h1,h2⟩:=List.mem_map.mp hm
 dsimp only at h2
 split at h2
 ·rename_i hcond
  cases h2
  refine ⟨_,h1,.inr ⟨?_,rfl⟩⟩
  simp only [Bool.and_eq_true,beq_iff_eq] at hcond
  exact hcond.1.1
 ·cases h2
  exact ⟨_,h1,.inl rfl⟩
noncomputable def Cx.comp (X:Cx) (scope:Scope) (Nc:List Str) (C:Addr) (fp:List Addr) (pins:List (Addr × Obj)) (s:Shared) (H:Hp):Cx:=
 { X with N:=Nc,s₀:=s,H₀:=H,env:=compEnvC scope (clOf X.env.cells scope.names []) C X.env,outer:=X.stack,stack:=X.stack,ex:=fp,fn:=fun _=>false,pn:=X.pn++pins,xe:=fun _ _=>False,ow:=fun _=>false }
theorem Cx.comp_ok {X:Cx} {scope:Scope} {Nc:List Str} {fr:List Nat} {k:Nat} {C:Addr} {fp:List Addr} {pins:List (Addr × Obj)} {σ:St} {H:Hp} {s:Shared} (S:CompScope X scope Nc fr k) (I:Inv X pins σ H s)
  (hC:s.heap.objs.size≤C) (hf:∀ b ∈ fp,FpOk X pins H b) (hlt:∀ b ∈ fp,b < s.heap.objs.size):(X.comp scope Nc C fp pins s H).Ok where
 mod:=I.ok.mod
 kind:=S.kind
 glob:=I.ok.glob
 blt:=I.ok.blt
 above:=hC
 inj:=fun x y c h1 h2=>I.ok.inj x y c (clOf_lookup h1).1 (clOf_lookup h2).1
 has:=fun x h=>by
  have hm:=relabel_kind h S.nocell
  have hx:=S.frees _ hm rfl
  obtain ⟨c,hc⟩:=I.ok.has x hx
  exact ⟨c,clOf_get hc hm⟩
 cab:=fun x c h _=>h.elim (fun z=>nomatch z) fun z=>nomatch z
 hd:=I.ok.hd
 frames:=I.ok.frames
 stk:=.inl rfl
 exf:=fun b hb=>⟨fun z=>by have h1:=hlt b hb;have h2:b=C:=z;rw [h2] at h1;exact absurd h1 (Nat.not_lt.mpr hC),fun x c h=>(hf b hb).2.2.2.2.1 x c (clOf_lookup h).1⟩
 bs:=I.bs
 bsz:=Nat.le_trans I.ok.bsz I.sz
 noex:=fun b o e hb=>by
  obtain ⟨h0,h1,h2,h3,h4,h5⟩:=hf b hb
  rcases h3 with z | z
  ·exact I.ok.noex b o e z
  ·have:=(I.ok.bs b o e).1
   exact absurd (Nat.lt_of_lt_of_le (Heap.lt_size this) z) (Nat.lt_irrefl _)
 exfs:=fun b hb z=>by
  obtain ⟨h0,h1,h2,_⟩:=hf b hb
  rcases List.mem_cons.mp (I.stkSub b z) with e | e
  ·exact h1 e
  ·exact h2 e
 funs:=I.stack
 frf:=I.stkFree
theorem comp_start {X:Cx} {scope:Scope} {Nc:List Str} {fr:List Nat} {k:Nat} {C:Addr} {fp:List Addr} {pins:List (Addr × Obj)} {σ:St} {H:Hp} {s:Shared} {h1:Heap} {tk:Nat} (S:CompScope X scope Nc fr k) (I:Inv X pins σ H s)
  (hC:s.heap.objs.size≤C) (hf:∀ b ∈ fp,FpOk X pins H b) (hlt:∀ b ∈ fp,b < s.heap.objs.size) (hk:∀ b o,s.heap.get? b=some o→h1.get? b=some o) (hn:h1.Ns C (fun _=>none)) :
  Inv (X.comp scope Nc C fp pins s H) [] (compSt fr k σ) H { s with heap:=h1,toks:=tk }:=by
 have hfC:H C=none:=I.hok.fresh hC
 refine ⟨Cx.comp_ok S I hC hf hlt,rfl,I.bare,Un.kept hk,⟨_,hn,fun i x v e1 e2 e3=>?_⟩,fun x c e=>?_,hfC,fun x c e=>(I.freeC x c (clOf_lookup e).1).imp id fun z=>⟨rfl,z.2⟩,fun p hp=>?_,I.hok.kept hk,?_⟩
 ·have hi:i < fr.length:=by
   unfold compSt at e2
   by_cases hi:i < fr.length
   ·exact hi
   ·rw [List.getElem?_append_right (by simpa using hi),List.getElem?_replicate] at e2
    split at e2 <;> cases e2
  obtain ⟨j,hj,hN,hm⟩:=S.fre i x e1 hi
  have e2':σ[j]?=some (some v):=by
   unfold compSt at e2
   rw [List.getElem?_append_left (by simpa using hi),List.getElem?_map,hj] at e2
   simp only [Option.map_some,Option.some.injEq] at e2
   cases q:σ[j]? with
   | none=>rw [q] at e2;cases e2
   | some o=>rw [q] at e2;exact congrArg some e2
  obtain ⟨m,hns,hl⟩:=I.loc
  have hvis:Vis X.env.scope x:=by
   rcases S.frees _ hm rfl with z | z
   ·exact .inr (.inl z)
   ·exact .inr (.inr z)
  obtain ⟨u,r,l⟩:=hl j x v hN e2' hvis
  refine ⟨u,r,?_⟩
  rcases l with ⟨l1,_⟩ | ⟨l1,c,lc,lz⟩
  ·exfalso
   have l1':X.env.scope.names.lookup x=some .local:=l1
   rcases S.frees _ hm rfl with z | z
   ·rw [l1'] at z;cases z
   ·rw [l1'] at z;cases z
  ·refine .inr ⟨?_,c,clOf_get lc hm,?_⟩
   ·have e3':Vis (relabel scope X.env) x:=e3
    rcases e3' with z | z | z
    ·exfalso
     obtain ⟨k',h1,h2⟩:=relabel_vis z
     rcases h2 with h2 | h2
     ·subst h2
      exact S.uniq _ hm rfl h1
     ·cases h2.2
    ·exact .inl z
    ·exact .inr z
   ·obtain ⟨o,ho,hd⟩:=lz
    exact ⟨o,hk _ _ ho,hd⟩
 ·obtain ⟨v,o,ho,hd⟩:=I.cell x c (clOf_lookup e).1
  exact ⟨v,o,hk _ _ ho,hd⟩
 ·have hp':p ∈ X.pn++pins:=by
   have:p ∈ (X.pn++pins)++[]:=hp
   simpa using this
  obtain ⟨q1,q2,q3,q4,q5⟩:=I.pin p hp'
  refine ⟨hk _ _ q1,q2,fun z=>?_,fun z=>?_,q5⟩
  ·have h2:p.1=C:=z
   have h3:=Heap.lt_size q1
   rw [h2] at h3
   exact absurd h3 (Nat.not_lt.mpr hC)
  ·rcases List.mem_cons.mp (I.stkSub p.1 z) with e | e
   ·exact q3 e
   ·exact q4 e
 ·unfold compSt
  rw [List.length_append,List.length_map,List.length_replicate]
  exact S.len.symm
theorem comp_back {X:Cx} {scope:Scope} {Nc:List Str} {C:Addr} {fp:List Addr} {pins pl:List (Addr × Obj)} {σ σc:St} {H H':Hp} {s s':Shared} (I:Inv X pins σ H s) (hf:∀ b ∈ fp,FpOk X pins H b)
  (I':Inv (X.comp scope Nc C fp pins s H) pl σc H' s'):Inv X pins σ H' s':=by
 obtain ⟨hh,g,d,t,os'⟩:=s'
 obtain rfl:os'=s.os:=I'.os
 exact I.call (h':=hh) (g':=g) (d':=d) (t':=t) (ch:=fp) I'.base I'.hok I'.bare fun b hb=>by
  obtain ⟨h0,h1,h2,h3,h4,h5⟩:=hf b hb
  exact ⟨h3,h1,h4,h5⟩
theorem comp_letgo {X:Cx} {C:Addr} {pins:List (Addr × Obj)} {σ σ0:St} {H H0:Hp} {s s0:Shared} {h':Heap} (I0:Inv X pins σ0 H0 s0) (hC:s0.heap.objs.size≤C) (I:Inv X pins σ H s) (hn:H C=none)
  (sb:Heap.SameBut C s.heap h'):Inv X pins σ H { s with heap:=h' }:=by
 refine I.turned (t':=s.toks) (it:=C) (fun b o hb e=>(sb.2 b hb).trans e) hn ?_ (.inr (Nat.le_trans I0.sz hC)) ?_ ?_
 ·exact fun z=>absurd (Nat.lt_of_lt_of_le I0.lt hC) (by rw [z];exact Nat.lt_irrefl _)
 ·intro x c e z
  obtain ⟨v,q⟩:=I0.cell x c e
  exact absurd (Nat.lt_of_lt_of_le q.lt hC) (by rw [z];exact Nat.lt_irrefl _)
 ·intro p hp z
  exact absurd (Nat.lt_of_lt_of_le (Heap.lt_size (I0.pin p hp).1) hC) (by rw [z];exact Nat.lt_irrefl _)
noncomputable def tCompL (fr:List Nat) (k:Nat) (wi:TI) (g:TG) (tc:TT) (te:TE) (fin:V→Hp→Prop):St→Hp→Prop:=fun σ H=>
 wi σ H fun J H1=>∀ p,H1 p=none→∃ W:Nat→Nat→St→Hp→Prop,(∃ m,W 0 m (compSt fr k σ) (upd H1 p (.lst [])))∧∀ i m σc H2,W i m σc H2 →
  (J.stop i H2∧fin (.ref p) H2) ∨ (J.go i H2∧∃ N:St→Hp→Prop,(∀ σ' H',N σ' H'→∃ m',m' < m∧W (i + 1) m' σ' H') ∧
   ∀ x H3,J.yld i H2 x H3→g x σc H3 fun σ4 H4=>tc σ4 H4 fun b H5=>if b=true then te σ4 H5 fun v H6=>∃ ys,H6 p=some (.lst ys)∧ys.length < sizeLine∧N σ4 (upd H6 p (.lst (ys++[v]))) else N σ4 H5)
noncomputable def PCs (X:Cx) (ifs:List Expr) (t:TT):Prop:=
 ∀ (pins:List (Addr × Obj)) (s:Shared) (σ:St) (H:Hp) (Q:Bool→Hp→Prop),Inv X pins σ H s→t σ H Q →
  wpAny (model X.prog X.w) X.A (forIn ifs true fun c r=>if r=true then do let ok ← isTrue c X.env (eval c X.env);pure (ForInStep.yield ok) else pure (ForInStep.yield r)) (TP X pins σ Q) X.xe s
noncomputable def tTrue:TT:=fun _ H Q=>Q true H
theorem pcs_nil {X:Cx}:PCs X [] tTrue:=fun _ _ _ H _ I h=>wpAny_tests_nil ⟨H,I,h⟩
theorem pcs_one {X:Cx} {c:Expr} {t:TT} (hc:PT X c t):PCs X [c] t:=fun pins s σ H Q I h=>wpAny_tests_one (hc pins s σ H Q I h)
section
variable {X:Cx} {scope:Scope} {Nc:List Str} {fr:List Nat} {k:Nat} {tg iter elt:Expr} {ifs:List Expr} {wi:TI} {g:TG} {tc:TT} {te:TE} {pos:Pos}
theorem comp_block (hc:X.calm=true) (S:CompScope X scope Nc fr k) (hg:∀ C fp pins s H,PG (X.comp scope Nc C fp pins s H) tg g) (ht:∀ C fp pins s H,PCs (X.comp scope Nc C fp pins s H) ifs tc) (he:∀ C fp pins s H,PE (X.comp scope Nc C fp pins s H) elt te)
  {pins:List (Addr × Obj)} {σ:St} {s2:Shared} {H2:Hp} {it:Addr} {fp:List Addr} {tn:Nat→Heap→Prop} {J:It} {fin:V→Hp→Prop} {RR:Value→Addr→Result→Shared→Prop} {E:Value→Shared→Prop}
  (I2:Inv X pins σ H2 s2) (T:Turn X.prog X.w X.K tg J fp it tn) (st2:tn 0 s2.heap) (f2:∀ b ∈ fp,FpOk X pins H2 b)
  (h:∀ p,H2 p=none→∃ W:Nat→Nat→St→Hp→Prop,(∃ m,W 0 m (compSt fr k σ) (upd H2 p (.lst [])))∧∀ i m σc H2,W i m σc H2 →
   (J.stop i H2∧fin (.ref p) H2) ∨ (J.go i H2∧∃ N:St→Hp→Prop,(∀ σ' H',N σ' H'→∃ m',m' < m∧W (i + 1) m' σ' H') ∧
    ∀ x H3,J.yld i H2 x H3→g x σc H3 fun σ4 H4=>tc σ4 H4 fun b H5=>if b=true then te σ4 H5 fun v H6=>∃ ys,H6 p=some (.lst ys)∧ys.length < sizeLine∧N σ4 (upd H6 p (.lst (ys++[v]))) else N σ4 H5))
  (hRR:∀ (D C:Addr) (H':Hp) (s':Shared) (s3:Shared) (H3:Hp) (m':Str→Option Value),Inv X pins σ H3 s3→s3.heap.objs.size≤C→Inv X pins σ H' s'→H' C=none→s'.heap.Ns C m'→fin (.ref D) H'→RR (.ref D) C (.ok .next) s') :
  wpAny (model X.prog X.w) X.A (newList []) (fun acc s₃=>wpAny (model X.prog X.w) X.A (newFunctionEnv scope X.env.globals (clOf X.env.cells scope.names []) [] X.env.qual none .none (some X.env)) (fun cenv s₄=>
   codeAny (model X.prog X.w) X.A (.compStart (.ListComp elt [⟨tg,iter,ifs,0⟩] scope pos) 0 (.ref it) acc { cenv with scope:=relabel scope X.env }) (RR acc cenv.locals) s₄) E s₃) E s2:=by
 have hp:=I2.hok.fresh (Nat.le_refl s2.heap.objs.size)
 obtain ⟨W,⟨m0,w0⟩,turn⟩:=h s2.heap.objs.size hp
 refine wpAny_newObj_type (wpAny_newFunctionEnv S.nocell (by intro y hy;simp at hy) (fun h₁ hns₁ hsb₁=>?_) S.kind)
 dsimp only at hns₁ hsb₁ ⊢
 have I3:Inv X pins σ (upd H2 s2.heap.objs.size (.lst [])) { s2 with heap:=s2.heap.push { cls:=.type "list",dict:=none,data:=.seq ([]:List Value).toArray } }:=
  I2.laid (t':=s2.toks) (fun b u e=>Heap.get?_push_of_some _ e) (Nat.le_refl _) ⟨Nat.zero_le _,[],0,.nil,Heap.get?_push_size _ rfl⟩
 have hlt2:∀ b ∈ fp,b < s2.heap.objs.size:=fun b hb=>by
  obtain ⟨o,e,_⟩:=T.obj _ _ st2 b hb
  exact Heap.lt_size e
 have f3:∀ b ∈ fp,FpOk X pins (upd H2 s2.heap.objs.size (.lst [])) b:=fun b hb=>by
  obtain ⟨q0,q⟩:=f2 b hb
  exact ⟨by rw [upd_ne (Nat.ne_of_lt (hlt2 b hb))];exact q0,q⟩
 generalize hH3:(s2.heap.push { cls:=.type "list",dict:=none,data:=.seq ([]:List Value).toArray }:Heap)=g3 at I3 hns₁ hsb₁ ⊢
 have hsz:g3.objs.size=s2.heap.objs.size + 1:=by rw [← hH3,Heap.size_push]
 have hlt3:∀ b ∈ fp,b < g3.objs.size:=fun b hb=>by rw [hsz];exact Nat.lt_succ_of_lt (hlt2 b hb)
 have k3:∀ b o,g3.get? b=some o→h₁.get? b=some o:=fun b o e=>hsb₁.extBut b o (Nat.ne_of_lt (Heap.lt_size e)) (Heap.get?_push_of_some _ e)
 have st3:tn 0 g3:=T.keep _ _ _ st2 fun b _ o e=>by rw [← hH3];exact Heap.get?_push_of_some _ e
 have st4:tn 0 h₁:=T.keep _ _ _ st3 fun b _ o e=>k3 b o e
 have I4:Inv (X.comp scope Nc g3.objs.size fp pins { s2 with heap:=g3 } (upd H2 s2.heap.objs.size (.lst []))) [] (compSt fr k σ) (upd H2 s2.heap.objs.size (.lst [])) { s2 with heap:=h₁,toks:=s2.toks + ([]:List (Str × Value)).length }:=
  comp_start (s:={ s2 with heap:=g3 }) S I3 (Nat.le_refl _) f3 hlt3 k3 hns₁
 generalize hXc:X.comp scope Nc g3.objs.size fp pins { s2 with heap:=g3 } (upd H2 s2.heap.objs.size (.lst []))=Xc at I4
 have eA:Xc.A=X.A:=by rw [← hXc];rfl
 have eP:Xc.prog=X.prog:=by rw [← hXc];rfl
 have ew:Xc.w=X.w:=by rw [← hXc];rfl
 have eK:Xc.K=X.K:=by rw [← hXc];rfl
 have ec:Xc.calm=true:=by rw [← hXc];exact hc
 have ee:Xc.env=compEnvC scope (clOf X.env.cells scope.names []) g3.objs.size X.env:=by rw [← hXc];rfl
 have ex:Xc.xe=fun _ _=>False:=by rw [← hXc];rfl
 have T':Turn Xc.prog Xc.w Xc.K tg J fp it tn:=by rw [eP,ew,eK];exact T
 have stat:∀ {H':Hp},(∀ b ∈ fp,H' b=none)→∀ b ∈ fp,FpOk Xc [] H' b:=fun hn b hb=>by
  obtain ⟨q0,q1,q2,q3,q4,q5⟩:=f3 b hb
  subst hXc
  refine ⟨hn b hb,Nat.ne_of_lt (hlt3 b hb),fun z=>?_,.inl hb,fun x c e=>q4 x c (clOf_lookup e).1,fun p hp=>q5 p ?_⟩
  ·rcases List.mem_cons.mp (I3.stkSub b z) with e | e
   ·exact q1 e
   ·exact q2 e
  ·have:p ∈ (X.pn++pins)++[]:=hp
   simpa using this
 have loop:∀ s₃:Shared,s₃={ s2 with heap:=h₁,toks:=s2.toks + ([]:List (Str × Value)).length } →
   codeAny (model X.prog X.w) X.A (.compLoop (.ListComp elt [⟨tg,iter,ifs,0⟩] scope pos) 0 (.ref it) (.ref s2.heap.objs.size) (compEnvC scope (clOf X.env.cells scope.names []) g3.objs.size X.env)) (RR (.ref s2.heap.objs.size) g3.objs.size) s₃:=by
  rintro s₃ rfl
  rw [← ee,← eA,← eP,← ew]
  refine compLoop_any (fun n s'=>∃ i σ' H',Inv Xc [] σ' H' s'∧tn i s'.heap∧(∀ b ∈ fp,H' b=none)∧W i n σ' H') ?_ m0 ⟨0,_,_,I4,st4,fun b hb=>(f3 b hb).1,w0⟩
  rintro n s5 ⟨i,σ5,H5,I5,st5,fr5,w5⟩
  rcases turn i n σ5 H5 w5 with ⟨stop,qn⟩ | ⟨go,N,hN,step⟩
  ·refine thn (T'.done Xc rfl rfl rfl ec i [] s5 σ5 H5 _ I5 (stat fr5) st5 stop) fun r s6 ⟨hr,I6⟩=>?_
   subst hr
   subst hXc
   obtain ⟨m',hm,_⟩:=id I6.loc
   exact hRR _ _ H5 s6 _ _ m' I3 (Nat.le_refl _) (comp_back I3 f3 I6) I6.free hm qn
  ·refine thn (T'.item Xc rfl rfl rfl ec i [] s5 σ5 H5 _ I5 (stat fr5) st5 go) fun r s6 ⟨u,hr,h6⟩=>?_
   subst hr
   refine thn h6 fun _ s7 ⟨x,H7,I7,r7,y7,st7,fr7⟩=>?_
   have I7':=I7.pinned (stat fr7) (T.obj _ _ st7)
   have hgX:PG Xc tg g:=by rw [← hXc];exact hg _ _ _ _ _
   have htX:PCs Xc ifs tc:=by rw [← hXc];exact ht _ _ _ _ _
   have heX:PE Xc elt te:=by rw [← hXc];exact he _ _ _ _ _
   have again:∀ {s9:Shared} {σ9:St} {H9:Hp},Inv Xc ([]++pinsAt fp s7.heap) σ9 H9 s9→N σ9 H9→∃ m,m < n∧∃ i σ' H',Inv Xc [] σ' H' s9∧tn i s9.heap∧(∀ b ∈ fp,H' b=none)∧W i m σ' H':=fun {s9 σ9 H9} I9 n9=>by
    obtain ⟨m',hm,w9⟩:=hN σ9 H9 n9
    refine ⟨m',hm,i + 1,σ9,H9,I9.unpinned,T.keep _ _ _ st7 fun b hb o e=>(I9.pin (b,o) (List.mem_append_right _ (List.mem_append_right _ (mem_pinsAt hb e)))).1,fun b hb=>?_,w9⟩
    obtain ⟨o,e,d⟩:=T.obj _ _ st7 b hb
    exact (I9.pin (b,o) (List.mem_append_right _ (List.mem_append_right _ (mem_pinsAt hb e)))).2.1
   have hgw:=hgX _ s7 σ5 H7 x u _ I7' r7 (step x H7 y7)
   rw [ex] at hgw
   refine thn hgw fun _ s8 ⟨σ8,H8,I8,q8⟩=>?_
   have htw:=htX _ s8 σ8 H8 _ I8 q8
   rw [ex] at htw
   refine thn htw fun ok s9 ⟨H9,I9,q9⟩=>?_
   cases ok with
   | false=>
    rw [if_neg Bool.false_ne_true] at q9 ⊢
    exact again I9 q9
   | true=>
    rw [if_pos rfl] at q9 ⊢
    have hew:=heX _ s9 σ8 H9 _ I9 q9
    rw [ex] at hew
    refine thn hew fun xv s10 ⟨v,H10,I10,r10,ys,hys,hlen,n10⟩=>?_
    have hap:=mt_append (X:=Xc) _ s10 σ8 H10 (.ref s2.heap.objs.size) [v] (.ref s2.heap.objs.size) [xv] (fun _ H11=>N σ8 H11) I10 rfl (.cons r10 .nil) ⟨_,ys,v,rfl,rfl,hys,hlen,n10⟩
    rw [ex] at hap
    exact thn hap fun _ s11 ⟨_,H11,I11,_,n11⟩=>again I11 n11
 exact codeAny_compStart_list (loop _ rfl) (T.self _ 0 _ _ _ st4 (loop _ rfl))
theorem free_cells {pins:List (Addr × Obj)} {σ:St} {H:Hp} {s:Shared} (S:CompScope X scope Nc fr k) (I:Inv X pins σ H s):∀ x ∈ scope.names,x.2=.free→(X.env.cells.lookup x.1).isSome=true:=fun x hx hf=>by
 obtain ⟨c,e⟩:=I.ok.has x.1 (S.frees x hx hf)
 rw [e];rfl
theorem pe_comp (hc:X.calm=true) (S:CompScope X scope Nc fr k) (hi:PI X tg iter wi) (hg:∀ C fp pins s H,PG (X.comp scope Nc C fp pins s H) tg g) (ht:∀ C fp pins s H,PCs (X.comp scope Nc C fp pins s H) ifs tc) (he:∀ C fp pins s H,PE (X.comp scope Nc C fp pins s H) elt te)
  (hs:∀ x,foldedSetIterable iter X.env x=pure x:=by intro _;rfl):PE X (.ListComp elt [⟨tg,iter,ifs,0⟩] scope pos) (fun σ H Q=>tCompL fr k wi g tc te Q σ H):=by
 intro pins s σ H Q I h
 rw [eval_ListComp]
 refine wpAny_comprehension_free (use:=none) (cl:=clOf X.env.cells scope.names []) rfl hs (closure_of (free_cells S I)) S.kind S.names ?_
 refine thn (hi pins s σ H _ I h) fun xv s1 h1=>thn h1 fun itv s2 h2=>?_
 obtain ⟨it,fp,tn,J,H2,e,I2,T,st2,f2,h⟩:=h2
 subst e
 refine comp_block (RR:=fun acc C=>compPost (model X.prog X.w) X.A X.xe none (EP X pins σ Q) acc C) hc S hg ht he I2 T st2 f2 h ?_
 intro D C H' s' s3 H3 m' I3 hC I' hn hns q
 exact ⟨m',hns,fun h' sb=>⟨.ref D,H',comp_letgo I3 hC I' hn sb,rfl,q⟩⟩
theorem ps_setComp {i:Nat} {y:Str} {py spos:Pos} (hc:X.calm=true) (hN:X.N.Nodup) (hiy:X.N[i]?=some y) (hy:Loc X.env.scope y) (hfy:X.fn y=true ∨ X.env.scope.names.lookup y=some .local)
  (S:CompScope X scope Nc fr k) (hi:PI X tg iter wi) (hg:∀ C fp pins s H,PG (X.comp scope Nc C fp pins s H) tg g) (ht:∀ C fp pins s H,PCs (X.comp scope Nc C fp pins s H) ifs tc) (he:∀ C fp pins s H,PE (X.comp scope Nc C fp pins s H) elt te)
  (hsw:swapsWith (.ListComp elt [⟨tg,iter,ifs,0⟩] scope pos) (some (.Name y py)) spos.line X.env=pure true)
  (hs:∀ x,foldedSetIterable iter X.env x=pure x:=by intro _;rfl):PS X (.Assign [.Name y py] (.ListComp elt [⟨tg,iter,ifs,0⟩] scope pos) spos) (fun D σ H=>tCompL fr k wi g tc te (fun v H'=>D.nx (σ.set i (some v)) H') σ H):=by
 intro pins s σ H D I h
 rw [exec_Assign_Name_used _ _ _ _ hsw]
 refine wpAny_bind (wpAny_standAt (wpAny_bind ?_))
 show wpAny _ X.A (do let _ ← comprehension (.ListComp elt [⟨tg,iter,ifs,0⟩] scope pos) scope X.env _ (newList []) false (eval iter X.env) (some (assign (.Name y py) X.env))) _ _ s
 refine wpAny_bind (wpAny_mono (wpAny_comprehension_free (use:=some (assign (.Name y py) X.env)) (cl:=clOf X.env.cells scope.names []) (Q:=fun _ s'=>SP X pins D .next s') rfl hs (closure_of (free_cells S I)) S.kind S.names ?_) (fun _ s' hq=>wpAny_pure (wpAny_pure hq)) fun _ _ e=>e)
 refine thn (hi pins s σ H _ I h) fun xv s1 h1=>thn h1 fun itv s2 h2=>?_
 obtain ⟨it,fp,tn,J,H2,e,I2,T,st2,f2,h⟩:=h2
 subst e
 refine comp_block (RR:=fun acc C=>compPost (model X.prog X.w) X.A X.xe (some (assign (.Name y py) X.env)) (fun _ s'=>SP X pins D .next s') acc C) (fin:=fun v H'=>D.nx (σ.set i (some v)) H') hc S hg ht he I2 T st2 f2 h ?_
 intro D' C H' s' s3 H3 m' I3 hC I' hn hns q
 show wpAny _ X.A (assign (.Name y py) X.env (.ref D')) _ _ s'
 obtain ⟨oC,es,ep,hoC,hdC,hrest⟩:=id hns
 have neL:C ≠ X.env.locals:=fun z=>absurd (Nat.lt_of_lt_of_le I3.lt hC) (by rw [z];exact Nat.lt_irrefl _)
 have nfs:C ∉ X.fs:=I3.nofs hC
 have I'':Inv X (pins++[(C,oC)]) σ H' s':=I'.pins_of fun p hp=>by
  rcases List.mem_append.mp hp with z | z
  ·exact I'.pin p (List.mem_append_right _ z)
  ·have e:p=(C,oC):=by simpa using z
   subst e
   exact ⟨hoC,hn,neL,nfs,fun v z=>by rw [hdC] at z;cases z⟩
 refine wpAny_assign_Name (store_ok I'' hN hiy hy (v:=.ref D') rfl (fun s'' J''=>?_) hfy)
 obtain ⟨p1,p2,_⟩:=J''.pin (C,oC) (by simp)
 refine ⟨m',⟨oC,es,ep,p1,hdC,hrest⟩,fun h' sb=>⟨_,H',comp_letgo I3 hC J''.unpinned p2 sb,q⟩⟩
end
end L2
set_option Elab.async false
set_option linter.all false
set_option maxRecDepth 100000
set_option maxHeartbeats 4000000
namespace PySem
section
variable {prog:Program} {w:World} {A:Around} {E:Value→Shared→Prop} {s:Shared}
theorem wpAny_nextOf_tuple_item {it l:Addr} {i:Nat} {items} {x:Value} {Q:Value→Shared→Prop} (hit:s.heap.IsTupleIter it l i)
  (hl:s.heap.IsTuple l items) (hx:items[i]?=some x)
  (hQ:∀ h',h'.IsTupleIter it l (i + 1)→Heap.SameBut it s.heap h'→Q x { s with heap:=h' }) :
  wpAny (model prog w) A (Builtin.SmallTypes.nextOf (.ref it)) Q E s:=by
 obtain ⟨o,ho,hc,hd⟩:=id hit
 obtain ⟨ol,hol,_,nl,hdl⟩:=hl
 unfold Builtin.SmallTypes.nextOf
 refine wpAny_bind (wpAny_callSpecial?_slot (name:=Str.ofString "__next__") hit.typeIs F.slot_tuple_iterator_next
  (wpAny_call_entry F.slot_tuple_iterator_next hit.typeIs F.entry_tuple_iterator_next ?_ (F.args_tuple_iterator_next_1 _)))
 show wpAny _ _ (field (.ref it) 0 >>= _) _ _ s
 refine wpAny_bind (wpAny_field ho hd (x:=.ref l) rfl ?_)
 show wpAny _ _ (if (Value.ref l == Value.none)=true then _ else _) _ _ s
 rw [if_neg (show ¬ ((Value.ref l == Value.none)=true) from Bool.false_ne_true)]
 show wpAny _ _ (field (.ref it) 1 >>= _) _ _ s
 refine wpAny_bind (wpAny_field ho hd (x:=.int i 0) rfl ?_)
 show wpAny _ _ (seqItems? (.ref l) >>= _) _ _ s
 refine wpAny_bind (wpAny_seqItems hol hdl ?_)
 simp only [Int.toNat_natCast,hx]
 refine wpAny_bind (wpAny_setField ho hd (by simp) (wpAny_pure ⟨x,rfl,wpAny_pure (hQ _ ?_ (Heap.SameBut.update ..))⟩))
 exact ⟨_,Heap.get?_update_self _ ho (Obj.isFreed_of_fields (Obj.data_mapFields hd _)),(Obj.cls_mapFields ..).trans hc,by
  rw [Obj.data_mapFields hd];simp [rawInt]⟩
theorem wpAny_nextOf_tuple_end {it l:Addr} {i:Nat} {items} {Q:Value→Shared→Prop} (hh:A.handled=none)
  (hit:s.heap.IsTupleIter it l i) (hl:s.heap.IsTuple l items) (hx:items[i]?=none)
  (hE:∀ h' e,Heap.ExtBut it s.heap h'→(∃ o,h'.get? e=some o∧o.cls=.type "StopIteration")→E (.ref e) { s with heap:=h' }) :
  wpAny (model prog w) A (Builtin.SmallTypes.nextOf (.ref it)) Q E s:=by
 obtain ⟨o,ho,hc,hd⟩:=id hit
 obtain ⟨ol,hol,_,nl,hdl⟩:=hl
 unfold Builtin.SmallTypes.nextOf
 refine wpAny_bind (wpAny_callSpecial?_slot (name:=Str.ofString "__next__") hit.typeIs F.slot_tuple_iterator_next
  (wpAny_call_entry F.slot_tuple_iterator_next hit.typeIs F.entry_tuple_iterator_next ?_ (F.args_tuple_iterator_next_1 _)))
 show wpAny _ _ (field (.ref it) 0 >>= _) _ _ s
 refine wpAny_bind (wpAny_field ho hd (x:=.ref l) rfl ?_)
 show wpAny _ _ (if (Value.ref l == Value.none)=true then _ else _) _ _ s
 rw [if_neg (show ¬ ((Value.ref l == Value.none)=true) from Bool.false_ne_true)]
 show wpAny _ _ (field (.ref it) 1 >>= _) _ _ s
 refine wpAny_bind (wpAny_field ho hd (x:=.int i 0) rfl ?_)
 show wpAny _ _ (seqItems? (.ref l) >>= _) _ _ s
 refine wpAny_bind (wpAny_seqItems hol hdl ?_)
 simp only [Int.toNat_natCast,hx]
 refine wpAny_bind (wpAny_rule (wpAny_bind (wpAny_setField ho hd (by simp) ?_)))
 show wpAny _ _ (newExc (.type "StopIteration") [] >>= _) _ _ _
 refine wpAny_bind ?_
 simp only [newExc,newTuple]
 refine wpAny_bind (wpAny_newObj_type ?_ (by size_fits))
 refine wpAny_bind (m:=firstArgMember _ _) (wpAny_of_eq (a:=Value.none) (by first | rfl | (simp only [firstArgMember];rfl)) ?_)
 refine wpAny_newObj_type ?_ (by size_fits)
 simp only [raiseNew]
 refine wpAny_bind (wpAny_handled ?_)
 first | rw [show A.in1.handled=none from hh] | rw [hh]
 refine wpAny_bind (wpAny_pure (wpAny_throw ?_))
 exact hE _ _ (((Heap.SameBut.update ..).extBut.push _).push _) ⟨_,Heap.get?_push_size _ rfl,rfl⟩
end
theorem Draws.tuple {prog:Program} {w:World} {A:Around} (hh:A.handled=none) (it l:Addr) (hne:l ≠ it) (items:Array Value) :
  Draws prog w A it [it,l] items.size (fun i v=>items[i]?=some v) (fun i h=>h.IsTupleIter it l i∧h.IsTuple l items) where
 live:=fun _ _ st=>let ⟨o,ho,_⟩:=st.1;⟨o,ho⟩
 frame:=fun _ _ _ st hk=>⟨st.1.at fun o e=>hk it (by simp) o e,let ⟨o,ho,r⟩:=st.2;⟨o,hk l (by simp) o ho,r⟩⟩
 item:=fun i s Q E hi st hQ=>by
  refine wpAny_nextOf_tuple_item st.1 st.2 (x:=items[i]) (by simp [hi]) fun h' hit' hs'=>?_
  exact hQ _ h' s.toks (by simp [hi]) ⟨hit',st.2.extBut hs'.extBut hne⟩ hs'
 done:=fun s Q E st hE=>wpAny_nextOf_tuple_end hh st.1 st.2 (by simp) hE
open AutoSeq1 (wpAny_loadPart') in
theorem meets_enumerate_newT (l:Addr) (items:Array Value) (n:Nat) (dct:Option Addr) (sl:Array (Option Value)) :
  Meets (Builtin.«enumerate.__new__» ⟨[.type "enumerate",.ref l],[]⟩) (fun _ R s=>s.heap.get? l=some { cls:=.type "tuple",dict:=dct,data:=.seq items n,slots:=sl } ∧
   R (.ok (.ret (.ref (s.heap.push { cls:=.type "tuple_iterator",data:=.fields #[.ref l,.int 0 0] }).objs.size)))
    { s with heap:=(s.heap.push { cls:=.type "tuple_iterator",data:=.fields #[.ref l,.int 0 0] }).push { cls:=.type "enumerate",data:=.fields #[.none,.bool false,.ref s.heap.objs.size,rawInt 0,.none,.none] } }):=
 .of_wp fun prog w A R s h=>by
  obtain ⟨hp,g,d,tk,os⟩:=s;obtain ⟨hl,h⟩:=h
  have hsub:=sub_enumerate
  have hL:Heap.IsTuple (Shared.heap ⟨hp,g,d,tk,os⟩) l items:=⟨_,hl,rfl,n,rfl⟩
  wp_walk using wpAny_loadPart' hl
  refine wpAny_stack_any fun st=>wpAny_pure ?_
  split
  ·rename_i c _ _ _ _ _
   cases (c == Value.type "enumerate")
   ·wp_walk using wpAny_loadPart' hl,wpAny_pyIter_tuple hL
    exact ⟨_,rfl,h⟩
   ·wp_walk using wpAny_loadPart' hl,wpAny_pyIter_tuple hL
    exact ⟨_,rfl,h⟩
  ·wp_walk using wpAny_loadPart' hl,wpAny_pyIter_tuple hL
   exact ⟨_,rfl,h⟩
end PySem
set_option Elab.async false
set_option linter.all false
set_option maxRecDepth 100000
set_option maxHeartbeats 4000000
namespace PySem
section
variable {prog:Program} {w:World} {A:Around} {E:Value→Shared→Prop} {s:Shared}
theorem call_enumerate_tuple {l:Addr} {items:Array Value} {Q:Value→Shared→Prop} (hL:s.heap.IsTuple l items)
  (h:∀ h',IsEnum h' (s.heap.objs.size + 1) s.heap.objs.size 0 .none→h'.IsTupleIter s.heap.objs.size l 0→h'.objs.size=s.heap.objs.size + 2 →
   (∀ b o,s.heap.get? b=some o→h'.get? b=some o)→Q (.ref (s.heap.objs.size + 1)) { s with heap:=h' }) :
  wpAny (model prog w) A (call (.type "enumerate") [.ref l]) Q E s:=by
 obtain ⟨⟨c,dct,dt,sl⟩,hl,hc,n,hd⟩:=hL
 replace hc:c=.type "tuple":=hc
 replace hd:dt=.seq items n:=hd
 subst hc hd
 refine callType_new F.called_enumerate (by decide) (F.typeCall_enumerate_1 _) (F.newCall_enumerate_1 _) (fun obj=>F.args_object_init_2 obj _) F.entry_enumerate_new
  (meets_enumerate_newT l items n dct sl) ⟨hl,?_⟩
 have hz:(s.heap.push { cls:=.type "tuple_iterator",data:=.fields #[.ref l,.int 0 0] }).objs.size=s.heap.objs.size + 1:=Heap.size_push ..
 show _∧_
 rw [hz]
 have he:IsEnum ((s.heap.push { cls:=.type "tuple_iterator",data:=.fields #[.ref l,.int 0 0] }).push
   { cls:=.type "enumerate",data:=.fields #[.none,.bool false,.ref s.heap.objs.size,rawInt 0,.none,.none] }) (s.heap.objs.size + 1) s.heap.objs.size 0 .none:=by
  have:=Heap.get?_push_size (s.heap.push { cls:=.type "tuple_iterator",data:=.fields #[.ref l,.int 0 0] })
   (o:={ cls:=.type "enumerate",data:=.fields #[.none,.bool false,.ref s.heap.objs.size,rawInt 0,.none,.none] }) rfl
  rw [hz] at this;exact this
 refine ⟨⟨_,he,rfl⟩,h _ he ⟨_,Heap.get?_push_of_some _ (Heap.get?_push_size _ rfl),rfl,rfl⟩ (by rw [Heap.size_push,hz]) fun b o x=>Heap.get?_push_of_some _ (Heap.get?_push_of_some _ x)⟩
end
end PySem
namespace L2
open PySem PySem.Spec PyProof.Rows
section
variable {X:Cx} {pins:List (Addr × Obj)} {σ:St} {H:Hp} {s:Shared} {h':Heap}
theorem Inv.turnedNew {t':Nat} {ch:List Addr} {o:HO} (I:Inv X pins σ H s) (hch:∀ b ∈ ch,FpOk X pins H b) (k:∀ b u,b ∉ ch→s.heap.get? b=some u→h'.get? b=some u) (ex:∀ b ∈ ch,∃ u,h'.get? b=some u)
  (new:ObjOk X.prog X.w (upd H s.heap.objs.size o) h' s.heap.objs.size o):Inv X pins σ (upd H s.heap.objs.size o) { s with heap:=h',toks:=t' }:=by
 have hT:H s.heap.objs.size=none:=I.hok.fresh (Nat.le_refl _)
 have neT:∀ b u,s.heap.get? b=some u→b ≠ s.heap.objs.size:=fun b u e=>Nat.ne_of_lt (Heap.lt_size e)
 have nch:∀ b u,H b=some u→b ∉ ch:=fun b u e z=>by rw [(hch b z).1] at e;cases e
 refine I.step (g':=s.gens) (d':=s.drawn) (ch:=ch) (fun b hb=>?_) (fun b u _ _ hc e _=>k b u hc e) (fun b u _ _ hc e _=>⟨u.slots,k b u hc e⟩) (fun b u _ e n=>by rw [upd_ne (neT b u e)];exact n)
  (fun b u hc e=>⟨u,k b u hc e⟩) (fun b xs e=>by rw [upd_ne (ne_of_none e hT)];exact e) (fun b u v e=>by rw [upd_ne (ne_of_none e hT)];exact e) (fun b ps e=>⟨#[],by rw [upd_ne (ne_of_none e hT),e];simp⟩) (fun m hm=>?_) (fun b u e=>?_) I.bare
 ·obtain ⟨h0,h1,h2,h3,h4,h5⟩:=hch b hb
  exact ⟨h3,h1,h4,h5⟩
 ·obtain ⟨ob,es,ep,ho,r⟩:=hm
  exact ⟨ob,es,ep,k _ ob (fun z=>(hch _ z).2.1 rfl) ho,r⟩
 ·by_cases hb:b=s.heap.objs.size
  ·subst hb
   rw [upd_same] at e
   cases e
   exact new
  ·rw [upd_ne hb] at e
   refine (I.hok b u e).stay (fun c v hc q=>k c v ?_ q) (fun c q=>by rw [upd_ne (ne_of_none q hT)];exact q) fun c xs q=>by rw [upd_ne (ne_of_none q hT)];exact q
   rcases hc with z | z
   ·rw [z];exact nch b u e
   ·exact nch c _ z
theorem Inv.turnedAll {t':Nat} {ch:List Addr} (I:Inv X pins σ H s) (hch:∀ b ∈ ch,FpOk X pins H b) (k:∀ b u,b ∉ ch→s.heap.get? b=some u→h'.get? b=some u):Inv X pins σ H { s with heap:=h',toks:=t' }:=by
 have nch:∀ b u,H b=some u→b ∉ ch:=fun b u e z=>by rw [(hch b z).1] at e;cases e
 refine I.step (g':=s.gens) (d':=s.drawn) (ch:=ch) (fun b hb=>?_) (fun b u _ _ hc e _=>k b u hc e) (fun b u _ _ hc e _=>⟨u.slots,k b u hc e⟩) (fun b u _ e n=>n)
  (fun b u hc e=>⟨u,k b u hc e⟩) (fun b xs e=>e) (fun b u v e=>e) (fun b ps e=>⟨#[],by rw [e];simp⟩) (fun m hm=>?_) (fun b u e=>?_) I.bare
 ·obtain ⟨h0,h1,h2,h3,h4,h5⟩:=hch b hb
  exact ⟨h3,h1,h4,h5⟩
 ·obtain ⟨ob,es,ep,ho,r⟩:=hm
  exact ⟨ob,es,ep,k _ ob (fun z=>(hch _ z).2.1 rfl) ho,r⟩
 ·refine (I.hok b u e).stay (fun c v hc q=>k c v ?_ q) (fun c q=>q) fun c xs q=>q
  rcases hc with z | z
  ·rw [z];exact nch b u e
  ·exact nch c _ z
end
noncomputable def Ite (K:PySem.W.Frag) (sq:Hp→List V→Prop):It:=
 ⟨fun i H=>∃ xs x,sq H xs∧xs[i]?=some x,fun i H x H'=>∃ t v,H t=none∧x=.ref t∧H'=upd H t (.tup [.int i,v])∧∀ xs,sq H xs→xs[i]?=some v,fun i H=>∃ xs,sq H xs∧xs.length=i⟩
theorem turn_enum {P:Program} {w:World} {K:PySem.W.Frag} {elts:List Expr} {k0:Nat} {tp:Pos} {sq:Hp→List V→Prop} {e it:Addr} {pit:Nat→Heap→Prop} {bad:Addr→Prop}
  (hei:e ≠ it) (iobj:∀ i h,pit i h→∃ o,h.get? it=some o∧∀ v,o.data ≠ .cell v) (ikeep:∀ i h h',pit i h→(∀ o,h.get? it=some o→h'.get? it=some o)→pit i h')
  (dr:∀ (X:Cx),X.prog=P→X.w=w→X.K=K→X.calm=true→∀ (i:Nat) (pins:List (Addr × Obj)) (s:Shared) (σ:St) (H:Hp) (xs:List V),Inv X pins σ H s→FpOk X pins H e→FpOk X pins H it→pit i s.heap→(∃ old,IsEnum s.heap e it i old)→sq H xs →
   ∃ (its:List Value) (fp:List Addr) (Pv:Nat→Value→Prop) (St:Nat→Heap→Prop),Vals xs its∧xs.length≤sizeLine∧Draws P w X.A.in1 it fp its.length Pv St∧e ∉ fp∧St i s.heap∧(∀ j v,Pv j v→its[j]?=some v)∧∀ j h,St j h→pit j h)
  (inj:∀ (X:Cx) (pins:List (Addr × Obj)) (s:Shared) (σ:St) (H:Hp) (xs ys:List V),X.K=K→Inv X pins σ H s→sq H xs→sq H ys→xs=ys) :
  Turn P w K (.Tuple elts k0 tp) (Ite K sq) [e,it] e (fun i h=>(∃ old,IsEnum h e it i old)∧pit i h) where
 mem:=by simp
 obj:=fun i h st b hb=>by
  rcases List.mem_cons.mp hb with z | z
  ·subst z
   obtain ⟨⟨old,he⟩,_⟩:=st
   exact ⟨_,he,fun v z=>by cases z⟩
  ·have z':b=it:=by simpa using z
   subst z'
   exact iobj i h st.2
 keep:=fun i h h' st kk=>by
  obtain ⟨⟨old,he⟩,hp⟩:=st
  exact ⟨⟨old,kk e (by simp) _ he⟩,ikeep i h h' hp fun o q=>kk it (by simp) o q⟩
 item:=by
  intro X hP hw hK hc i pins s σ H E I hf st hg
  obtain ⟨xs,x,hq,hx⟩:=hg
  obtain ⟨its,fp,Pv,St,rv,hz,D,hef,hst,hPv,hSt⟩:=dr X hP hw hK hc i pins s σ H xs I (hf e (by simp)) (hf it (by simp)) st.2 st.1 hq
  obtain ⟨⟨old,he⟩,hp⟩:=st
  have hi:i < its.length:=by
   rw [← rv.length]
   exact (List.getElem?_eq_some_iff.mp hx).1
  refine wpAny_pyNext_enum_itemD D he hst hi hei hef fun y h1 tk hPy ho hst' hT hsz hk=>?_
  obtain ⟨u,hu,ru⟩:=rv.get hx
  have ey:y=u:=by
   have q:=hPv i y hPy
   rw [hu] at q
   exact (Option.some.inj q).symm
  subst ey
  refine ⟨_,rfl,?_⟩
  have hT':H s.heap.objs.size=none:=I.hok.fresh (Nat.le_refl _)
  have elt:e < s.heap.objs.size:=Heap.lt_size he
  refine wpAny_letOwnedTupleGo_enum ho fun h2 he2 hs2=>?_
  have q2:Heap.SameBut e h1 h2:=hs2
  have kk:∀ b u,b ∉ [e,it]→s.heap.get? b=some u→h2.get? b=some u:=fun b u hb q=>by
   have h1':b ≠ e:=fun z=>hb (by simp [z])
   have h2':b ≠ it:=fun z=>hb (by simp [z])
   exact (q2.2 b h1').trans (hk b u h1' h2' q)
  have hT2:h2.get? s.heap.objs.size=some { cls:=.type "tuple",data:=.seq #[.int i tk,y] }:=(q2.2 _ (Nat.ne_of_gt elt)).trans hT
  have pit2:pit (i + 1) h2:=ikeep _ _ _ (hSt _ _ hst') fun o q=>(q2.2 it (Ne.symm hei)).trans q
  have I1:Inv X pins σ (upd H s.heap.objs.size (.tup [.int i,x])) { s with heap:=h2,toks:=tk + 1 }:=by
   refine I.turnedNew (ch:=[e,it]) hf kk (fun b hb=>?_) ?_
   ·rcases List.mem_cons.mp hb with z | z
    ·exact ⟨_,by rw [z];exact he2⟩
    ·have z':b=it:=by simpa using z
     subst z'
     obtain ⟨o,q,_⟩:=iobj _ _ pit2
     exact ⟨o,q⟩
   ·exact ⟨by show 2≤sizeLine;decide,[.int i tk,y],.cons ⟨_,rfl⟩ (.cons ru .nil),⟨_,hT2,rfl,rfl,_,rfl⟩⟩
  refine ⟨.ref s.heap.objs.size,_,I1,rfl,⟨s.heap.objs.size,x,hT',rfl,rfl,fun ys hy=>by rw [inj X pins s σ H ys xs hK I hy hq];exact hx⟩,⟨⟨_,by have:=he2;simpa using this⟩,pit2⟩,fun b hb=>?_⟩
  have nb:b ≠ s.heap.objs.size:=by
   rcases List.mem_cons.mp hb with z | z
   ·rw [z];exact Nat.ne_of_lt elt
   ·have z':b=it:=by simpa using z
    subst z'
    obtain ⟨o,q,_⟩:=iobj _ _ hp
    exact Nat.ne_of_lt (Heap.lt_size q)
  rw [upd_ne nb]
  exact (hf b hb).1
 done:=by
  intro X hP hw hK hc i pins s σ H E I hf st hg
  obtain ⟨xs,hq,hx⟩:=hg
  obtain ⟨its,fp,Pv,St,rv,hz,D,hef,hst,hPv,hSt⟩:=dr X hP hw hK hc i pins s σ H xs I (hf e (by simp)) (hf it (by simp)) st.2 st.1 hq
  obtain ⟨⟨old,he⟩,hp⟩:=st
  have hi:i=its.length:=by rw [← rv.length];exact hx.symm
  rw [hi] at hst
  refine wpAny_pyNext_enum_endD D he hst fun h1 eb=>⟨rfl,?_⟩
  exact I.turnedAll (t':=s.toks) (ch:=[e,it]) hf fun b u hb q=>eb b u (fun z=>hb (by simp [z])) q
 self:=fun A i s Q E st h=>by
  obtain ⟨⟨old,he⟩,_⟩:=st
  exact wpAny_pyIter_enum he h
theorem ne_cls {h:Heap} {a b:Addr} {o u:Obj} (ha:h.get? a=some o) (hb:h.get? b=some u) (d:o.cls ≠ u.cls):a ≠ b:=fun z=>by
 subst z;rw [ha] at hb;cases hb;exact d rfl
section
variable {X:Cx}
theorem boot_enumerate:bootBuiltins "enumerate"=some (.type "enumerate"):=by decide +kernel
theorem boot_reversed:bootBuiltins "reversed"=some (.type "reversed"):=by decide +kernel
theorem enumL_it {elts:List Expr} {k0:Nat} {tp:Pos} {pins:List (Addr × Obj)} {σ:St} {H1:Hp} {s1:Shared} {R:It→Hp→Prop} {l:Addr} {xs:List V} {E:Value→Shared→Prop} (I1:Inv X pins σ H1 s1) (hq:SqL X.K H1 l xs) (q:R (Ite X.K fun H xs=>SqL X.K H l xs) H1) :
  wpAny (model X.prog X.w) X.A (call (.type "enumerate") [.ref l]) (fun v s=>wpAny (model X.prog X.w) X.A (pyIter v) (PIE X pins σ (.Tuple elts k0 tp) R) E s) E s1:=by
 obtain ⟨its,rv,pl,hz⟩:=I1.list hq
 refine call_enumerate_list pl.isList fun h' he hit hsz kk=>wpAny_pyIter_enum he ?_
 have I2:Inv X pins σ H1 { s1 with heap:=h' }:=I1.kept (t':=s1.toks) kk
 have hlt:∀ b ∈ [s1.heap.objs.size + 1,s1.heap.objs.size],s1.heap.objs.size≤b:=fun b hb=>by
  rcases List.mem_cons.mp hb with z | z
  ·rw [z];exact Nat.le_succ _
  ·have z':b=s1.heap.objs.size:=by simpa using z
   rw [z'];exact Nat.le_refl _
 refine ⟨s1.heap.objs.size + 1,[s1.heap.objs.size + 1,s1.heap.objs.size],_,_,H1,rfl,I2,turn_enum (sq:=fun H xs=>SqL X.K H l xs) (pit:=fun i h=>h.IsListIter s1.heap.objs.size l i) (bad:=fun _=>True) (Nat.succ_ne_self _) ?_ ?_ ?_ ?_,⟨⟨_,by simpa using he⟩,hit⟩,fun b hb=>I1.fpOk (hlt b hb) (I1.hok.fresh (hlt b hb)),q⟩
 ·rintro i h ⟨o,ho,hc,hd⟩
  exact ⟨o,ho,fun v z=>by rw [hd] at z;cases z⟩
 ·exact fun i h h' st kk=>st.at kk
 ·intro Y hP hw hK hc i pins s σ H xs I f1 f2 hit he hq
  rw [← hK] at hq
  obtain ⟨its,rv,pl,hz⟩:=I.list hq
  obtain ⟨old,he⟩:=he
  obtain ⟨oi,hoi,hci,hdi⟩:=id hit
  obtain ⟨ol,nl,hol,hcl,hddl,hdl⟩:=id pl
  have n1:l ≠ s1.heap.objs.size:=ne_cls hol hoi (by rw [hcl,hci];decide)
  have n2:s1.heap.objs.size + 1 ≠ l:=ne_cls he hol (by rw [hcl];show Value.type "enumerate" ≠ _;decide)
  refine ⟨its,[s1.heap.objs.size,l],(fun i v=>its.toArray[i]?=some v),(fun i h=>h.IsListIter s1.heap.objs.size l i∧h.IsList l its.toArray),rv,hz,?_,?_,⟨hit,pl.isList⟩,fun j v z=>by simpa using z,fun j h z=>z.1⟩
  ·have D:=Draws.list (prog:=X.prog) (w:=X.w) (A:=Y.A.in1) (by exact I.ok.hd hc) s1.heap.objs.size l n1 its.toArray
   simpa using D
  ·intro z
   rcases List.mem_cons.mp z with z | z
   ·exact Nat.succ_ne_self _ z
   ·exact n2 (by simpa using z)
 ·intro Y pins s σ H xs ys hK I h1 h2
  rw [← hK] at h1 h2
  exact I.list_inj h1 h2
theorem enumT_it {elts:List Expr} {k0:Nat} {tp:Pos} {pins:List (Addr × Obj)} {σ:St} {H1:Hp} {s1:Shared} {R:It→Hp→Prop} {l:Addr} {xs:List V} {E:Value→Shared→Prop} (I1:Inv X pins σ H1 s1) (hq:SqT X.K H1 l xs) (q:R (Ite X.K fun H xs=>SqT X.K H l xs) H1) :
  wpAny (model X.prog X.w) X.A (call (.type "enumerate") [.ref l]) (fun v s=>wpAny (model X.prog X.w) X.A (pyIter v) (PIE X pins σ (.Tuple elts k0 tp) R) E s) E s1:=by
 obtain ⟨its,rv,pl,hz⟩:=I1.tuple hq
 refine call_enumerate_tuple (show s1.heap.IsTuple l its.toArray from pl) fun h' he hit hsz kk=>wpAny_pyIter_enum he ?_
 have I2:Inv X pins σ H1 { s1 with heap:=h' }:=I1.kept (t':=s1.toks) kk
 have hlt:∀ b ∈ [s1.heap.objs.size + 1,s1.heap.objs.size],s1.heap.objs.size≤b:=fun b hb=>by
  rcases List.mem_cons.mp hb with z | z
  ·rw [z];exact Nat.le_succ _
  ·have z':b=s1.heap.objs.size:=by simpa using z
   rw [z'];exact Nat.le_refl _
 refine ⟨s1.heap.objs.size + 1,[s1.heap.objs.size + 1,s1.heap.objs.size],_,_,H1,rfl,I2,turn_enum (sq:=fun H xs=>SqT X.K H l xs) (pit:=fun i h=>h.IsTupleIter s1.heap.objs.size l i) (bad:=fun _=>True) (Nat.succ_ne_self _) ?_ ?_ ?_ ?_,⟨⟨_,by simpa using he⟩,hit⟩,fun b hb=>I1.fpOk (hlt b hb) (I1.hok.fresh (hlt b hb)),q⟩
 ·rintro i h ⟨o,ho,hc,hd⟩
  exact ⟨o,ho,fun v z=>by rw [hd] at z;cases z⟩
 ·exact fun i h h' st kk=>st.at kk
 ·intro Y hP hw hK hc i pins s σ H xs I f1 f2 hit he hq
  rw [← hK] at hq
  obtain ⟨its,rv,pl,hz⟩:=I.tuple hq
  obtain ⟨old,he⟩:=he
  obtain ⟨oi,hoi,hci,hdi⟩:=id hit
  obtain ⟨ol,hol,hcl,nl,hdl⟩:=id pl
  have n1:l ≠ s1.heap.objs.size:=ne_cls hol hoi (by rw [hcl,hci];decide)
  have n2:s1.heap.objs.size + 1 ≠ l:=ne_cls he hol (by rw [hcl];show Value.type "enumerate" ≠ _;decide)
  refine ⟨its,[s1.heap.objs.size,l],(fun i v=>its.toArray[i]?=some v),(fun i h=>h.IsTupleIter s1.heap.objs.size l i∧h.IsTuple l its.toArray),rv,hz,?_,?_,⟨hit,pl⟩,fun j v z=>by simpa using z,fun j h z=>z.1⟩
  ·have D:=Draws.tuple (prog:=X.prog) (w:=X.w) (A:=Y.A.in1) (by exact I.ok.hd hc) s1.heap.objs.size l n1 its.toArray
   simpa using D
  ·intro z
   rcases List.mem_cons.mp z with z | z
   ·exact Nat.succ_ne_self _ z
   ·exact n2 (by simpa using z)
 ·intro Y pins s σ H xs ys hK I h1 h2
  rw [← hK] at h1 h2
  exact I.tuple_inj h1 h2
noncomputable def Itv (K:PySem.W.Frag) (a:Addr) (n:Nat):It:=
 ⟨fun i H=>(∃ xs,SqL K H a xs∧xs.length=n)∧i < n,fun i H x H'=>H'=H∧∀ xs,SqL K H a xs→xs[n - 1 - i]?=some x,fun i H=>(∃ xs,SqL K H a xs∧xs.length=n)∧i=n⟩
theorem turn_rev {P:Program} {w:World} {K:PySem.W.Frag} {tg:Expr} (a it:Addr) (n:Nat):Turn P w K tg (Itv K a n) [it] it (fun i h=>h.IsRevIter it a ((n:Int) - 1 - (i:Int))) where
 mem:=by simp
 obj:=fun i h st b hb=>by
  have e:b=it:=by simpa using hb
  subst e
  obtain ⟨o,e,c,d⟩:=st
  exact ⟨o,e,fun v z=>by rw [d] at z;cases z⟩
 keep:=fun i h h' st k=>st.at fun o e=>k it (by simp) o e
 item:=by
  intro X hP hw hK hc i pins s σ H E I hf st hg
  subst hP hw hK
  obtain ⟨⟨xs,hq,hn⟩,hi⟩:=hg
  subst hn
  obtain ⟨its,rv,p,hz⟩:=I.list hq
  obtain ⟨x,hx⟩:∃ x,xs[xs.length - 1 - i]?=some x:=⟨_,List.getElem?_eq_getElem (by omega)⟩
  obtain ⟨u,hu,ru⟩:=rv.get hx
  obtain ⟨f0,f1,f2,f3,f4,f5⟩:=hf it (by simp)
  have e:(xs.length:Int) - 1 - (i:Int)=((xs.length - 1 - i:Nat):Int):=by omega
  rw [e] at st
  refine wpAny_pyNext_rev_item st p.isList (x:=u) (by simpa using hu) fun h' st' sb=>?_
  have I1:Inv X pins σ H { s with heap:=h' }:=I.turned (t':=s.toks) (fun b o hb e=>(sb.2 b hb).trans e) f0 f1 f3 f4 f5
  obtain ⟨o,e',c,d⟩:=id st'
  have e2:((xs.length - 1 - i:Nat):Int) - 1=(xs.length:Int) - 1 - ((i + 1:Nat):Int):=by omega
  rw [e2] at st'
  exact ⟨u,rfl,go_of (s:={ s with heap:=h' }) e' c d (by decide) ⟨x,H,I1,ru,⟨rfl,fun ys hy=>by rw [I.list_inj hy hq];exact hx⟩,st',fun b hb=>(hf b hb).1⟩⟩
 done:=by
  intro X hP hw hK hc i pins s σ H E I hf st hg
  subst hP hw hK
  obtain ⟨_,hi⟩:=hg
  obtain ⟨f0,f1,f2,f3,f4,f5⟩:=hf it (by simp)
  have e:(n:Int) - 1 - (i:Int)=-1:=by omega
  rw [e] at st
  exact wpAny_pyNext_rev_end (I.ok.hd hc) st fun h' eb=>⟨rfl,I.turned (t':=s.toks) (fun b o hb e=>eb b o hb e) f0 f1 f3 f4 f5⟩
 self:=fun _ _ _ _ _ st h=>wpAny_pyIter_revIter st h
noncomputable def iRevL (K:PySem.W.Frag) (ta:TA):TI:=fun σ H R=>ta σ H fun vs H1=>∃ a xs,vs=[.ref a]∧SqL K H1 a xs∧R (Itv K a xs.length) H1
theorem pi_revL {tg a:Expr} {ta:TA} {p pos:Pos} (hg:Gl X "reversed") (hm:X.mg "reversed"=none) (ha:PA X [a] ta) (hs:starEach [a] X.env=[(false,eval a X.env)]:=by rfl) :
  PI X tg (.Call (.Name "reversed" p) [a] [] pos) (iRevL X.K ta):=by
 intro pins s σ H R I h
 refine Call_ (ld_blt I hg hm boot_reversed (PyProof.Rows.callWith_type1 (thn (ha pos pins s σ H _ I h) fun us s1 ⟨vs,H1,I1,r1,q1⟩=>?_) hs rfl))
 obtain ⟨l,xs,e,hq,q⟩:=q1
 subst e
 obtain ⟨u,rfl,ru⟩:=r1.one
 cases ru
 obtain ⟨its,rv,pl,hz⟩:=I1.list hq
 refine call_reversed_list pl.isList ?_
 have hit:(s1.heap.push (revObj l ((its.toArray.size:Int) - 1))).IsRevIter s1.heap.objs.size l ((xs.length:Int) - 1 - ((0:Nat):Int)):=by
  refine ⟨_,Heap.get?_push_size _ rfl,rfl,?_⟩
  have e:((its.toArray.size:Nat):Int) - 1=(xs.length:Int) - 1 - ((0:Nat):Int):=by rw [List.size_toArray,← rv.length];omega
  rw [e];rfl
 refine wpAny_pyIter_revIter (s:={ s1 with heap:=s1.heap.push (revObj l ((its.toArray.size:Int) - 1)) }) hit ?_
 refine ⟨s1.heap.objs.size,[s1.heap.objs.size],_,_,H1,rfl,I1.kept (t':=s1.toks) fun b o e=>Heap.get?_push_of_some _ e,turn_rev l _ xs.length,hit,fun b hb=>?_,q⟩
 have e:b=s1.heap.objs.size:=by simpa using hb
 subst e
 exact I1.fpOk (Nat.le_refl _) (I1.hok.fresh (Nat.le_refl _))
theorem call_sumL (hc:X.calm=true):CallR X (.builtin "sum") (fun xs H Q=>∃ (p:Addr) (ns:List Int),xs=[.ref p]∧SqL X.K H p (ns.map V.int)∧Q (.int ns.sum) H):=by
 intro pins s σ H xs us Q I r h
 obtain ⟨p,ns,rfl,hq,q⟩:=h
 obtain ⟨u,rfl,ru⟩:=r.one
 cases ru
 obtain ⟨its,rv,pl,hz⟩:=I.list hq
 have hi:IntsAre its ns:=intsAre_of rv
 have hn:=hi.numsOf
 obtain ⟨zs,ez⟩:=hi.allInts.items
 have pl':=pl.isList
 rw [ez] at pl'
 refine PySem.sum_intListG (I.ok.hd hc) pl' fun h' tk t' hk=>?_
 have e2:ns=zs.toList.map (·.1):=by
  rw [← hn,← show its.toArray.toList=its from rfl,ez,nums_intItems]
 rw [preSum_eq,List.take_of_length_le (by simp)]
 exact ⟨.int ns.sum,H,I.kept hk,⟨t',by rw [e2]⟩,q⟩
noncomputable def CDivB (i j:Int):Prop:=0 < j∧j.natAbs.log2 < 9000
theorem op_fdivB:OpR X (binaryOp .FloorDiv) (rI CDivB fun i j=>.int (i / j)):=opI fun i j _ _ _ _ _ hc q=>by
 have h1:(0:Int) < j:=hc.1
 exact floordiv_int (by omega) (by rw [Int.fdiv_eq_ediv_of_nonneg i (by omega)];exact q) (.inl (PyProof.noPylong_of_log2 hc.2))
noncomputable def rCatA (K:PySem.W.Frag):R2:=fun x y H Q=>∃ a b xs ys,x=.ref a∧y=.ref b∧SqT K H a xs∧SqT K H b ys∧xs.length + ys.length≤sizeLine ∧
 (xs=[]→Q (.ref b) H)∧(xs ≠ []→ys=[]→Q (.ref a) H)∧(xs ≠ []→ys ≠ []→∀ p,H p=none→Q (.ref p) (upd H p (.tup (xs++ys))))
theorem op_catA:OpR X (binaryOp .Add) (rCatA X.K):=by
 intro pins s σ H x y v u Q I rx ry h
 obtain ⟨a,b,xs,ys,rfl,rfl,ha,hb,hz,q0,q1,q2⟩:=h
 by_cases hx:xs=[]
 ·subst hx
  cases rx
  cases ry
  obtain ⟨its,r1,p1,_⟩:=I.tuple ha
  obtain ⟨its2,r2,p2,_⟩:=I.tuple hb
  cases r1
  obtain ⟨⟨cls,dd,data,sl⟩,ho,hc,n,hd⟩:=id p1
  obtain ⟨⟨cls2,dd2,data2,sl2⟩,ho2,hc2,n2,hd2⟩:=id p2
  simp only at hc hd hc2 hd2
  subst hc hd hc2 hd2
  exact concat_meets ⟨_,ho,rfl⟩ ⟨_,ho2,rfl⟩ noFill_tuple_add seq_tuple_add PySem.F.slot_tuple_add PySem.F.entry_tuple_add (PySem.F.args_tuple_add_2 _ _)
   (tuple_addW0 a b #[] its2.toArray n n2 dd dd2 sl sl2 (by simp)) ⟨ho,ho2,⟨.ref b,H,I,rfl,q0 rfl⟩⟩
 ·exact op_catT pins s σ H _ _ v u Q I rx ry ⟨a,b,xs,ys,rfl,rfl,ha,hb,hx,hz,q1 hx,q2 hx⟩
end
end L2
set_option Elab.async false
set_option linter.all false
set_option maxRecDepth 100000
set_option maxHeartbeats 4000000
namespace PySem
noncomputable def SqIs (b:Bool) (h:Heap) (l:Addr) (xs:Array Value):Prop:=match b with | true=>h.IsTuple l xs | false=>h.IsList l xs
noncomputable def ItIs (b:Bool) (h:Heap) (it l:Addr) (i:Nat):Prop:=match b with | true=>h.IsTupleIter it l i | false=>h.IsListIter it l i
theorem SqIs.stay {b:Bool} {h h':Heap} {l:Addr} {xs:Array Value} (x:SqIs b h l xs) (k:∀ o,h.get? l=some o→h'.get? l=some o):SqIs b h' l xs:=by
 cases b with
 | true=>obtain ⟨o,ho,r⟩:=x;exact ⟨o,k o ho,r⟩
 | false=>exact Heap.IsList.at x k
theorem ItIs.stay {b:Bool} {h h':Heap} {it l:Addr} {i:Nat} (x:ItIs b h it l i) (k:∀ o,h.get? it=some o→h'.get? it=some o):ItIs b h' it l i:=by
 cases b with
 | true=>obtain ⟨o,ho,r⟩:=x;exact ⟨o,k o ho,r⟩
 | false=>exact Heap.IsListIter.at x k
theorem ItIs.obj {b:Bool} {h:Heap} {it l:Addr} {i:Nat} (x:ItIs b h it l i):∃ o,h.get? it=some o∧∀ v,o.data ≠ .cell v:=by
 cases b with
 | true=>obtain ⟨o,ho,hc,hd⟩:=x;exact ⟨o,ho,fun v z=>by rw [hd] at z;cases z⟩
 | false=>obtain ⟨o,ho,hc,hd⟩:=x;exact ⟨o,ho,fun v z=>by rw [hd] at z;cases z⟩
theorem SqIs.lt {b:Bool} {h:Heap} {l:Addr} {xs:Array Value} (x:SqIs b h l xs):l < h.objs.size:=by
 cases b with
 | true=>obtain ⟨o,ho,_⟩:=x;exact Heap.lt_size ho
 | false=>obtain ⟨o,ho,_⟩:=x;exact Heap.lt_size ho
section
variable {prog:Program} {w:World} {A:Around} {E:Value→Shared→Prop} {s:Shared}
theorem nx_item {b:Bool} {it l:Addr} {i:Nat} {xs:Array Value} {x:Value} {Q:Value→Shared→Prop} (I:ItIs b s.heap it l i) (L:SqIs b s.heap l xs) (hx:xs[i]?=some x)
  (q:∀ h',ItIs b h' it l (i + 1)→Heap.SameBut it s.heap h'→Q x { s with heap:=h' }):wpAny (model prog w) A (Builtin.SmallTypes.nextOf (.ref it)) Q E s:=by
 cases b with
 | true=>exact wpAny_nextOf_tuple_item I L hx q
 | false=>exact wpAny_nextOf_list_item I L hx q
theorem nx_end {b:Bool} {it l:Addr} {i:Nat} {xs:Array Value} {Q:Value→Shared→Prop} (hh:A.handled=none) (I:ItIs b s.heap it l i) (L:SqIs b s.heap l xs) (hx:xs[i]?=none)
  (q:∀ h' e,Heap.ExtBut it s.heap h'→(∃ o,h'.get? e=some o∧o.cls=.type "StopIteration")→E (.ref e) { s with heap:=h' }):wpAny (model prog w) A (Builtin.SmallTypes.nextOf (.ref it)) Q E s:=by
 cases b with
 | true=>exact wpAny_nextOf_tuple_end hh I L hx q
 | false=>exact wpAny_nextOf_list_end hh I L hx q
theorem alive_look {a:Addr} {Q:Option Obj→Shared→Prop} (h:Q (s.heap.get? a) s):wpAny (model prog w) A (loadIfAlive a) Q E s:=fun Γ p _=>by
 unfold loadIfAlive;rw [Sem.wp_loadIfAlive];exact h
noncomputable def ZipO (h:Heap) (z TI TO:Addr) (f:Value) (b:Bool):Prop:=h.get? z=some { cls:=.type "zip",dict:=none,data:=.fields #[f,.bool b,.bool false,.ref TI,.ref TO],slots:=#[] }
theorem pairOf {h h':Heap} {T c:Addr} {x y:Value} (p:IsPair h T x y) (sb:Heap.SameBut c h h') (n:T ≠ c):IsPair h' T x y:=sb.extBut _ _ n p
theorem zs_free {z TI TO i1 i2 l1 l2:Addr} {b1 b2:Bool} {k:Nat} {xs ys:Array Value} {x y a b f:Value} {fb:Bool} {Q:Value→Shared→Prop} (D:ZipApart z TI TO i1 i2 l1 l2) (Z0:ZipO s.heap z TI TO f fb)
  (free:∀ R:Bool→Shared→Prop,R true s→wpAny (model prog w) A (Builtin.SmallTypes.ownedTupleIsFree (.ref z)) R E s) (PI:IsPair s.heap TI (.ref i1) (.ref i2)) (PO:IsPair s.heap TO a b)
  (I1:ItIs b1 s.heap i1 l1 k) (I2:ItIs b2 s.heap i2 l2 k) (L1:SqIs b1 s.heap l1 xs) (L2:SqIs b2 s.heap l2 ys) (hx:xs[k]?=some x) (hy:ys[k]?=some y)
  (q:∀ h',ZipO h' z TI TO (rawInt s.heap.objs.size) false→IsPair h' TO x y→ItIs b1 h' i1 l1 (k + 1)→ItIs b2 h' i2 l2 (k + 1)→IsPair h' s.heap.objs.size x y→h'.objs.size=s.heap.objs.size + 1 →
   (∀ c o,c ≠ z→c ≠ TO→c ≠ i1→c ≠ i2→s.heap.get? c=some o→h'.get? c=some o)→Q (.ref s.heap.objs.size) { s with heap:=h' }) :
  wpAny (model prog w) A (Builtin.«zip.__next__» ⟨[.ref z],[]⟩) (fun fin s'=>∃ v,fin=.done (.ret v)∧Q v s') E s:=by
 show wpAny _ _ (field (.ref z) 2 >>= _) _ _ _
 refine wpAny_bind (wpAny_field Z0 rfl (x:=.bool false) rfl ?_)
 show wpAny _ _ (field (.ref z) 3 >>= _) _ _ _
 refine wpAny_bind (wpAny_field Z0 rfl (x:=.ref TI) rfl ?_)
 refine wpAny_bind (wpAny_seqItems PI rfl ?_)
 show wpAny _ _ (Builtin.SmallTypes.ownedTupleIsFree (.ref z) >>= _) _ _ _
 refine wpAny_bind (free _ ?_)
 simp only [if_true]
 refine wpAny_bind (wpAny_rule (wpAny_bind (wpAny_field Z0 rfl (x:=.ref TO) rfl ?_)))
 refine wpAny_bind (wpAny_setField_rec Z0 (by simp) fun g1 Z1 e1=>?_)
 replace Z1:ZipO g1 z TI TO .ellipsis fb:=Z1
 refine wpAny_bind ?_
 simp only [List.zipIdx_cons,List.zipIdx_nil,List.forIn_cons,List.forIn_nil]
 refine wpAny_bind (wpAny_bind (wpAny_onRaise ?_))
 show wpAny _ _ (Builtin.SmallTypes.nextOf (.ref i1) >>= _) _ _ _
 refine wpAny_bind (nx_item (I1.stay fun o e=>e1.extBut _ _ D.i1z e) (L1.stay fun o e=>e1.extBut _ _ D.l1z e) hx fun g2 J1 e2=>wpAny_pure ?_)
 have P2:IsPair g2 TO a b:=pairOf (pairOf PO e1 D.TOz) e2 D.TOi1
 refine wpAny_bind (wpAny_seqItems P2 rfl (wpAny_bind (wpAny_updateSeq_pair P2 fun g3 P3 e3=>?_)))
 replace P3:IsPair g3 TO x b:=P3
 refine wpAny_bind (wpAny_letGo (wpAny_pure (wpAny_bind (wpAny_bind (wpAny_onRaise ?_)))))
 show wpAny _ _ (Builtin.SmallTypes.nextOf (.ref i2) >>= _) _ _ _
 have up3:∀ c o,c ≠ z→c ≠ i1→c ≠ TO→s.heap.get? c=some o→g3.get? c=some o:=fun c o n1 n2 n3 e=>e3.extBut _ _ n3 (e2.extBut _ _ n2 (e1.extBut _ _ n1 e))
 refine wpAny_bind (nx_item (I2.stay fun o e=>up3 _ _ D.i2z D.i12.symm D.TOi2.symm e) (L2.stay fun o e=>up3 _ _ D.l2z D.l2i1 D.l2TO e) hy fun g4 J2 e4=>wpAny_pure ?_)
 have P4:IsPair g4 TO x b:=pairOf P3 e4 D.TOi2
 refine wpAny_bind (wpAny_seqItems P4 rfl (wpAny_bind (wpAny_updateSeq_pair P4 fun g5 P5 e5=>?_)))
 replace P5:IsPair g5 TO x y:=P5
 refine wpAny_bind (wpAny_letGo (wpAny_pure (wpAny_pure ?_)))
 refine wpAny_bind (wpAny_seqItems P5 rfl (wpAny_bind (wpAny_newTuple ?_)))
 have sz:g5.objs.size=s.heap.objs.size:=by rw [e5.1,e4.1,e3.1,e2.1,e1.1]
 have Z5:ZipO g5 z TI TO .ellipsis fb:=e5.extBut _ _ D.TOz.symm (e4.extBut _ _ D.i2z.symm (e3.extBut _ _ D.TOz.symm (e2.extBut _ _ D.i1z.symm Z1)))
 have up5:∀ c o,c ≠ z→c ≠ TO→c ≠ i1→c ≠ i2→s.heap.get? c=some o→g5.get? c=some o:=fun c o n1 n2 n3 n4 e=>e5.extBut _ _ n2 (e4.extBut _ _ n4 (up3 c o n1 n3 n2 e))
 have J1':ItIs b1 g5 i1 l1 (k + 1):=J1.stay fun o e=>e5.extBut _ _ D.TOi1.symm (e4.extBut _ _ D.i12 (e3.extBut _ _ D.TOi1.symm e))
 have J2':ItIs b2 g5 i2 l2 (k + 1):=J2.stay fun o e=>e5.extBut _ _ D.TOi2.symm e
 have zlt:z < g5.objs.size:=Heap.lt_size Z5
 show wpAny _ _ (Builtin.SmallTypes.ownedTupleHandOut (.ref z) (.ref g5.objs.size) >>= _) _ _ _
 refine wpAny_bind ?_
 unfold Builtin.SmallTypes.ownedTupleHandOut
 have Z6:ZipO (g5.push { cls:=.type "tuple",data:=.seq #[x,y] }) z TI TO .ellipsis fb:=Heap.get?_push_of_some _ Z5
 refine wpAny_bind (wpAny_setField_rec Z6 (by simp) fun g7 Z7 e7=>?_)
 replace Z7:ZipO g7 z TI TO (rawInt g5.objs.size) fb:=Z7
 refine wpAny_setField_rec Z7 (by simp) fun g8 Z8 e8=>?_
 replace Z8:ZipO g8 z TI TO (rawInt g5.objs.size) false:=Z8
 have up8:∀ c o,c ≠ z→g5.get? c=some o→g8.get? c=some o:=fun c o n1 e=>e8.extBut _ _ n1 (e7.extBut _ _ n1 (Heap.get?_push_of_some _ e))
 have T8:IsPair g8 g5.objs.size x y:=e8.extBut _ _ (Nat.ne_of_gt zlt) (e7.extBut _ _ (Nat.ne_of_gt zlt) (Heap.get?_push_size _ rfl))
 have sz8:g8.objs.size=g5.objs.size + 1:=by rw [e8.1,e7.1,Heap.size_push]
 rw [sz] at Z8 T8 sz8
 refine wpAny_pure ⟨_,rfl,?_⟩
 show Q (.ref g5.objs.size) _
 rw [sz]
 exact q g8 Z8 (up8 _ _ D.TOz P5) (J1'.stay fun o e=>up8 _ o D.i1z e) (J2'.stay fun o e=>up8 _ o D.i2z e) T8 sz8 fun c o n1 n2 n3 n4 e=>up8 c o n1 (up5 c o n1 n2 n3 n4 e)
theorem own_none {z TI TO:Addr} {fb:Bool} (Z0:ZipO s.heap z TI TO .none fb) {R:Bool→Shared→Prop} (r:R true s):wpAny (model prog w) A (Builtin.SmallTypes.ownedTupleIsFree (.ref z)) R E s:=by
 unfold Builtin.SmallTypes.ownedTupleIsFree
 exact wpAny_bind (wpAny_field Z0 rfl (x:=.none) rfl (wpAny_pure r))
theorem own_dead {z TI TO a:Addr} {fb:Bool} (Z0:ZipO s.heap z TI TO (rawInt a) fb) (hd:s.heap.get? a=none) {R:Bool→Shared→Prop} (r:R true s):wpAny (model prog w) A (Builtin.SmallTypes.ownedTupleIsFree (.ref z)) R E s:=by
 unfold Builtin.SmallTypes.ownedTupleIsFree
 refine wpAny_bind (wpAny_field Z0 rfl (x:=.int a 0) rfl ?_)
 show wpAny _ _ (loadIfAlive (Int.toNat (a:Int)) >>= _) _ _ _
 rw [Int.toNat_natCast]
 refine wpAny_bind (alive_look ?_)
 rw [hd]
 exact wpAny_pure r
theorem own_busy {z TI TO a:Addr} {fb:Bool} {o:Obj} (Z0:ZipO s.heap z TI TO (rawInt a) fb) (hd:s.heap.get? a=some o) {R:Bool→Shared→Prop} (r:∀ h' fb',ZipO h' z TI TO (rawInt a) fb'→Heap.SameBut z s.heap h'→R false { s with heap:=h' }):wpAny (model prog w) A (Builtin.SmallTypes.ownedTupleIsFree (.ref z)) R E s:=by
 unfold Builtin.SmallTypes.ownedTupleIsFree
 refine wpAny_bind (wpAny_field Z0 rfl (x:=.int a 0) rfl ?_)
 show wpAny _ _ (loadIfAlive (Int.toNat (a:Int)) >>= _) _ _ _
 rw [Int.toNat_natCast]
 refine wpAny_bind (alive_look ?_)
 rw [hd]
 show wpAny _ _ (field (.ref z) 1 >>= _) _ _ _
 refine wpAny_bind (wpAny_field Z0 rfl (x:=.bool fb) rfl ?_)
 cases fb with
 | true=>
  show wpAny _ _ (pure false) _ _ _
  exact wpAny_pure (r s.heap true Z0 ⟨rfl,fun b hb=>rfl⟩)
 | false=>
  show wpAny _ _ (setField (.ref z) 1 (.bool true) >>= fun _=>pure false) _ _ _
  exact wpAny_bind (wpAny_setField_rec Z0 (by simp) fun g1 Z1 e1=>wpAny_pure (r g1 true Z1 e1))
theorem zs_stop {z TI TO i1 i2 l1 l2:Addr} {b1 b2:Bool} {k:Nat} {xs ys:Array Value} {a b f:Value} {fb:Bool} {Q:Fin→Shared→Prop} (hh:A.handled=none) (D:ZipApart z TI TO i1 i2 l1 l2) (Z0:ZipO s.heap z TI TO f fb) (hf:f=.none ∨ ∃ c:Addr,f=rawInt c)
  (PI:IsPair s.heap TI (.ref i1) (.ref i2)) (PO:IsPair s.heap TO a b)
  (I1:ItIs b1 s.heap i1 l1 k) (I2:ItIs b2 s.heap i2 l2 k) (L1:SqIs b1 s.heap l1 xs) (L2:SqIs b2 s.heap l2 ys) (he:xs[k]?=none ∨ ys[k]?=none)
  (q:∀ h' e,(∀ c o,c ≠ z→c ≠ TO→c ≠ i1→c ≠ i2→s.heap.get? c=some o→h'.get? c=some o)→(∃ o,h'.get? e=some o∧o.cls=.type "StopIteration")→E (.ref e) { s with heap:=h' }) :
  wpAny (model prog w) A (Builtin.«zip.__next__» ⟨[.ref z],[]⟩) Q E s:=by
 have free:(∀ R:Bool→Shared→Prop,R true s→wpAny (model prog w) A (Builtin.SmallTypes.ownedTupleIsFree (.ref z)) R E s)→wpAny (model prog w) A (Builtin.«zip.__next__» ⟨[.ref z],[]⟩) Q E s:=fun free=>by
  show wpAny _ _ (field (.ref z) 2 >>= _) _ _ _
  refine wpAny_bind (wpAny_field Z0 rfl (x:=.bool false) rfl ?_)
  show wpAny _ _ (field (.ref z) 3 >>= _) _ _ _
  refine wpAny_bind (wpAny_field Z0 rfl (x:=.ref TI) rfl (wpAny_bind (wpAny_seqItems PI rfl ?_)))
  show wpAny _ _ (Builtin.SmallTypes.ownedTupleIsFree (.ref z) >>= _) _ _ _
  refine wpAny_bind (free _ ?_)
  simp only [if_true]
  refine wpAny_bind (wpAny_rule (wpAny_bind (wpAny_field Z0 rfl (x:=.ref TO) rfl ?_)))
  refine wpAny_bind (wpAny_setField_rec Z0 (by simp) fun g1 Z1 e1=>?_)
  replace Z1:ZipO g1 z TI TO .ellipsis fb:=Z1
  refine wpAny_bind ?_
  simp only [List.zipIdx_cons,List.zipIdx_nil,List.forIn_cons,List.forIn_nil]
  refine wpAny_bind (wpAny_bind (wpAny_onRaise ?_))
  show wpAny _ _ (Builtin.SmallTypes.nextOf (.ref i1) >>= _) _ _ _
  cases hx:xs[k]? with
  | none=>
   refine wpAny_bind (nx_end hh (I1.stay fun o e=>e1.extBut _ _ D.i1z e) (L1.stay fun o e=>e1.extBut _ _ D.l1z e) hx fun g2 e e2 ⟨oe,hoe,hce⟩=>?_)
   have Z2:ZipO g2 z TI TO .ellipsis fb:=e2 _ _ D.i1z.symm Z1
   have nez:e ≠ z:=fun v=>by subst v;rw [Z2] at hoe;cases hoe;simp at hce
   exact wpAny_setField_rec Z2 (by simp) fun g3 _ e3=>q g3 e (fun c o n1 _ n3 _ v=>e3.extBut _ _ n1 (e2 _ _ n3 (e1.extBut _ _ n1 v))) ⟨oe,e3.extBut _ _ nez hoe,hce⟩
  | some x=>
   have hy:ys[k]?=none:=he.elim (fun v=>by rw [hx] at v;cases v) id
   refine wpAny_bind (nx_item (I1.stay fun o e=>e1.extBut _ _ D.i1z e) (L1.stay fun o e=>e1.extBut _ _ D.l1z e) hx fun g2 J1 e2=>wpAny_pure ?_)
   have P2:IsPair g2 TO a b:=pairOf (pairOf PO e1 D.TOz) e2 D.TOi1
   refine wpAny_bind (wpAny_seqItems P2 rfl (wpAny_bind (wpAny_updateSeq_pair P2 fun g3 P3 e3=>?_)))
   refine wpAny_bind (wpAny_letGo (wpAny_pure (wpAny_bind (wpAny_bind (wpAny_onRaise ?_)))))
   show wpAny _ _ (Builtin.SmallTypes.nextOf (.ref i2) >>= _) _ _ _
   have up3:∀ c o,c ≠ z→c ≠ i1→c ≠ TO→s.heap.get? c=some o→g3.get? c=some o:=fun c o n1 n2 n3 e=>e3.extBut _ _ n3 (e2.extBut _ _ n2 (e1.extBut _ _ n1 e))
   refine wpAny_bind (nx_end hh (I2.stay fun o e=>up3 _ _ D.i2z D.i12.symm D.TOi2.symm e) (L2.stay fun o e=>up3 _ _ D.l2z D.l2i1 D.l2TO e) hy fun g4 e e4 ⟨oe,hoe,hce⟩=>?_)
   have Z4:ZipO g4 z TI TO .ellipsis fb:=e4 _ _ D.i2z.symm (e3.extBut _ _ D.TOz.symm (e2.extBut _ _ D.i1z.symm Z1))
   have nez:e ≠ z:=fun v=>by subst v;rw [Z4] at hoe;cases hoe;simp at hce
   exact wpAny_setField_rec Z4 (by simp) fun g5 _ e5=>q g5 e (fun c o n1 n2 n3 n4 v=>e5.extBut _ _ n1 (e4 _ _ n4 (up3 c o n1 n3 n2 v))) ⟨oe,e5.extBut _ _ nez hoe,hce⟩
 rcases hf with rfl | ⟨c,rfl⟩
 ·exact free fun R r=>own_none Z0 r
 ·cases hd:s.heap.get? c with
  | none=>exact free fun R r=>own_dead Z0 hd r
  | some o=>
   show wpAny _ _ (field (.ref z) 2 >>= _) _ _ _
   refine wpAny_bind (wpAny_field Z0 rfl (x:=.bool false) rfl ?_)
   show wpAny _ _ (field (.ref z) 3 >>= _) _ _ _
   refine wpAny_bind (wpAny_field Z0 rfl (x:=.ref TI) rfl (wpAny_bind (wpAny_seqItems PI rfl ?_)))
   show wpAny _ _ (Builtin.SmallTypes.ownedTupleIsFree (.ref z) >>= _) _ _ _
   refine wpAny_bind (own_busy Z0 hd fun g1 fb' Z1 e1=>?_)
   simp only [Bool.false_eq_true,if_false]
   refine wpAny_bind ?_
   simp only [List.forIn_toArray,List.forIn_cons,List.forIn_nil]
   refine wpAny_bind (wpAny_bind (wpAny_holding ?_))
   show wpAny _ _ (Builtin.SmallTypes.nextOf (.ref i1) >>= _) _ _ _
   cases hx:xs[k]? with
   | none=>
    exact wpAny_bind (nx_end hh (I1.stay fun o e=>e1.extBut _ _ D.i1z e) (L1.stay fun o e=>e1.extBut _ _ D.l1z e) hx fun g2 e e2 v=>q g2 e (fun c o n1 _ n3 _ w=>e2 _ _ n3 (e1.extBut _ _ n1 w)) v)
   | some x=>
    have hy:ys[k]?=none:=he.elim (fun v=>by rw [hx] at v;cases v) id
    refine wpAny_bind (nx_item (I1.stay fun o e=>e1.extBut _ _ D.i1z e) (L1.stay fun o e=>e1.extBut _ _ D.l1z e) hx fun g2 J1 e2=>wpAny_pure (wpAny_pure ?_))
    refine wpAny_bind (wpAny_bind (wpAny_holding ?_))
    show wpAny _ _ (Builtin.SmallTypes.nextOf (.ref i2) >>= _) _ _ _
    have up2:∀ c o,c ≠ z→c ≠ i1→s.heap.get? c=some o→g2.get? c=some o:=fun c o n1 n2 e=>e2.extBut _ _ n2 (e1.extBut _ _ n1 e)
    exact wpAny_bind (nx_end hh (I2.stay fun o e=>up2 _ _ D.i2z D.i12.symm e) (L2.stay fun o e=>up2 _ _ D.l2z D.l2i1 e) hy fun g4 e e4 v=>q g4 e (fun c o n1 _ n3 n4 w=>e4 _ _ n4 (up2 c o n1 n3 w)) v)
noncomputable def ZAt (b1 b2:Bool) (z TI TO i1 i2 l1 l2:Addr) (k:Nat) (h:Heap):Prop:=(∃ f fb,ZipO h z TI TO f fb∧(f=.none ∨ ∃ c:Addr,f=rawInt c))∧IsPair h TI (.ref i1) (.ref i2)∧(∃ a b,IsPair h TO a b)∧ItIs b1 h i1 l1 k∧ItIs b2 h i2 l2 k
theorem ZAt.type {b1 b2:Bool} {z TI TO i1 i2 l1 l2:Addr} {k:Nat} (Z:ZAt b1 b2 z TI TO i1 i2 l1 l2 k s.heap):s.TypeIs (.ref z) "zip":=by
 obtain ⟨⟨f,fb,Z0,hf⟩,_⟩:=Z
 exact ⟨_,Z0,rfl⟩
theorem zn_stop {b1 b2:Bool} {z TI TO i1 i2 l1 l2:Addr} {k:Nat} {xs ys:Array Value} {Q:Option Value→Shared→Prop} (hh:A.handled=none) (D:ZipApart z TI TO i1 i2 l1 l2) (Z:ZAt b1 b2 z TI TO i1 i2 l1 l2 k s.heap) (L1:SqIs b1 s.heap l1 xs) (L2:SqIs b2 s.heap l2 ys) (he:xs[k]?=none ∨ ys[k]?=none)
  (q:∀ h',(∀ c o,c ≠ z→c ≠ TO→c ≠ i1→c ≠ i2→s.heap.get? c=some o→h'.get? c=some o)→Q none { s with heap:=h' }):wpAny (model prog w) A (pyNext (.ref z)) Q E s:=by
 have ty:=Z.type
 obtain ⟨⟨f,fb,Z0,hf⟩,PI,⟨a,b,PO⟩,I1,I2⟩:=Z
 unfold pyNext
 refine wpAny_bind (wpAny_attempt (wpAny_callSpecial?_slot (name:=Str.ofString "__next__") ty F.slot_zip_next (wpAny_call_entry F.slot_zip_next ty F.entry_zip_next ?_ (F.args_zip_next_1 _))))
 refine zs_stop hh D Z0 hf PI PO I1 I2 L1 L2 he fun h' e up ⟨o,ho,hc⟩=>?_
 exact wpAny_bind (wpAny_isInstance (T:="StopIteration") (b:=true) ⟨o,ho,hc⟩ isSubtype_stop (wpAny_pure (q _ up)))
theorem zn_iter {b1 b2:Bool} {z TI TO i1 i2 l1 l2:Addr} {k:Nat} {Q:Value→Shared→Prop} (Z:ZAt b1 b2 z TI TO i1 i2 l1 l2 k s.heap) (h:Q (.ref z) s):wpAny (model prog w) A (pyIter (.ref z)) Q E s:=by
 have ty:=Z.type
 refine wpAny_pyIter_slot ty F.slot_zip_iter (wpAny_call_entry F.slot_zip_iter ty F.entry_zip_iter ?_ (F.args_zip_iter_1 _))
 exact wpAny_pure ⟨_,rfl,"zip",_,ty,F.slot_zip_next.lookup,h⟩
noncomputable def itO (b:Bool) (l:Addr):Obj:={ cls:=.type (if b then "tuple_iterator" else "list_iterator"),data:=.fields #[.ref l,.int 0 0] }
theorem iter_sq {b:Bool} {l:Addr} {xs:Array Value} {Q:Value→Shared→Prop} (L:SqIs b s.heap l xs) (q:Q (.ref s.heap.objs.size) { s with heap:=s.heap.push (itO b l) }):wpAny (model prog w) A (pyIter (.ref l)) Q E s:=by
 cases b with
 | true=>exact wpAny_pyIter_tuple L q
 | false=>exact wpAny_pyIter_list L q
theorem itO_is {b:Bool} {l:Addr} {h:Heap} {it:Addr} (e:h.get? it=some (itO b l)):ItIs b h it l 0:=by
 cases b with
 | true=>exact ⟨_,e,rfl,rfl⟩
 | false=>exact ⟨_,e,rfl,rfl⟩
noncomputable abbrev zg1 (h:Heap) (b1:Bool) (l1:Addr):Heap:=h.push (itO b1 l1)
noncomputable abbrev zg2 (h:Heap) (b1 b2:Bool) (l1 l2:Addr):Heap:=(zg1 h b1 l1).push (itO b2 l2)
noncomputable abbrev zg3 (h:Heap) (b1 b2:Bool) (l1 l2:Addr):Heap:=(zg2 h b1 b2 l1 l2).push { cls:=.type "tuple",data:=.seq #[.ref h.objs.size,.ref (zg1 h b1 l1).objs.size] }
noncomputable abbrev zg4 (h:Heap) (b1 b2:Bool) (l1 l2:Addr):Heap:=(zg3 h b1 b2 l1 l2).push { cls:=.type "tuple",data:=.seq #[.none,.none] }
noncomputable abbrev zg5 (h:Heap) (b1 b2:Bool) (l1 l2:Addr):Heap:=(zg4 h b1 b2 l1 l2).push { cls:=.type "zip",data:=.fields #[.none,.bool false,.bool false,.ref (zg2 h b1 b2 l1 l2).objs.size,.ref (zg3 h b1 b2 l1 l2).objs.size] }
end
theorem meets_zipS (b1 b2:Bool) (l1 l2:Addr) (xs ys:Array Value) :
  Meets (Builtin.«zip.__new__» ⟨[.type "zip",.ref l1,.ref l2],[]⟩) (fun _ R s=>SqIs b1 s.heap l1 xs∧SqIs b2 s.heap l2 ys∧R (.ok (.ret (.ref (zg4 s.heap b1 b2 l1 l2).objs.size))) { s with heap:=zg5 s.heap b1 b2 l1 l2 }):=
 .of_wp fun prog w A R s h=>by
  obtain ⟨hp,g,d,tk,os⟩:=s;obtain ⟨L1,L2,h⟩:=h
  have hsub:=sub_zip
  have M1:SqIs b1 (Shared.heap ⟨hp,g,d,tk,os⟩) l1 xs:=L1
  have M2:SqIs b2 (Shared.heap ⟨hp.push (itO b1 l1),g,d,tk,os⟩) l2 ys:=SqIs.stay L2 fun o e=>Heap.get?_push_of_some _ e
  wp_walk using iter_sq M1,iter_sq M2
  exact ⟨_,rfl,h⟩
section
variable {prog:Program} {w:World} {A:Around} {E:Value→Shared→Prop} {s:Shared}
theorem call_zipS {b1 b2:Bool} {l1 l2:Addr} {xs ys:Array Value} {Q:Value→Shared→Prop} (L1:SqIs b1 s.heap l1 xs) (L2:SqIs b2 s.heap l2 ys)
  (q:∀ h',ZAt b1 b2 (s.heap.objs.size + 4) (s.heap.objs.size + 2) (s.heap.objs.size + 3) s.heap.objs.size (s.heap.objs.size + 1) l1 l2 0 h'→ZipO h' (s.heap.objs.size + 4) (s.heap.objs.size + 2) (s.heap.objs.size + 3) .none false→h'.objs.size=s.heap.objs.size + 5→(∀ c o,s.heap.get? c=some o→h'.get? c=some o)→Q (.ref (s.heap.objs.size + 4)) { s with heap:=h' }) :
  wpAny (model prog w) A (call (.type "zip") [.ref l1,.ref l2]) Q E s:=by
 refine callType_new F.called_zip (by decide) (F.typeCall_zip_2 _ _) (F.newCall_zip_2 _ _) (fun obj=>F.args_object_init_3 obj _ _) F.entry_zip_new (meets_zipS b1 b2 l1 l2 xs ys) ⟨L1,L2,?_⟩
 have y1:(zg1 s.heap b1 l1).objs.size=s.heap.objs.size + 1:=Heap.size_push ..
 have y2:(zg2 s.heap b1 b2 l1 l2).objs.size=s.heap.objs.size + 2:=by rw [Heap.size_push,y1]
 have y3:(zg3 s.heap b1 b2 l1 l2).objs.size=s.heap.objs.size + 3:=by rw [Heap.size_push,y2]
 have y4:(zg4 s.heap b1 b2 l1 l2).objs.size=s.heap.objs.size + 4:=by rw [Heap.size_push,y3]
 have y5:(zg5 s.heap b1 b2 l1 l2).objs.size=s.heap.objs.size + 5:=by rw [Heap.size_push,y4]
 have w5:(zg5 s.heap b1 b2 l1 l2).get? (zg4 s.heap b1 b2 l1 l2).objs.size=some _:=Heap.get?_push_size _ rfl
 have w4:(zg5 s.heap b1 b2 l1 l2).get? (zg3 s.heap b1 b2 l1 l2).objs.size=some _:=Heap.get?_push_of_some _ (Heap.get?_push_size _ rfl)
 have w3:(zg5 s.heap b1 b2 l1 l2).get? (zg2 s.heap b1 b2 l1 l2).objs.size=some _:=Heap.get?_push_of_some _ (Heap.get?_push_of_some _ (Heap.get?_push_size _ rfl))
 have w2:(zg5 s.heap b1 b2 l1 l2).get? (zg1 s.heap b1 l1).objs.size=some (itO b2 l2):=Heap.get?_push_of_some _ (Heap.get?_push_of_some _ (Heap.get?_push_of_some _ (Heap.get?_push_size _ rfl)))
 have w1:(zg5 s.heap b1 b2 l1 l2).get? s.heap.objs.size=some (itO b1 l1):=Heap.get?_push_of_some _ (Heap.get?_push_of_some _ (Heap.get?_push_of_some _ (Heap.get?_push_of_some _ (Heap.get?_push_size _ rfl))))
 show _∧_
 rw [y2,y3,y4] at w5
 rw [y1,y2] at w3
 rw [y3] at w4
 rw [y1] at w2
 rw [y4]
 exact ⟨⟨_,w5,rfl⟩,q _ ⟨⟨_,_,w5,.inl rfl⟩,w3,⟨_,_,w4⟩,itO_is w1,itO_is w2⟩ w5 y5 fun c o x=>
  Heap.get?_push_of_some _ (Heap.get?_push_of_some _ (Heap.get?_push_of_some _ (Heap.get?_push_of_some _ (Heap.get?_push_of_some _ x))))⟩
end
end PySem
set_option Elab.async false
set_option linter.all false
set_option maxRecDepth 100000
set_option maxHeartbeats 4000000
namespace PySem
section
variable {prog:Program} {w:World} {A:Around} {E:Value→Shared→Prop} {s:Shared}
noncomputable def ZFr (b1 b2:Bool) (z TI TO i1 i2 l1 l2:Addr) (k:Nat) (h:Heap):Prop:=ZipO h z TI TO .none false∧IsPair h TI (.ref i1) (.ref i2)∧(∃ a b,IsPair h TO a b)∧ItIs b1 h i1 l1 k∧ItIs b2 h i2 l2 k
theorem ZFr.at {b1 b2:Bool} {z TI TO i1 i2 l1 l2:Addr} {k:Nat} {h:Heap} (Z:ZFr b1 b2 z TI TO i1 i2 l1 l2 k h):ZAt b1 b2 z TI TO i1 i2 l1 l2 k h:=⟨⟨_,_,Z.1,.inl rfl⟩,Z.2⟩
theorem zn_free {b1 b2:Bool} {z TI TO i1 i2 l1 l2:Addr} {k:Nat} {xs ys:Array Value} {x y:Value} {Q:Option Value→Shared→Prop} (D:ZipApart z TI TO i1 i2 l1 l2) (Z:ZFr b1 b2 z TI TO i1 i2 l1 l2 k s.heap) (L1:SqIs b1 s.heap l1 xs) (L2:SqIs b2 s.heap l2 ys) (hx:xs[k]?=some x) (hy:ys[k]?=some y)
  (q:∀ h',ZipO h' z TI TO (rawInt s.heap.objs.size) false→IsPair h' TI (.ref i1) (.ref i2)→(∃ a b,IsPair h' TO a b)→ItIs b1 h' i1 l1 (k + 1)→ItIs b2 h' i2 l2 (k + 1)→IsPair h' s.heap.objs.size x y→h'.objs.size=s.heap.objs.size + 1→(∀ c o,c ≠ z→c ≠ TO→c ≠ i1→c ≠ i2→s.heap.get? c=some o→h'.get? c=some o)→Q (some (.ref s.heap.objs.size)) { s with heap:=h' }):wpAny (model prog w) A (pyNext (.ref z)) Q E s:=by
 have ty:=Z.at.type
 obtain ⟨Z0,PI,⟨a,b,PO⟩,I1,I2⟩:=Z
 unfold pyNext
 refine wpAny_bind (wpAny_attempt (wpAny_callSpecial?_slot (name:=Str.ofString "__next__") ty F.slot_zip_next (wpAny_call_entry F.slot_zip_next ty F.entry_zip_next ?_ (F.args_zip_next_1 _))))
 exact zs_free D Z0 (fun R r=>own_none Z0 r) PI PO I1 I2 L1 L2 hx hy fun h' c1 c2 c3 c4 c5 c6 c7=>wpAny_pure (q h' c1 (c7 _ _ D.TIz D.TITO D.TIi1 D.TIi2 PI) ⟨_,_,c2⟩ c3 c4 c5 c6 c7)
end
end PySem
namespace L2
open PySem PySem.Spec PyProof.Rows
section
variable {X:Cx} {pins:List (Addr × Obj)} {σ:St} {H:Hp} {s:Shared}
noncomputable def SqB (b:Bool) (K:PySem.W.Frag) (H:Hp) (a:Addr) (xs:List V):Prop:=match b with | true=>SqT K H a xs | false=>SqL K H a xs
theorem Inv.seqB {b:Bool} {a:Addr} {xs:List V} (I:Inv X pins σ H s) (h:SqB b X.K H a xs):∃ its:List Value,Vals xs its∧SqIs b s.heap a its.toArray∧xs.length≤sizeLine:=by
 cases b with
 | true=>obtain ⟨its,rv,pl,hz⟩:=I.tuple h;exact ⟨its,rv,show s.heap.IsTuple a its.toArray from pl,hz⟩
 | false=>obtain ⟨its,rv,pl,hz⟩:=I.list h;exact ⟨its,rv,pl.isList,hz⟩
theorem Inv.seqB_inj {b:Bool} {a:Addr} {xs ys:List V} (I:Inv X pins σ H s) (h1:SqB b X.K H a xs) (h2:SqB b X.K H a ys):xs=ys:=by
 cases b with
 | true=>exact I.tuple_inj h1 h2
 | false=>exact I.list_inj h1 h2
end
noncomputable def Itz (K:PySem.W.Frag) (b1 b2:Bool) (l1 l2:Addr):It:=
 ⟨fun i H=>∃ xs ys x y,SqB b1 K H l1 xs∧SqB b2 K H l2 ys∧xs[i]?=some x∧ys[i]?=some y,
   fun i H x H'=>∃ t v u,H t=none∧x=.ref t∧H'=upd H t (.tup [v,u])∧(∀ xs,SqB b1 K H l1 xs→xs[i]?=some v)∧∀ ys,SqB b2 K H l2 ys→ys[i]?=some u,
   fun i H=>∃ xs ys,SqB b1 K H l1 xs∧SqB b2 K H l2 ys∧(xs[i]?=none ∨ ys[i]?=none)⟩
theorem turn_zip {P:Program} {w:World} {K:PySem.W.Frag} {elts:List Expr} {k0:Nat} {tp:Pos} {b1 b2:Bool} {z TI TO i1 i2 l1 l2:Addr} (D:ZipApart z TI TO i1 i2 l1 l2) :
  Turn P w K (.Tuple elts k0 tp) (Itz K b1 b2 l1 l2) [z,TI,TO,i1,i2] z (fun i h=>ZFr b1 b2 z TI TO i1 i2 l1 l2 i h) where
 mem:=by simp
 obj:=fun i h st b hb=>by
  obtain ⟨Z0,PI,⟨a,b',PO⟩,I1,I2⟩:=st
  simp only [List.mem_cons,List.not_mem_nil,or_false] at hb
  rcases hb with rfl | rfl | rfl | rfl | rfl
  ·exact ⟨_,Z0,fun v z=>by cases z⟩
  ·exact ⟨_,PI,fun v z=>by cases z⟩
  ·exact ⟨_,PO,fun v z=>by cases z⟩
  ·exact I1.obj
  ·exact I2.obj
 keep:=fun i h h' st k=>by
  obtain ⟨Z0,PI,⟨a,b',PO⟩,I1,I2⟩:=st
  exact ⟨k z (by simp) _ Z0,k TI (by simp) _ PI,⟨a,b',k TO (by simp) _ PO⟩,I1.stay fun o e=>k i1 (by simp) o e,I2.stay fun o e=>k i2 (by simp) o e⟩
 item:=by
  intro X hP hw hK hc i pins s σ H E I hf st hg
  subst hP hw hK
  obtain ⟨xs,ys,x,y,q1,q2,hx,hy⟩:=hg
  obtain ⟨its,rv,L1,hz⟩:=I.seqB q1
  obtain ⟨jts,rw',L2,hz2⟩:=I.seqB q2
  obtain ⟨u,hu,ru⟩:=rv.get hx
  obtain ⟨u2,hu2,ru2⟩:=rw'.get hy
  have st':=st
  refine zn_free D st L1 L2 (by simpa using hu) (by simpa using hu2) fun h1 c1 c2 c3 c4 c5 c6 c7 c8=>?_
  refine ⟨_,rfl,?_⟩
  refine wpAny_letOwnedTupleGo_zip c1 fun h2 e2 hs2=>?_
  have q2':Heap.SameBut z h1 h2:=hs2
  have zlt:z < s.heap.objs.size:=Heap.lt_size st'.1
  have kk:∀ b u,b ∉ [z,TI,TO,i1,i2]→s.heap.get? b=some u→h2.get? b=some u:=fun b u hb q=>by
   simp only [List.mem_cons,List.not_mem_nil,or_false,not_or] at hb
   exact (q2'.2 b hb.1).trans (c8 b u hb.1 hb.2.2.1 hb.2.2.2.1 hb.2.2.2.2 q)
  have hT2:h2.get? s.heap.objs.size=some { cls:=.type "tuple",data:=.seq #[u,u2] }:=(q2'.2 _ (Nat.ne_of_gt zlt)).trans c6
  obtain ⟨a,b',c3⟩:=c3
  have stn:ZFr b1 b2 z TI TO i1 i2 l1 l2 (i + 1) h2:=⟨e2,(q2'.2 _ D.TIz).trans c2,⟨a,b',(q2'.2 _ D.TOz).trans c3⟩,c4.stay fun o e=>(q2'.2 _ D.i1z).trans e,c5.stay fun o e=>(q2'.2 _ D.i2z).trans e⟩
  have hT':H s.heap.objs.size=none:=I.hok.fresh (Nat.le_refl _)
  have I1:Inv X pins σ (upd H s.heap.objs.size (.tup [x,y])) { s with heap:=h2,toks:=s.toks }:=by
   refine I.turnedNew (ch:=[z,TI,TO,i1,i2]) hf kk (fun b hb=>?_) ?_
   ·obtain ⟨Z0,PI,⟨a,b',PO⟩,I1,I2⟩:=stn
    simp only [List.mem_cons,List.not_mem_nil,or_false] at hb
    rcases hb with rfl | rfl | rfl | rfl | rfl
    ·exact ⟨_,Z0⟩
    ·exact ⟨_,PI⟩
    ·exact ⟨_,PO⟩
    ·obtain ⟨o,e,_⟩:=I1.obj;exact ⟨o,e⟩
    ·obtain ⟨o,e,_⟩:=I2.obj;exact ⟨o,e⟩
   ·exact ⟨by show 2≤sizeLine;decide,[u,u2],.cons ru (.cons ru2 .nil),⟨_,hT2,rfl,rfl,_,rfl⟩⟩
  refine ⟨.ref s.heap.objs.size,_,I1,rfl,⟨s.heap.objs.size,x,y,hT',rfl,rfl,fun zs hq=>by rw [I.seqB_inj hq q1];exact hx,fun zs hq=>by rw [I.seqB_inj hq q2];exact hy⟩,stn,fun b hb=>?_⟩
  have nb:b ≠ s.heap.objs.size:=by
   obtain ⟨Z0,PI,⟨a,b',PO⟩,I1,I2⟩:=st'
   simp only [List.mem_cons,List.not_mem_nil,or_false] at hb
   rcases hb with rfl | rfl | rfl | rfl | rfl
   ·exact Nat.ne_of_lt (Heap.lt_size Z0)
   ·exact Nat.ne_of_lt (Heap.lt_size PI)
   ·exact Nat.ne_of_lt (Heap.lt_size PO)
   ·obtain ⟨o,e,_⟩:=I1.obj;exact Nat.ne_of_lt (Heap.lt_size e)
   ·obtain ⟨o,e,_⟩:=I2.obj;exact Nat.ne_of_lt (Heap.lt_size e)
  rw [upd_ne nb]
  exact (hf b hb).1
 done:=by
  intro X hP hw hK hc i pins s σ H E I hf st hg
  subst hP hw hK
  obtain ⟨xs,ys,q1,q2,he⟩:=hg
  obtain ⟨its,rv,L1,hz⟩:=I.seqB q1
  obtain ⟨jts,rw',L2,hz2⟩:=I.seqB q2
  have l1':=rv.length
  have l2':=rw'.length
  refine zn_stop (I.ok.hd hc) D st.at L1 L2 ?_ fun h1 up=>⟨rfl,?_⟩
  ·rcases he with e | e
   ·refine .inl ?_
    have:=List.getElem?_eq_none_iff.mp e
    simp;omega
   ·refine .inr ?_
    have:=List.getElem?_eq_none_iff.mp e
    simp;omega
  ·exact I.turnedAll (t':=s.toks) (ch:=[z,TI,TO,i1,i2]) hf fun b u hb q=>by
    simp only [List.mem_cons,List.not_mem_nil,or_false,not_or] at hb
    exact up b u hb.1 hb.2.2.1 hb.2.2.2.1 hb.2.2.2.2 q
 self:=fun A i s Q E st h=>zn_iter st.at h
section
variable {X:Cx}
theorem boot_zip:bootBuiltins "zip"=some (.type "zip"):=by decide +kernel
theorem zip_it {elts:List Expr} {k0:Nat} {tp:Pos} {pins:List (Addr × Obj)} {σ:St} {H1:Hp} {s1:Shared} {R:It→Hp→Prop} {b1 b2:Bool} {l1 l2:Addr} {xs ys:List V} {E:Value→Shared→Prop} (I1:Inv X pins σ H1 s1) (q1:SqB b1 X.K H1 l1 xs) (q2:SqB b2 X.K H1 l2 ys) (q:R (Itz X.K b1 b2 l1 l2) H1) :
  wpAny (model X.prog X.w) X.A (call (.type "zip") [.ref l1,.ref l2]) (fun v s=>wpAny (model X.prog X.w) X.A (pyIter v) (PIE X pins σ (.Tuple elts k0 tp) R) E s) E s1:=by
 obtain ⟨its,rv,L1,hz⟩:=I1.seqB q1
 obtain ⟨jts,rw',L2,hz2⟩:=I1.seqB q2
 refine call_zipS L1 L2 fun h' Z Z0 sz kk=>zn_iter Z ?_
 have I2:Inv X pins σ H1 { s1 with heap:=h' }:=I1.kept (t':=s1.toks) kk
 obtain ⟨_,PI,PO,J1,J2⟩:=Z
 refine ⟨s1.heap.objs.size + 4,[s1.heap.objs.size + 4,s1.heap.objs.size + 2,s1.heap.objs.size + 3,s1.heap.objs.size,s1.heap.objs.size + 1],_,_,H1,rfl,I2,turn_zip (zipApart_new L1.lt L2.lt),⟨Z0,PI,PO,J1,J2⟩,fun b hb=>?_,q⟩
 have hlt:s1.heap.objs.size≤b:=by
  simp only [List.mem_cons,List.not_mem_nil,or_false] at hb
  rcases hb with rfl | rfl | rfl | rfl | rfl
  ·exact Nat.le_add_right _ _
  ·exact Nat.le_add_right _ _
  ·exact Nat.le_add_right _ _
  ·exact Nat.le_refl _
  ·exact Nat.le_add_right _ _
 exact I1.fpOk hlt (I1.hok.fresh hlt)
end
end L2
set_option Elab.async false
set_option linter.all false
set_option maxRecDepth 100000
set_option maxHeartbeats 4000000
namespace Ek
open PySem PySem.Spec PyProof.Rows L2
inductive Tg where
 | n (i:Nat) | tup (is:List Nat)
mutual
inductive E where
 | non | bl (b:Bool) | int (i:Int) | str (x:Str)
 | v (i:Nat)
 | tup (es:Es) | lst (es:Es)
 | bin (o:Operator) (a b:E)
 | neg (a:E)
 | cmp (o:CmpOp) (a b:E)
 | isN (a:E) | notN (a:E)
 | and (a b:E) | or (a b:E) | not (a:E)
 | ite (c a b:E)
 | ix (a b:E)
 | sl (a lo hi:E)
 | dsel (ks:List Str) (vs:Es) (k:E)
 | len (a:E) | abs (a:E) | toInt (a:E) | sum (a:E) | list (a:E) | tuple (a:E)
 | max (a b:E) | min (a b:E)
 | call (f:Str) (es:Es) | gf (f:Str) | callv (i:Nat) (es:Es) | dict (ks:List Str) (vs:Es) | cmpl (ne:Bool) (a b:E)
 | app (a b:E) | ext (a b:E) | popAt (a b:E) | pop (a:E) | index (a b:E)
 | lrev (a:E) | lclr (a:E)
 | lam (np:Nat) (N:List Str) (cp:List Nat) (e:E) | gc (g:Str) | lrl (a:E)
 | comp (Nc:List Str) (fr:List Nat) (k:Nat) (t:Tg) (it:It) (c:E) (e:E)
inductive Es where
 | nil | cons (e:E) (r:Es)
inductive It where
 | seq (e:E) | rng (a:E) | rng2 (a b:E) | enum (e:E) | enumr (e:E) | rev (e:E) | zip (a b:E)
end
mutual
inductive S where
 | set (i:Nat) (e:E)
 | put (o i v:E)
 | unp (is:List Nat) (e:E)
 | ex (e:E)
 | iff (c:E) (a b:Ss)
 | ret (e:E) | retN
 | for (t:Tg) (it:It) (b:Ss)
 | while (c:E) (b:Ss)
 | cont | pass | dead
 | dfn (i np:Nat) (N:List Str) (cp:List Nat) (b:Ss)
inductive Ss where
 | nil | cons (s:S) (r:Ss)
end
noncomputable def Es.len:Es→Nat
 | .nil=>0
 | .cons _ r=>r.len + 1
inductive D where
 | non | bl (b:Bool) | int (i:Int) | str (x:Str) | tup (ds:List D) | ref (a:Addr) | fn (f:Str) | clo (np:Nat) (N:List Str) (b:Ss) (cs:List D)
inductive Ob where
 | lst (ds:List D) | fro (ds:List D) | dct (kvs:List (Key × D)) | ins (c:Str) (fs:List (Str × D))
noncomputable abbrev Sto:=Addr→Option Ob
noncomputable abbrev DEnv:=List (Option D)
noncomputable abbrev DK:=D→Sto→Prop
noncomputable abbrev DT:=DEnv→Sto→DK→Prop
noncomputable abbrev DB:=DEnv→Sto→(Bool→Sto→Prop)→Prop
noncomputable abbrev DA:=DEnv→Sto→(List D→Sto→Prop)→Prop
noncomputable def updS (st:Sto) (a:Addr) (o:Ob):Sto:=fun b=>if b=a then some o else st b
theorem updS_same {st:Sto} {a:Addr} {o:Ob}:updS st a o a=some o:=by unfold updS;rw [if_pos rfl]
theorem updS_ne {st:Sto} {a b:Addr} {o:Ob} (h:b ≠ a):updS st a o b=st b:=by unfold updS;rw [if_neg h]
noncomputable def rdS (st:Sto) (a:Addr) (ds:List D):Prop:=st a=some (.lst ds) ∨ st a=some (.fro ds)
noncomputable def Sub (st st':Sto):Prop:=∀ a o,st a=some o→st' a=some o
theorem Sub.refl (st:Sto):Sub st st:=fun _ _ h=>h
mutual
noncomputable def D.py:D→PyData
 | .non=>.none | .bl b=>.bool b | .int i=>.int i | .str x=>.str x | .tup ds=>.tuple (D.pys ds) | .ref _=>.none | .fn _=>.none | .clo _ _ _ _=>.none
noncomputable def D.pys:List D→List PyData
 | []=>[]
 | d::r=>d.py::D.pys r
end
mutual
noncomputable def D.pure:D→Bool
 | .tup ds=>D.pures ds
 | .ref _=>false
 | .fn _=>false
 | .clo _ _ _ _=>false
 | .str x=>PyData.canLay0 (.str x)
 | _=>true
noncomputable def D.pures:List D→Bool
 | []=>true
 | d::r=>d.pure && D.pures r
end
noncomputable def deq (d e:D):Bool:=PyData.eqv d.py e.py
noncomputable def dpth (d:D):Nat:=d.py.depth
noncomputable abbrev Spec:=List D→Sto→DK→Prop
structure Sg where
 F:Str→Bool
 Phi:Str→Spec
 G:Str→List (Str × D)
 C:Str→List Str
 Mk:Str→Spec
 MF:Str→Bool
 PhiC:Nat→List Str→Ss→List D→Spec
 Kc:Str→Option Int
noncomputable def mkey (c m:Str):Str:=⟨c.cps++#[46]++m.cps⟩
noncomputable def callD (Z:Sg) (ta:Sto→(List D→Sto→Prop)→Prop) (st:Sto) (Q:DK):D→Prop
 | .fn f=>Z.F f=true∧ta st fun ds st1=>Z.Phi f ds st1 Q
 | .clo np N b cs=>ta st fun ds st1=>Z.PhiC np N b cs ds st1 Q
 | _=>False
noncomputable def capD (env:DEnv):List Nat→Option (List D)
 | []=>some []
 | i::is=>match env[i]?,capD env is with
  | some (some d),some ds=>some (d::ds)
  | _,_=>none
noncomputable def CMulB (i j:Int):Prop:=CMul i j ∨ (i.natAbs < 2 ^ 20000∧j.natAbs < 2 ^ 20000)
noncomputable def lookK (kvs:List (Key × D)) (k:Key):Option D:=(kvs.find? fun kv=>decide (kv.1=k)).map (·.2)
noncomputable def binR:Operator→D→D→Sto→DK→Prop
 | .Add,.int i,.int j,st,Q=>Q (.int (i + j)) st
 | .Add,.tup xs,.tup ys,st,Q=>xs.length + ys.length≤sizeLine∧Q (.tup (xs++ys)) st
 | .Add,.ref a,.ref b,st,Q=>∃ xs ys,st a=some (.lst xs)∧st b=some (.lst ys)∧xs.length + ys.length≤sizeLine∧∀ p,st p=none→Q (.ref p) (updS st p (.lst (xs++ys)))
 | .Sub,.int i,.int j,st,Q=>Q (.int (i - j)) st
 | .Mult,.int i,.int j,st,Q=>CMulB i j∧Q (.int (i * j)) st
 | .Mod,.int i,.int j,st,Q=>0 < j∧Q (.int (i % j)) st
 | .FloorDiv,.int i,.int j,st,Q=>CDivB i j∧Q (.int (i / j)) st
 | .Pow,.int i,.int j,st,Q=>CPow i j∧Q (.int (i ^ j.toNat)) st
 | _,_,_,_,_=>False
noncomputable def cmpR:CmpOp→D→D→Sto→DK→Prop
 | .Eq,x,y,st,Q=>x.pure=true∧y.pure=true∧Nat.min (dpth x) (dpth y)≤150∧Q (.bl (deq x y)) st
 | .NotEq,x,y,st,Q=>x.pure=true∧y.pure=true∧Nat.min (dpth x) (dpth y)≤150∧Q (.bl (!deq x y)) st
 | .Lt,.int i,.int j,st,Q=>Q (.bl (decide (i < j))) st
 | .LtE,.int i,.int j,st,Q=>Q (.bl (decide (i≤j))) st
 | .Gt,.int i,.int j,st,Q=>Q (.bl (decide (j < i))) st
 | .GtE,.int i,.int j,st,Q=>Q (.bl (decide (j≤i))) st
 | .In,x,.tup ys,st,Q=>x.pure=true∧D.pures ys=true∧dpth x≤150∧Q (.bl (ys.any fun y=>deq y x)) st
 | .NotIn,x,.tup ys,st,Q=>x.pure=true∧D.pures ys=true∧dpth x≤150∧Q (.bl (!ys.any fun y=>deq y x)) st
 | .In,.str w,.ref a,st,Q=>∃ kvs,st a=some (.dct kvs)∧Q (.bl (lookK kvs (.inr w)).isSome) st
 | .NotIn,.str w,.ref a,st,Q=>∃ kvs,st a=some (.dct kvs)∧Q (.bl (!(lookK kvs (.inr w)).isSome)) st
 | .In,.int i,.ref a,st,Q=>∃ kvs,st a=some (.dct kvs)∧Q (.bl (lookK kvs (.inl i)).isSome) st
 | .NotIn,.int i,.ref a,st,Q=>∃ kvs,st a=some (.dct kvs)∧Q (.bl (!(lookK kvs (.inl i)).isSome)) st
 | _,_,_,_,_=>False
noncomputable def ixR:D→D→Sto→DK→Prop
 | .tup ds,.int i,st,Q=>∃ d,atI ds i=some d∧Q d st
 | .ref a,.int i,st,Q=>(∃ ds d,rdS st a ds∧atI ds i=some d∧Q d st) ∨ ∃ kvs d,st a=some (.dct kvs)∧lookK kvs (.inl i)=some d∧Q d st
 | .ref a,.str w,st,Q=>∃ kvs d,st a=some (.dct kvs)∧lookK kvs (.inr w)=some d∧Q d st
 | .str w,.int i,st,Q=>∃ c,w.length≤sizeLine∧atI w.cps.toList i=some c∧Q (.str ⟨#[c]⟩) st
 | _,_,_,_=>False
noncomputable def cutD (xs:List D) (lo hi:Option Int):List D:=(xs.drop (HT.sIx xs.length 0 lo)).take (HT.sIx xs.length xs.length hi - HT.sIx xs.length 0 lo)
noncomputable def slR:D→Option Int→Option Int→Sto→DK→Prop
 | .tup ds,lo,hi,st,Q=>¬ (HT.sIx ds.length 0 lo=0∧HT.sIx ds.length ds.length hi=ds.length)∧Q (.tup (cutD ds lo hi)) st
 | .ref a,lo,hi,st,Q=>∃ ds,rdS st a ds∧∀ p,st p=none→Q (.ref p) (updS st p (.lst (cutD ds lo hi)))
 | _,_,_,_,_=>False
noncomputable def lookD:List (Str × D)→Str→Option D
 | [],_=>none
 | (k,d)::r,x=>if k=x then some d else lookD r x
noncomputable def lenR:D→Sto→DK→Prop
 | .tup ds,st,Q=>Q (.int ds.length) st
 | .ref a,st,Q=>∃ ds,rdS st a ds∧Q (.int ds.length) st
 | _,_,_=>False
noncomputable def toIntR:D→Sto→DK→Prop
 | .bl b,st,Q=>Q (.int (if b then 1 else 0)) st
 | .int i,st,Q=>Q (.int i) st
 | _,_,_=>False
noncomputable def listR:D→Sto→DK→Prop
 | .tup ds,st,Q=>∀ p,st p=none→Q (.ref p) (updS st p (.lst ds))
 | .ref a,st,Q=>∃ ds,rdS st a ds∧∀ p,st p=none→Q (.ref p) (updS st p (.lst ds))
 | _,_,_=>False
noncomputable def tupleR:D→Sto→DK→Prop
 | .tup ds,st,Q=>Q (.tup ds) st
 | .ref a,st,Q=>∃ ds,rdS st a ds∧Q (.tup ds) st
 | _,_,_=>False
noncomputable def sumR:D→Sto→DK→Prop
 | .ref a,st,Q=>∃ ns:List Int,rdS st a (ns.map D.int)∧Q (.int ns.sum) st
 | _,_,_=>False
noncomputable def isListR:D→Sto→DK→Prop
 | .ref a,st,Q=>∃ ds,rdS st a ds∧Q (.bl true) st
 | _,_,_=>False
noncomputable def zipD (xs ys:List D):List D:=(xs.zip ys).map fun p=>.tup [p.1,p.2]
noncomputable def itemsOf (st:Sto):D→List D→Prop
 | .tup ds,xs=>ds=xs
 | .ref a,xs=>rdS st a xs
 | _,_=>False
noncomputable def popAtR:D→D→Sto→DK→Prop
 | .ref a,.int i,st,Q=>(-(2 ^ 62)≤i∧i < 2 ^ 62)∧∃ ds k d,st a=some (.lst ds)∧ixN ds.length i=some k∧ds[k]?=some d∧Q d (updS st a (.lst (ds.eraseIdx k)))
 | _,_,_,_=>False
noncomputable def popR:D→Sto→DK→Prop
 | .ref a,st,Q=>∃ ds d,st a=some (.lst (ds++[d]))∧Q d (updS st a (.lst ds))
 | _,_,_=>False
noncomputable def revR:D→Sto→DK→Prop
 | .ref a,st,Q=>∃ ds,st a=some (.lst ds)∧Q .non (updS st a (.lst ds.reverse))
 | _,_,_=>False
noncomputable def clrR:D→Sto→DK→Prop
 | .ref a,st,Q=>∃ ds,st a=some (.lst ds)∧Q .non (updS st a (.lst []))
 | _,_,_=>False
noncomputable def lrlR:D→Sto→DK→Prop
 | .ref a,st,Q=>∃ ds,rdS st a ds∧ds.length≤1000000∧∀ p,st p=none→Q (.ref p) (updS st p (.lst ds.reverse))
 | _,_,_=>False
noncomputable def appR:D→D→Sto→DK→Prop
 | .ref a,d,st,Q=>∃ ds,st a=some (.lst ds)∧ds.length < sizeLine∧Q .non (updS st a (.lst (ds++[d])))
 | _,_,_,_=>False
noncomputable def extR:D→D→Sto→DK→Prop
 | .ref a,.ref b,st,Q=>∃ ds es,st a=some (.lst ds)∧st b=some (.lst es)∧ds.length + es.length≤sizeLine∧Q .non (updS st a (.lst (ds++es)))
 | .ref a,.tup es,st,Q=>∃ ds,st a=some (.lst ds)∧ds.length + es.length≤sizeLine∧Q .non (updS st a (.lst (ds++es)))
 | _,_,_,_=>False
noncomputable def indexR:D→D→Sto→DK→Prop
 | .ref a,x,st,Q=>∃ ds,rdS st a ds∧x.pure=true∧D.pures ds=true∧dpth x≤150∧∃ (j:Nat) (d:D),ds[j]?=some d∧deq d x=true∧(∀ (i:Nat) e,i < j→ds[i]?=some e→deq e x=false)∧Q (.int (j:Int)) st
 | .tup ds,x,st,Q=>x.pure=true∧D.pures ds=true∧dpth x≤150∧∃ (j:Nat) (d:D),ds[j]?=some d∧deq d x=true∧(∀ (i:Nat) e,i < j→ds[i]?=some e→deq e x=false)∧Q (.int (j:Int)) st
 | _,_,_,_=>False
noncomputable def isLR:D→Sto→Prop
 | .ref a,st=>∃ ds,rdS st a ds
 | _,_=>False
noncomputable def isTR:D→Sto→Prop
 | .tup _,_=>True
 | .ref a,st=>∃ ds,rdS st a ds
 | _,_=>False
noncomputable def pyss (l:List (List D)):List PyData:=l.map fun ds=>.list (D.pys ds)
noncomputable def rdLL (st:Sto):List D→List (List D)→Prop
 | [],[]=>True
 | d::ds,l::ls=>(∃ a,d=.ref a∧rdS st a l∧D.pures l=true)∧rdLL st ds ls
 | _,_=>False
noncomputable def cmplR (ne:Bool):D→D→Sto→DK→Prop
 | .ref a,.ref b,st,Q=>∃ xs ys,rdS st a xs∧rdS st b ys∧((D.pures xs=true∧D.pures ys=true∧PyData.depthAll (D.pys xs)≤149∧Q (.bl (ne != PyData.eqvAll (D.pys xs) (D.pys ys))) st) ∨ (xs.length ≠ ys.length∧Q (.bl ne) st) ∨ ∃ xss yss,rdLL st xs xss∧rdLL st ys yss∧PyData.depthAll (pyss xss)≤149∧Q (.bl (ne != PyData.eqvAll (pyss xss) (pyss yss))) st)
 | _,_,_,_=>False
noncomputable def setAll:DEnv→List Nat→List D→DEnv
 | env,i::is,d::ds=>setAll (env.set i (some d)) is ds
 | env,_,_=>env
noncomputable def bindT:Tg→D→DEnv→(DEnv→Prop)→Prop
 | .n i,d,env,k=>k (env.set i (some d))
 | .tup is,d,env,k=>∃ ds,d=.tup ds∧ds.length=is.length∧k (setAll env is ds)
noncomputable def rangeD (lo:Int) (n:Nat):List D:=(List.range n).map fun i=>.int (lo + (i:Nat))
noncomputable def enumD:Nat→List D→List D
 | _,[]=>[]
 | i,d::ds=>.tup [.int i,d]::enumD (i + 1) ds
noncomputable def compL (chk:Sto→Prop) (t:Tg) (tc:DB) (te:DT) (Q:List D→Sto→Prop):List D→List D→DEnv→Sto→Prop
 | [],acc,_,st=>chk st∧Q acc st
 | d::ds,acc,env,st=>chk st∧bindT t d env fun env'=>tc env' st fun b st1=>
   if b=true then te env' st1 fun v st2=>compL chk t tc te Q ds (acc++[v]) env' st2
   else compL chk t tc te Q ds acc env' st1
noncomputable def compEnv (fr:List Nat) (k:Nat) (env:DEnv):DEnv:=(fr.map fun j=>(env[j]?).join)++List.replicate k none
noncomputable def E.isNon:E→Bool
 | .non=>true
 | _=>false
noncomputable abbrev ItK:=List D→(Sto→Prop)→Sto→Prop
mutual
noncomputable def wpE (Z:Sg):E→DT
 | .non=>fun _ st Q=>Q .non st
 | .bl b=>fun _ st Q=>Q (.bl b) st
 | .int i=>fun _ st Q=>Q (.int i) st
 | .str x=>fun _ st Q=>Q (.str x) st
 | .v i=>fun env st Q=>∃ d,env[i]?=some (some d)∧Q d st
 | .tup es=>fun env st Q=>wpEs Z es env st fun ds st1=>Q (.tup ds) st1
 | .lst es=>fun env st Q=>wpEs Z es env st fun ds st1=>∀ p,st1 p=none→Q (.ref p) (updS st1 p (.lst ds))
 | .bin o a b=>fun env st Q=>wpE Z a env st fun x st1=>wpE Z b env st1 fun y st2=>binR o x y st2 Q
 | .neg a=>fun env st Q=>wpE Z a env st fun x st1=>∃ i,x=.int i∧Q (.int (-i)) st1
 | .cmp o a b=>fun env st Q=>wpE Z a env st fun x st1=>wpE Z b env st1 fun y st2=>cmpR o x y st2 Q
 | .isN a=>fun env st Q=>wpE Z a env st fun x st1=>(x=.non∧Q (.bl true) st1) ∨ (x ≠ .non∧Q (.bl false) st1)
 | .notN a=>fun env st Q=>wpE Z a env st fun x st1=>(x=.non∧Q (.bl false) st1) ∨ (x ≠ .non∧Q (.bl true) st1)
 | .and a b=>fun env st Q=>wpE Z a env st fun x st1=>∃ c,x=.bl c∧(if c=true then wpE Z b env st1 Q else Q (.bl false) st1)
 | .or a b=>fun env st Q=>wpE Z a env st fun x st1=>∃ c,x=.bl c∧(if c=true then Q (.bl true) st1 else wpE Z b env st1 Q)
 | .not a=>fun env st Q=>wpE Z a env st fun x st1=>∃ c,x=.bl c∧Q (.bl (!c)) st1
 | .ite c a b=>fun env st Q=>wpE Z c env st fun x st1=>∃ k,x=.bl k∧(if k=true then wpE Z a env st1 Q else wpE Z b env st1 Q)
 | .ix a b=>fun env st Q=>wpE Z a env st fun x st1=>wpE Z b env st1 fun y st2=>ixR x y st2 Q
 | .sl a lo hi=>fun env st Q=>wpE Z a env st fun x st1=>
   (if lo.isNon=true then fun k=>k none st1 else fun (k:Option Int→Sto→Prop)=>wpE Z lo env st1 fun d st'=>∃ i,d=.int i∧k (some i) st') fun l st2=>
   (if hi.isNon=true then fun k=>k none st2 else fun (k:Option Int→Sto→Prop)=>wpE Z hi env st2 fun d st'=>∃ i,d=.int i∧k (some i) st') fun h st3=>slR x l h st3 Q
 | .dsel ks vs k=>fun env st Q=>wpEs Z vs env st fun ds st1=>wpE Z k env st1 fun x st2=>∃ w d,x=.str w∧lookD (ks.zip ds) w=some d∧Q d st2
 | .len a=>fun env st Q=>wpE Z a env st fun x st1=>lenR x st1 Q
 | .abs a=>fun env st Q=>wpE Z a env st fun x st1=>∃ i,x=.int i∧Q (.int (if i < 0 then -i else i)) st1
 | .toInt a=>fun env st Q=>wpE Z a env st fun x st1=>toIntR x st1 Q
 | .sum a=>fun env st Q=>wpE Z a env st fun x st1=>sumR x st1 Q
 | .list a=>fun env st Q=>wpE Z a env st fun x st1=>listR x st1 Q
 | .tuple a=>fun env st Q=>wpE Z a env st fun x st1=>tupleR x st1 Q
 | .max a b=>fun env st Q=>wpE Z a env st fun x st1=>wpE Z b env st1 fun y st2=>∃ i j,x=.int i∧y=.int j∧Q (.int (if j > i then j else i)) st2
 | .min a b=>fun env st Q=>wpE Z a env st fun x st1=>wpE Z b env st1 fun y st2=>∃ i j,x=.int i∧y=.int j∧Q (.int (if j < i then j else i)) st2
 | .call f es=>fun env st Q=>Z.F f=true∧wpEs Z es env st fun ds st1=>Z.Phi f ds st1 Q
 | .gf f=>fun _ st Q=>Z.F f=true∧Q (.fn f) st
 | .callv i es=>fun env st Q=>∃ x,env[i]?=some (some x)∧callD Z (wpEs Z es env) st Q x
 | .gc g=>fun _ st Q=>∃ i,Z.Kc g=some i∧Q (.int i) st
 | .lam np N cp e=>fun env st Q=>∃ cs,capD env cp=some cs∧Q (.clo np N (.cons (.ret e) .nil) cs) st
 | .dict ks vs=>fun env st Q=>wpEs Z vs env st fun ds st1=>∀ p,st1 p=none→Q (.ref p) (updS st1 p (.dct ((ks.zip ds).map fun kv=>(.inr kv.1,kv.2))))
 | .cmpl ne a b=>fun env st Q=>wpE Z a env st fun x st1=>wpE Z b env st1 fun y st2=>cmplR ne x y st2 Q
 | .app a b=>fun env st Q=>wpE Z a env st fun x st1=>isLR x st1∧wpE Z b env st1 fun y st2=>appR x y st2 Q
 | .ext a b=>fun env st Q=>wpE Z a env st fun x st1=>isLR x st1∧wpE Z b env st1 fun y st2=>extR x y st2 Q
 | .popAt a b=>fun env st Q=>wpE Z a env st fun x st1=>isLR x st1∧wpE Z b env st1 fun y st2=>popAtR x y st2 Q
 | .pop a=>fun env st Q=>wpE Z a env st fun x st1=>popR x st1 Q
 | .lrl a=>fun env st Q=>wpE Z a env st fun x st1=>lrlR x st1 Q
 | .lrev a=>fun env st Q=>wpE Z a env st fun x st1=>revR x st1 Q
 | .lclr a=>fun env st Q=>wpE Z a env st fun x st1=>clrR x st1 Q
 | .index a b=>fun env st Q=>wpE Z a env st fun x st1=>isTR x st1∧wpE Z b env st1 fun y st2=>indexR x y st2 Q
 | .comp _ fr k t it c e=>fun env st Q=>wpIt Z it env st fun items chk st1=>items.length≤1000000 ∧
   compL chk t (if c.isNon=true then fun _ st Q=>Q true st else fun env st Q=>wpE Z c env st fun d st'=>∃ b,d=.bl b∧Q b st') (fun env st Q=>wpE Z e env st Q) (fun acc st'=>∀ p,st' p=none→Q (.ref p) (updS st' p (.lst acc))) items [] (compEnv fr k env) st1
noncomputable def wpEs (Z:Sg):Es→DA
 | .nil=>fun _ st Q=>Q [] st
 | .cons e r=>fun env st Q=>wpE Z e env st fun d st1=>wpEs Z r env st1 fun ds st2=>Q (d::ds) st2
noncomputable def wpIt (Z:Sg):It→DEnv→Sto→ItK→Prop
 | .seq e=>fun env st k=>wpE Z e env st fun d st1=>(∃ ds,d=.tup ds∧k ds (fun _=>True) st1) ∨ (∃ a ds,d=.ref a∧rdS st1 a ds∧k ds (fun st'=>rdS st' a ds) st1)
 | .rng a=>fun env st k=>wpE Z a env st fun d st1=>∃ j:Int,d=.int j∧(-(2 ^ 62)≤j∧j < 2 ^ 62)∧k (rangeD 0 j.toNat) (fun _=>True) st1
 | .rng2 a b=>fun env st k=>wpE Z a env st fun d st1=>wpE Z b env st1 fun e st2=>∃ i j:Int,d=.int i∧e=.int j∧(-(2 ^ 62)≤i∧i < 2 ^ 62∧-(2 ^ 62)≤j∧j < 2 ^ 62)∧k (rangeD i (j - i).toNat) (fun _=>True) st2
 | .enumr e=>fun env st k=>wpE Z e env st fun d st1=>∃ ds,d=.tup ds∧k (enumD 0 ds.reverse) (fun _=>True) st1
 | .enum e=>fun env st k=>wpE Z e env st fun d st1=>(∃ ds,d=.tup ds∧k (enumD 0 ds) (fun _=>True) st1) ∨ (∃ a ds,d=.ref a∧rdS st1 a ds∧k (enumD 0 ds) (fun st'=>rdS st' a ds) st1)
 | .zip a b=>fun env st k=>wpE Z a env st fun d st1=>wpE Z b env st1 fun e st2=>∃ xs ys,itemsOf st2 d xs∧itemsOf st2 e ys∧k (zipD xs ys) (fun st'=>itemsOf st' d xs∧itemsOf st' e ys) st2
 | .rev e=>fun env st k=>wpE Z e env st fun d st1=>∃ a ds,d=.ref a∧rdS st1 a ds∧k ds.reverse (fun st'=>rdS st' a ds) st1
end
noncomputable def wpT (Z:Sg) (e:E):DB:=fun env st Q=>wpE Z e env st fun d st'=>∃ b,d=.bl b∧Q b st'
structure DEnds where
 nx:DEnv→Sto→Prop
 rt:DK
 bk:DEnv→Sto→Prop:=fun _ _=>False
 ct:DEnv→Sto→Prop:=fun _ _=>False
noncomputable abbrev DS:=DEnds→DEnv→Sto→Prop
noncomputable def forL (chk:Sto→Prop) (t:Tg) (tb:DS) (F:DEnds):List D→DEnv→Sto→Prop
 | [],env,st=>chk st∧F.nx env st
 | d::ds,env,st=>chk st∧bindT t d env fun env'=>tb { F with nx:=forL chk t tb F ds,ct:=forL chk t tb F ds,bk:=F.nx } env' st
noncomputable def whileN (tc:DB) (tb:DS) (F:DEnds):Nat→DEnv→Sto→Prop
 | 0,_,_=>False
 | n + 1,env,st=>tc env st fun b st1=>if b=true then tb { F with nx:=whileN tc tb F n,ct:=whileN tc tb F n,bk:=F.nx } env st1 else F.nx env st1
mutual
noncomputable def wpS (Z:Sg):S→DS
 | .set i e=>fun F env st=>wpE Z e env st fun d st1=>F.nx (env.set i (some d)) st1
 | .put o i v=>fun F env st=>wpE Z v env st fun d st1=>wpE Z o env st1 fun x st2=>wpE Z i env st2 fun y st3=>
   ∃ a j k ds,x=.ref a∧y=.int j∧st3 a=some (.lst ds)∧ixN ds.length j=some k∧F.nx env (updS st3 a (.lst (ds.set k d)))
 | .unp is e=>fun F env st=>wpE Z e env st fun d st1=>bindT (.tup is) d env fun env'=>F.nx env' st1
 | .ex e=>fun F env st=>wpE Z e env st fun _ st1=>F.nx env st1
 | .iff c a b=>fun F env st=>wpT Z c env st fun k st1=>if k=true then wpSs Z a F env st1 else wpSs Z b F env st1
 | .ret e=>fun F env st=>wpE Z e env st F.rt
 | .retN=>fun F _ st=>F.rt .non st
 | .for t it b=>fun F env st=>wpIt Z it env st fun items chk st1=>forL chk t (wpSs Z b) F items env st1
 | .while c b=>fun F env st=>∃ n,whileN (wpT Z c) (wpSs Z b) F n env st
 | .cont=>fun F env st=>F.ct env st
 | .dead=>fun _ _ _=>False
 | .pass=>fun F env st=>F.nx env st
 | .dfn i np N cp b=>fun F env st=>∃ cs,capD env cp=some cs∧F.nx (env.set i (some (.clo np N b cs))) st
noncomputable def wpSs (Z:Sg):Ss→DS
 | .nil=>fun F env st=>F.nx env st
 | .cons s r=>fun F env st=>wpS Z s { F with nx:=wpSs Z r F } env st
end
structure Def where
 np:Nat
 N:List Str
 body:Ss
noncomputable abbrev Prog:=Str→Option Def
noncomputable def startD (f:Def) (ds:List D):DEnv:=ds.map some++List.replicate (f.N.length - ds.length) none
structure Gs where
 tab:Str→List (Str × D)
 cls:Str→List Str
 cst:Str→Option Int
noncomputable def semB (P:Prog) (G:Gs) (lo lo2:Str→Spec) (po:Bool) (lc:Nat→List Str→Ss→List D→Spec) (f:Str):Spec:=fun ds st Q=>∃ fd,P f=some fd∧ds.length=fd.np∧wpSs ⟨fun f=>(P f).isSome,lo,G.tab,G.cls,lo2,fun f=>po && (P f).isSome,lc,G.cst⟩ fd.body
   { nx:=fun _ st'=>∃ s2,Sub s2 st'∧Q .non s2,rt:=fun d st'=>∃ s2,Sub s2 st'∧Q d s2 } (startD fd ds) st
noncomputable def startC (N:List Str) (ds cs:List D):DEnv:=(ds++cs).map some++List.replicate (N.length - (ds++cs).length) none
noncomputable def semK (P:Prog) (G:Gs) (lo lo2:Str→Spec) (po:Bool) (lc:Nat→List Str→Ss→List D→Spec) (np:Nat) (N:List Str) (b:Ss) (cs:List D):Spec:=fun ds st Q=>ds.length=np∧wpSs ⟨fun f=>(P f).isSome,lo,G.tab,G.cls,lo2,fun f=>po && (P f).isSome,lc,G.cst⟩ b
   { nx:=fun _ st'=>∃ s2,Sub s2 st'∧Q .non s2,rt:=fun d st'=>∃ s2,Sub s2 st'∧Q d s2 } (startC N ds cs) st
noncomputable def semP (P:Prog) (G:Gs):Nat→(Str→Spec) × (Str→Spec) × Bool × (Nat→List Str→Ss→List D→Spec)
 | 0=>(fun _ _ _ _=>False,fun _ _ _ _=>False,false,fun _ _ _ _ _ _ _=>False)
 | n + 1=>(semB P G (semP P G n).1 (semP P G n).2.1 (semP P G n).2.2.1 (semP P G n).2.2.2,(semP P G n).1,true,semK P G (semP P G n).1 (semP P G n).2.1 (semP P G n).2.2.1 (semP P G n).2.2.2)
noncomputable def sem (P:Prog) (G:Gs) (n:Nat):Str→Spec:=(semP P G n).1
noncomputable def semC (P:Prog) (G:Gs) (n:Nat):Nat→List Str→Ss→List D→Spec:=(semP P G n).2.2.2
theorem sem_succ {P:Prog} {G:Gs} {n:Nat}:sem P G (n + 1)=semB P G (sem P G n) (semP P G n).2.1 (semP P G n).2.2.1 (semC P G n):=rfl
theorem semC_succ {P:Prog} {G:Gs} {n:Nat}:semC P G (n + 1)=semK P G (sem P G n) (semP P G n).2.1 (semP P G n).2.2.1 (semC P G n):=rfl
end Ek
set_option Elab.async false
set_option linter.all false
set_option maxRecDepth 100000
set_option maxHeartbeats 4000000
namespace Ek
open PySem PySem.Spec PyProof.Rows L2
class Tbs where
 ps:List Addr
 mt:Ss→Scope→List Str→FuncBody→Prop
structure FnScC (N P:List Str) (sc:Scope):Prop where
 kind:sc.kind=.function
 co:sc.isCoroutine=false
 gen:sc.isGenerator=false
 nd:N.Nodup
 pre:N.take P.length=P
 par:∀ x ∈ P,sc.names.lookup x=some .local
 nocell:∀ y ∈ sc.names,y.2 ≠ .cell
 fre:∀ y ∈ sc.names,y.2=.free→sc.names.lookup y.1=some .free
noncomputable def CodeF (H:Hp) (cv:Value):Prop:=∃ c o u vs q t,cv=.ref c∧H c=some (.frz o u)∧(∀ vs,u ≠ .lst vs)∧o.data=.fields vs∧vs[1]?=some (.str q t)
variable [Tbs]
structure CloF (fd:FuncData) (np:Nat) (N ps:List Str) (b:Ss):Prop where
 sc:FnScC N ps fd.scope
 np:ps.length=np
 mt:Tbs.mt b fd.scope N fd.body
 bind:∀ us:List Value,us.length=ps.length→bindArgs fd ⟨us,[]⟩=pure (ps.zip us)
 gl:fd.globals=mainGlobals
 bl:fd.builtins=builtinsNs
 has:∀ x,(x,NameKind.free) ∈ fd.scope.names→∃ c,fd.closure.lookup x=some c
 fre:∀ x c,fd.closure.lookup x=some c→(x,NameKind.free) ∈ fd.scope.names
 inj:∀ x y c,fd.closure.lookup x=some c→fd.closure.lookup y=some c→x=y
structure CloR (H:Hp) (f:Addr) (fd:FuncData) (np:Nat) (N:List Str) (us:List V):Prop where
 ex:∃ o u,H f=some (.frz o u)∧(∀ vs,u ≠ .lst vs)∧o.data=.func fd
 cd:CodeF H fd.code
 cl:∀ x c,fd.closure.lookup x=some c→∃ o' u' w,H c=some (.frz o' u')∧(∀ vs,u' ≠ .lst vs)∧o'.data=.cell (some w)
 at':∀ (i:Nat) v,us[i]?=some v→∃ x c o' u' w,N[np + i]?=some x∧fd.closure.lookup x=some c∧H c=some (.frz o' u')∧(∀ vs,u' ≠ .lst vs)∧o'.data=.cell (some w)∧RelV v w
noncomputable def CloAt (H:Hp) (f:Addr) (np:Nat) (N:List Str) (b:Ss) (us:List V):Prop:=∃ fd ps,CloF fd np N ps b∧CloR H f fd np N us
inductive IsD (K:PySem.W.Frag) (H:Hp):D→V→Prop where
 | non:IsD K H .non .non
 | bl (b:Bool):IsD K H (.bl b) (.bl b)
 | int (i:Int):IsD K H (.int i) (.int i)
 | str (x:Str):IsD K H (.str x) (.str x)
 | ref (a:Addr):IsD K H (.ref a) (.ref a)
 | fn {f:Str} {a:Addr}:PySem.W.nsIn K mainGlobals f=some (some (.ref a))→IsD K H (.fn f) (.ref a)
 | clo {f:Addr} {np:Nat} {N:List Str} {b:Ss} {ds:List D} {us:List V}:CloAt H f np N b us→ds.length=us.length→(∀ (i:Nat) d v,ds[i]?=some d→us[i]?=some v→IsD K H d v)→IsD K H (.clo np N b ds) (.ref f)
 | tup {a:Addr} {ds:List D} {vs:List V}:SqT K H a vs→ds.length=vs.length→(∀ (i:Nat) d v,ds[i]?=some d→vs[i]?=some v→IsD K H d v)→IsD K H (.tup ds) (.ref a)
structure IsDs (K:PySem.W.Frag) (H:Hp) (ds:List D) (vs:List V):Prop where
 len:ds.length=vs.length
 at':∀ (i:Nat) d v,ds[i]?=some d→vs[i]?=some v→IsD K H d v
section
variable {K:PySem.W.Frag} {H H' H2:Hp} {d:D} {v:V} {ds es:List D} {vs ws:List V}
theorem IsD.mk (h:SqT K H a vs) (r:IsDs K H ds vs):IsD K H (.tup ds) (.ref a):=.tup h r.len r.at'
theorem IsD.tup_inv {v:V} (h:IsD K H (.tup ds) v):∃ a vs,v=.ref a∧SqT K H a vs∧IsDs K H ds vs:=by
 cases h with
 | tup a b c=>exact ⟨_,_,rfl,a,⟨b,c⟩⟩
theorem IsDs.nil:IsDs K H [] []:=⟨rfl,fun i d v h=>by simp at h⟩
theorem IsDs.cons (h:IsD K H d v) (r:IsDs K H ds vs):IsDs K H (d::ds) (v::vs):=⟨by simp [r.len],fun i e w h1 h2=>by
 cases i with
 | zero=>simp at h1 h2;subst h1 h2;exact h
 | succ i=>exact r.at' i e w (by simpa using h1) (by simpa using h2)⟩
theorem IsDs.get (r:IsDs K H ds vs) {i:Nat} {d:D} (h:ds[i]?=some d):∃ v,vs[i]?=some v∧IsD K H d v:=by
 have hi:i < ds.length:=(List.getElem?_eq_some_iff.mp h).1
 rw [r.len] at hi
 exact ⟨vs[i],List.getElem?_eq_getElem hi,r.at' i d _ h (List.getElem?_eq_getElem hi)⟩
theorem IsDs.get' (r:IsDs K H ds vs) {i:Nat} {v:V} (h:vs[i]?=some v):∃ d,ds[i]?=some d∧IsD K H d v:=by
 have hi:i < vs.length:=(List.getElem?_eq_some_iff.mp h).1
 rw [← r.len] at hi
 exact ⟨ds[i],List.getElem?_eq_getElem hi,r.at' i _ v (List.getElem?_eq_getElem hi) h⟩
theorem IsDs.inv_cons {d:D} {ds:List D} {vs:List V} (r:IsDs K H (d::ds) vs):∃ v ws,vs=v::ws∧IsD K H d v∧IsDs K H ds ws:=by
 cases vs with
 | nil=>have:=r.len;simp at this
 | cons v ws=>exact ⟨v,ws,rfl,r.at' 0 d v rfl rfl,⟨by have:=r.len;simpa using this,fun i e w h1 h2=>r.at' (i + 1) e w (by simpa using h1) (by simpa using h2)⟩⟩
theorem IsDs.inv_nil {vs:List V} (r:IsDs K H [] vs):vs=[]:=by
 cases vs with
 | nil=>rfl
 | cons v ws=>have:=r.len;simp at this
theorem IsDs.append (r:IsDs K H ds vs) (q:IsDs K H es ws):IsDs K H (ds++es) (vs++ws):=⟨by simp [r.len,q.len],fun i d v h1 h2=>by
 by_cases hi:i < ds.length
 ·rw [List.getElem?_append_left hi] at h1
  rw [List.getElem?_append_left (by rw [← r.len];exact hi)] at h2
  exact r.at' i d v h1 h2
 ·rw [List.getElem?_append_right (by omega)] at h1
  rw [List.getElem?_append_right (by rw [← r.len];omega),← r.len] at h2
  exact q.at' _ d v h1 h2⟩
theorem IsDs.drop (r:IsDs K H ds vs) (n:Nat):IsDs K H (ds.drop n) (vs.drop n):=⟨by simp [r.len],fun i d v h1 h2=>by
 rw [List.getElem?_drop] at h1 h2;exact r.at' _ d v h1 h2⟩
theorem IsDs.take (r:IsDs K H ds vs) (n:Nat):IsDs K H (ds.take n) (vs.take n):=⟨by simp [r.len],fun i d v h1 h2=>by
 rw [List.getElem?_take] at h1 h2
 split at h1
 ·rename_i hi;rw [if_pos hi] at h2;exact r.at' _ d v h1 h2
 ·cases h1⟩
theorem IsDs.set (r:IsDs K H ds vs) (h:IsD K H d v) (n:Nat):IsDs K H (ds.set n d) (vs.set n v):=⟨by simp [r.len],fun i e w h1 h2=>by
 rw [List.getElem?_set] at h1 h2
 by_cases hi:n=i
 ·rw [if_pos hi] at h1 h2
  split at h1
  ·rename_i hl;rw [← r.len,if_pos hl] at h2;cases h1;cases h2;exact h
  ·cases h1
 ·rw [if_neg hi] at h1 h2
  exact r.at' i e w h1 h2⟩
theorem IsDs.erase:∀ {ds:List D} {vs:List V} (r:IsDs K H ds vs) (n:Nat),IsDs K H (ds.eraseIdx n) (vs.eraseIdx n)
 | [],vs,r,n=>by rw [r.inv_nil];simpa using IsDs.nil
 | d::ds,vs,r,n=>by
  obtain ⟨v,ws,rfl,h1,h2⟩:=r.inv_cons
  cases n with
  | zero=>simpa using h2
  | succ n=>simpa using IsDs.cons h1 (IsDs.erase h2 n)
theorem IsDs.rev:∀ {ds:List D} {vs:List V} (r:IsDs K H ds vs),IsDs K H ds.reverse vs.reverse
 | [],vs,r=>by rw [r.inv_nil];exact IsDs.nil
 | d::ds,vs,r=>by
  obtain ⟨v,ws,rfl,h1,h2⟩:=r.inv_cons
  rw [List.reverse_cons,List.reverse_cons]
  exact (IsDs.rev h2).append (IsDs.cons h1 IsDs.nil)
theorem IsDs.ints:∀ {ns:List Int} {vs:List V},IsDs K H (ns.map D.int) vs→vs=ns.map V.int
 | [],vs,r=>by rw [List.map_nil] at r;exact r.inv_nil
 | n::ns,vs,r=>by
  rw [List.map_cons] at r
  obtain ⟨v,ws,rfl,h1,h2⟩:=r.inv_cons
  cases h1
  rw [IsDs.ints h2];rfl
noncomputable def TK (K:PySem.W.Frag) (H H':Hp):Prop:=(∀ a xs,SqT K H a xs→SqT K H' a xs)∧∀ a o u,H a=some (.frz o u)→(∀ vs,u ≠ .lst vs)→H' a=some (.frz o u)
theorem TK.refl:TK K H H:=⟨fun _ _ h=>h,fun _ _ _ h _=>h⟩
theorem TK.trans (a:TK K H H') (b:TK K H' H2):TK K H H2:=⟨fun c xs h=>b.1 c xs (a.1 c xs h),fun c o u h n=>b.2 c o u (a.2 c o u h n) n⟩
theorem TK.upd' {p:Addr} {o:HO} (h:∀ xs,H p ≠ some (.tup xs)) (h2:∀ o u,H p ≠ some (.frz o u)):TK K H (upd H p o):=⟨fun a xs q=>by
 rcases q with (q | ⟨o',q⟩) | q
 ·exact .inl (.inl (by have ne:a ≠ p:=(fun z=>h xs (by rw [← z];exact q));rw [upd_ne ne];exact q))
 ·exact .inl (.inr ⟨o',by have ne:a ≠ p:=(fun z=>h2 _ _ (by rw [← z];exact q));rw [upd_ne ne];exact q⟩)
 ·exact .inr q,fun a o' u q n=>by have ne:a ≠ p:=(fun z=>h2 _ _ (by rw [← z];exact q));rw [upd_ne ne];exact q⟩
theorem TK.new {p:Addr} {o:HO} (h:H p=none):TK K H (upd H p o):=TK.upd' (by rw [h];exact fun _=>nofun) (by rw [h];exact fun _ _=>nofun)
theorem TK.putD {p:Addr} {o:HO} {xs:List (Key × V)} (h:H p=some (.dK xs)):TK K H (upd H p o):=TK.upd' (by rw [h];exact fun _ z=>by cases z) (by rw [h];exact fun _ _ z=>by cases z)
theorem TK.put {p:Addr} {o:HO} {xs:List V} (h:H p=some (.lst xs)):TK K H (upd H p o):=TK.upd' (by rw [h];exact fun _ z=>by cases z) (by rw [h];exact fun _ _ z=>by cases z)
theorem CodeF.mono {cv:Value} (h:CodeF H cv) (k:TK K H H'):CodeF H' cv:=let ⟨c,o,u,vs,q,t,e1,e2,e3,e4⟩:=h;⟨c,o,u,vs,q,t,e1,k.2 _ _ _ e2 e3,e3,e4⟩
theorem CloR.mono {f:Addr} {fd:FuncData} {np:Nat} {N:List Str} {us:List V} (h:CloR H f fd np N us) (k:TK K H H'):CloR H' f fd np N us:=by
 obtain ⟨⟨o,u,e1,e2,e3⟩,e5,e6,e7⟩:=h
 refine ⟨⟨o,u,k.2 _ _ _ e1 e2,e2,e3⟩,e5.mono k,fun x c hx=>?_,fun i v hv=>?_⟩
 ·obtain ⟨o',u',w,a,b,c⟩:=e6 x c hx;exact ⟨o',u',w,k.2 _ _ _ a b,b,c⟩
 ·obtain ⟨x,c,o',u',w,a1,a2,a3,a4,a5⟩:=e7 i v hv;exact ⟨x,c,o',u',w,a1,a2,k.2 _ _ _ a3 a4,a4,a5⟩
theorem CloAt.mono {f:Addr} {np:Nat} {N:List Str} {b:Ss} {us:List V} (h:CloAt H f np N b us) (k:TK K H H'):CloAt H' f np N b us:=let ⟨fd,ps,a,b⟩:=h;⟨fd,ps,a,b.mono k⟩
theorem IsD.mono (h:IsD K H d v) (k:TK K H H'):IsD K H' d v:=by
 induction h with
 | non=>exact .non
 | bl b=>exact .bl b
 | int i=>exact .int i
 | str x=>exact .str x
 | ref a=>exact .ref a
 | fn h=>exact .fn h
 | clo a b _ ih=>exact .clo (a.mono k) b ih
 | tup a b _ ih=>exact .tup (k.1 _ _ a) b ih
theorem IsDs.mono (h:IsDs K H ds vs) (k:TK K H H'):IsDs K H' ds vs:=⟨h.len,fun i d v a b=>(h.at' i d v a b).mono k⟩
structure RelE (K:PySem.W.Frag) (H:Hp) (env:DEnv) (σ:L2.St):Prop where
 len:env.length=σ.length
 at':∀ (i:Nat) d,env[i]?=some (some d)→∃ v,σ[i]?=some (some v)∧IsD K H d v
variable {env:DEnv} {σ:L2.St} {st st':Sto}
theorem RelE.mono (r:RelE K H env σ) (k:TK K H H'):RelE K H' env σ:=⟨r.len,fun i d h=>let ⟨v,a,b⟩:=r.at' i d h;⟨v,a,b.mono k⟩⟩
theorem RelE.set (r:RelE K H env σ) (h:IsD K H d v) (i:Nat):RelE K H (env.set i (some d)) (σ.set i (some v)):=⟨by simp [r.len],fun j e q=>by
 rw [List.getElem?_set] at q ⊢
 by_cases hi:i=j
 ·rw [if_pos hi] at q ⊢
  split at q
  ·rename_i hl;rw [← r.len,if_pos hl];cases q;exact ⟨v,rfl,h⟩
  ·cases q
 ·rw [if_neg hi] at q ⊢
  exact r.at' j e q⟩
structure IsKs (K:PySem.W.Frag) (H:Hp) (kvs:List (Key × D)) (vs:List (Key × V)):Prop where
 ks:kvs.map (·.1)=vs.map (·.1)
 ds:IsDs K H (kvs.map (·.2)) (vs.map (·.2))
theorem IsKs.mono {kvs:List (Key × D)} {vs:List (Key × V)} (h:IsKs K H kvs vs) (k:TK K H H'):IsKs K H' kvs vs:=⟨h.ks,h.ds.mono k⟩
theorem IsKs.inv_cons {e:Key × D} {kvs:List (Key × D)} {vs:List (Key × V)} (h:IsKs K H (e::kvs) vs):∃ v ws,vs=(e.1,v)::ws∧IsD K H e.2 v∧IsKs K H kvs ws:=by
 cases vs with
 | nil=>have:=h.ks;simp at this
 | cons f ws=>
  obtain ⟨k,v⟩:=f
  have e1:=h.ks
  simp only [List.map_cons,List.cons.injEq] at e1
  have e2:=h.ds
  simp only [List.map_cons] at e2
  obtain ⟨v',ws',e3,i1,i2⟩:=e2.inv_cons
  simp only [List.cons.injEq] at e3
  obtain ⟨rfl,rfl⟩:=e3
  exact ⟨v,ws,by rw [e1.1],i1,⟨e1.2,i2⟩⟩
theorem IsKs.look:∀ {kvs:List (Key × D)} {vs:List (Key × V)} (h:IsKs K H kvs vs) (k:Key),(lookK kvs k=none∧valV vs k=none) ∨ ∃ d v,lookK kvs k=some d∧valV vs k=some v∧IsD K H d v
 | [],vs,h,k=>by
  have:vs=[]:=by have:=h.ks;simpa using this.symm
  subst this;exact .inl ⟨rfl,rfl⟩
 | e::kvs,vs,h,k=>by
  obtain ⟨v,ws,rfl,i1,i2⟩:=h.inv_cons
  unfold lookK valV
  rw [List.find?_cons,List.find?_cons]
  by_cases hk:e.1=k
  ·simp only [hk,decide_true]
   exact .inr ⟨e.2,v,rfl,rfl,i1⟩
  ·simp only [hk,decide_false]
   exact IsKs.look i2 k
structure IsFs (K:PySem.W.Frag) (H:Hp) (fs:List (Str × D)) (vs:List (Str × V)):Prop where
 ks:fs.map (·.1)=vs.map (·.1)
 ds:IsDs K H (fs.map (·.2)) (vs.map (·.2))
theorem IsFs.mono {fs:List (Str × D)} {vs:List (Str × V)} (h:IsFs K H fs vs) (k:TK K H H'):IsFs K H' fs vs:=⟨h.ks,h.ds.mono k⟩
noncomputable def ObR (K:PySem.W.Frag) (H:Hp) (a:Addr):Ob→Prop
 | .lst ds=>∃ vs,H a=some (.lst vs)∧IsDs K H ds vs
 | .fro ds=>∃ vs,Rd H a (.lst vs)∧IsDs K H ds vs
 | .dct kvs=>∃ vs,H a=some (.dK vs)∧IsKs K H kvs vs
 | .ins c fs=>∃ C dx vs,H a=some (.ins C dx vs)∧PySem.W.nsIn K mainGlobals c=some (some (.ref C))∧IsFs K H fs vs
structure TabOk (H:Hp) (ps:Array Value):Prop where
 tr:TriplesOk ps.toList
 co:∀ pos cv,codeAmong pos ps.toList=some cv→CodeF H cv
noncomputable def TabsIn (H:Hp):Prop:=∀ P ∈ Tbs.ps,∃ ps,H P=some (.tbl ps)∧TabOk H ps
theorem TabsIn.stay (h:TabsIn H) (k:TK K H H') (t:∀ a ps,H a=some (.tbl ps)→H' a=some (.tbl ps)):TabsIn H':=fun P hP=>by
 obtain ⟨ps,e,o⟩:=h P hP
 exact ⟨ps,t P ps e,o.tr,fun pos cv hc=>(o.co pos cv hc).mono k⟩
structure RelS (K:PySem.W.Frag) (st:Sto) (H:Hp):Prop where
 ob:∀ a o,st a=some o→ObR K H a o
 tb:TabsIn H
theorem RelS.free (r:RelS K st H) {p:Addr} (h:H p=none):st p=none:=by
 cases q:st p with
 | none=>rfl
 | some o=>
  have z:=r.ob p o q
  cases o with
  | lst ds=>obtain ⟨vs,a,_⟩:=z;rw [h] at a;cases a
  | fro ds=>
   obtain ⟨vs,a | ⟨o',a⟩,_⟩:=z
   ·rw [h] at a;cases a
   ·rw [h] at a;cases a
  | dct kvs=>obtain ⟨vs,a,_⟩:=z;rw [h] at a;cases a
  | ins c fs=>obtain ⟨C,dx,vs,a,_⟩:=z;rw [h] at a;cases a
theorem RelS.sub (r:RelS K st' H) (s:Sub st st'):RelS K st H:=⟨fun a o h=>r.ob a o (s a o h),r.tb⟩
theorem RelS.stay (r:RelS K st H) (k:TK K H H') (ho:∀ a o,st a=some o→H' a=H a) (t:∀ a ps,H a=some (.tbl ps)→H' a=some (.tbl ps)):RelS K st H':=⟨fun a o h=>by
 have z:=r.ob a o h
 have e:=ho a o h
 cases o with
 | lst ds=>obtain ⟨vs,q,w⟩:=z;exact ⟨vs,by rw [e];exact q,w.mono k⟩
 | fro ds=>
  obtain ⟨vs,q | ⟨o',q⟩,w⟩:=z
  ·exact ⟨vs,.inl (by rw [e];exact q),w.mono k⟩
  ·exact ⟨vs,.inr ⟨o',by rw [e];exact q⟩,w.mono k⟩
 | dct kvs=>obtain ⟨vs,q,w⟩:=z;exact ⟨vs,by rw [e];exact q,w.mono k⟩
 | ins c fs=>obtain ⟨C,dx,vs,q,n,w⟩:=z;exact ⟨C,dx,vs,by rw [e];exact q,n,w.mono k⟩,r.tb.stay k t⟩
theorem tbl_upd {p:Addr} {o:HO} (h:∀ ps,H p ≠ some (.tbl ps)):∀ a ps,H a=some (.tbl ps)→(upd H p o) a=some (.tbl ps):=fun a ps e=>by
 have ne:a ≠ p:=fun z=>h ps (by rw [← z];exact e)
 rw [upd_ne ne];exact e
theorem tbl_none {p:Addr} {o:HO} (h:H p=none):∀ a ps,H a=some (.tbl ps)→(upd H p o) a=some (.tbl ps):=tbl_upd (by rw [h];exact fun _=>nofun)
theorem RelS.new (r:RelS K st H) {p:Addr} {o:HO} (h:H p=none):RelS K st (upd H p o):=r.stay (TK.new h) (fun a u e=>upd_ne fun z=>by
 rw [z,r.free h] at e;cases e) (tbl_none h)
theorem RelS.putAny (r:RelS K st H) {p:Addr} {ob:Ob} {o':HO} (tk:TK K H (upd H p o')) (w:ObR K (upd H p o') p ob) (t:∀ ps,H p ≠ some (.tbl ps)):RelS K (updS st p ob) (upd H p o'):=by
 have r':RelS K (fun b=>if b=p then none else st b) H:=⟨fun b u q=>by
  split at q
  ·cases q
  ·exact r.ob b u q,r.tb⟩
 have r2:=r'.stay tk (fun b u q=>upd_ne fun z=>by
  have q':(if b=p then none else st b)=some u:=q
  rw [if_pos z] at q';cases q') (tbl_upd t)
 refine ⟨fun a o e=>?_,r2.tb⟩
 by_cases ha:a=p
 ·subst ha;rw [updS_same] at e;cases e;exact w
 ·rw [updS_ne ha] at e
  exact r2.ob a o (by show (if a=p then none else st a)=some o;rw [if_neg ha];exact e)
theorem RelS.putNew (r:RelS K st H) {p:Addr} (h:H p=none) (w:IsDs K H ds vs):RelS K (updS st p (.lst ds)) (upd H p (.lst vs)):=
 r.putAny (TK.new h) ⟨vs,upd_same,w.mono (TK.new h)⟩ (by rw [h];exact fun _=>nofun)
theorem RelS.putOld (r:RelS K st H) {p:Addr} {xs:List V} (h:H p=some (.lst xs)) (w:IsDs K H ds vs):RelS K (updS st p (.lst ds)) (upd H p (.lst vs)):=
 r.putAny (TK.put h) ⟨vs,upd_same,w.mono (TK.put h)⟩ (by rw [h];exact fun _ z=>by cases z)
theorem RelS.lst (r:RelS K st H) {a:Addr} {ds:List D} (h:st a=some (.lst ds)):∃ vs,H a=some (.lst vs)∧IsDs K H ds vs:=r.ob a _ h
theorem RelS.dct (r:RelS K st H) {a:Addr} {kvs:List (Key × D)} (h:st a=some (.dct kvs)):∃ vs,H a=some (.dK vs)∧IsKs K H kvs vs:=r.ob a _ h
theorem RelS.rd (r:RelS K st H) {a:Addr} {ds:List D} (h:rdS st a ds):∃ vs,SqL K H a vs∧IsDs K H ds vs:=by
 rcases h with h | h
 ·obtain ⟨vs,a,b⟩:=r.ob a _ h;exact ⟨vs,.inl (.inl a),b⟩
 ·obtain ⟨vs,a,b⟩:=r.ob a _ h;exact ⟨vs,.inl a,b⟩
end
noncomputable def TbE (o o':HO):Prop:=o'=o ∨ ∃ p p',o=.tbl p∧o'=.tbl p'
theorem TbE.trans {a b c:HO} (x:TbE a b) (y:TbE b c):TbE a c:=by
 rcases x with rfl | ⟨p,p',rfl,rfl⟩
 ·exact y
 ·rcases y with rfl | ⟨q,q',_,rfl⟩
  ·exact .inr ⟨p,p',rfl,rfl⟩
  ·exact .inr ⟨p,q',rfl,rfl⟩
noncomputable def Ev (st:Sto) (H:Hp) (st':Sto) (H':Hp):Prop:=∀ a o,H a=some o→st a=none→(∃ o',H' a=some o'∧TbE o o')∧st' a=none
section
variable {K:PySem.W.Frag} {st st1 st2:Sto} {H H1 H2:Hp}
theorem Ev.get (e:Ev st H st1 H1) {a:Addr} {o:HO} (h:H a=some o) (k:st a=none) (n:∀ p,o ≠ .tbl p):H1 a=some o∧st1 a=none:=by
 obtain ⟨⟨o',h',t⟩,k'⟩:=e a o h k
 rcases t with rfl | ⟨p,_,rfl,_⟩
 ·exact ⟨h',k'⟩
 ·exact absurd rfl (n p)
theorem Ev.refl:Ev st H st H:=fun _ o h k=>⟨⟨o,h,.inl rfl⟩,k⟩
theorem Ev.trans (a:Ev st H st1 H1) (b:Ev st1 H1 st2 H2):Ev st H st2 H2:=fun c o h k=>by
 obtain ⟨⟨o',h',t⟩,y⟩:=a c o h k
 obtain ⟨⟨o2,h2,t2⟩,z⟩:=b c o' h' y
 exact ⟨⟨o2,h2,t.trans t2⟩,z⟩
theorem RelS.no (r:RelS K st H) {a:Addr} {o:HO} (h:H a=some o) (n1:∀ vs,o ≠ .lst vs) (n2:∀ u vs,o ≠ .frz u (.lst vs)) (n3:∀ vs,o ≠ .dK vs) (n4:∀ C dx vs,o ≠ .ins C dx vs):st a=none:=by
 cases z:st a with
 | none=>rfl
 | some ob=>
  have w:=r.ob a ob z
  cases ob with
  | lst ds=>obtain ⟨vs,w1,_⟩:=w;rw [h] at w1;cases w1;exact absurd rfl (n1 vs)
  | fro ds=>
   obtain ⟨vs,w1 | ⟨u,w1⟩,_⟩:=w
   ·rw [h] at w1;cases w1;exact absurd rfl (n1 vs)
   ·rw [h] at w1;cases w1;exact absurd rfl (n2 u vs)
  | dct kvs=>obtain ⟨vs,w1,_⟩:=w;rw [h] at w1;cases w1;exact absurd rfl (n3 vs)
  | ins c fs=>obtain ⟨C,dx,vs,w1,_⟩:=w;rw [h] at w1;cases w1;exact absurd rfl (n4 C dx vs)
theorem Ev.tk (e:Ev st H st1 H1) (r:RelS K st H):TK K H H1:=⟨fun a xs q=>by
 rcases q with (q | ⟨o',q⟩) | q
 ·exact .inl (.inl (e.get q (r.no q (fun _ z=>by cases z) (fun _ _ z=>by cases z) (fun _ z=>by cases z) (fun _ _ _ z=>by cases z)) (fun _ z=>by cases z)).1)
 ·exact .inl (.inr ⟨o',(e.get q (r.no q (fun _ z=>by cases z) (fun _ _ z=>by cases z) (fun _ z=>by cases z) (fun _ _ _ z=>by cases z)) (fun _ z=>by cases z)).1⟩)
 ·exact .inr q,fun a o u q n=>(e.get q (r.no q (fun _ z=>by cases z) (fun _ vs z=>by cases z;exact n vs rfl) (fun _ z=>by cases z) (fun _ _ _ z=>by cases z)) (fun _ z=>by cases z)).1⟩
theorem Ev.new {p:Addr} {o:HO} (h:H p=none):Ev st H st (upd H p o):=fun a u e k=>⟨⟨u,by rw [upd_ne (ne_of_none e h)];exact e,.inl rfl⟩,k⟩
theorem Ev.newS {p:Addr} {o:HO} {ob:Ob} (h:H p=none):Ev st H (updS st p ob) (upd H p o):=fun a u e k=>⟨⟨u,by rw [upd_ne (ne_of_none e h)];exact e,.inl rfl⟩,by rw [updS_ne (ne_of_none e h)];exact k⟩
theorem Ev.put {p:Addr} {o:HO} {ob ob':Ob} (h:st p=some ob'):Ev st H (updS st p ob) (upd H p o):=fun a u e k=>by
 have ne:a ≠ p:=fun z=>by rw [z,h] at k;cases k
 exact ⟨⟨u,by rw [upd_ne ne];exact e,.inl rfl⟩,by rw [updS_ne ne];exact k⟩
theorem Ev.drop (s:Sub st2 st1) (e:Ev st H st1 H1):Ev st H st2 H1:=fun a o h k=>by
 obtain ⟨x,y⟩:=e a o h k
 refine ⟨x,?_⟩
 cases z:st2 a with
 | none=>rfl
 | some u=>rw [s a u z] at y;cases y
end
noncomputable def DPost (K:PySem.W.Frag) (st:Sto) (H:Hp) (Qd:DK) (Q:VK):Prop:=∀ v d H' st',Ev st H st' H'→IsD K H' d v→RelS K st' H'→Qd d st'→Q v H'
noncomputable def up (K:PySem.W.Frag) (t:DT):TE:=fun σ H Q=>∃ env st Qd,RelE K H env σ∧RelS K st H∧t env st Qd∧DPost K st H Qd Q
noncomputable def upB (K:PySem.W.Frag) (t:DB):TT:=fun σ H Q=>∃ env st Qd,RelE K H env σ∧RelS K st H∧t env st Qd∧∀ b H' st',Ev st H st' H'→RelS K st' H'→Qd b st'→Q b H'
noncomputable def upA (K:PySem.W.Frag) (n:Nat) (t:DA):TA:=fun σ H Q=>∃ env st Qd,RelE K H env σ∧RelS K st H∧t env st Qd∧∀ vs ds H' st',Ev st H st' H'→IsDs K H' ds vs→ds.length=n→RelS K st' H'→Qd ds st'→Q vs H'
theorem _root_.L2.PE.imp {X:Cx} {x:Expr} {t t':TE} (h:PE X x t) (i:∀ σ H Q,t' σ H Q→t σ H Q):PE X x t':=fun pins s σ H Q I q=>h pins s σ H Q I (i σ H Q q)
theorem _root_.L2.PT.imp {X:Cx} {x:Expr} {t t':TT} (h:PT X x t) (i:∀ σ H Q,t' σ H Q→t σ H Q):PT X x t':=fun pins s σ H Q I q=>h pins s σ H Q I (i σ H Q q)
theorem _root_.L2.PW.imp {X:Cx} {x:Expr} {t t':TT} (h:PW X x t) (i:∀ σ H Q,t' σ H Q→t σ H Q):PW X x t':=fun w pins s σ H Q I q=>h w pins s σ H Q I (i σ H Q q)
theorem _root_.L2.PA.imp {X:Cx} {x:List Expr} {t t':TA} (h:PA X x t) (i:∀ σ H Q,t' σ H Q→t σ H Q):PA X x t':=fun pos pins s σ H Q I q=>h pos pins s σ H Q I (i σ H Q q)
theorem _root_.L2.PSs.imp {X:Cx} {x:List Stmt} {t t':TS} (h:PSs X x t) (i:∀ D σ H,t' D σ H→t D σ H):PSs X x t':=fun pins s σ H D I q=>h pins s σ H D I (i D σ H q)
theorem _root_.L2.PS.imp {X:Cx} {x:Stmt} {t t':TS} (h:PS X x t) (i:∀ D σ H,t' D σ H→t D σ H):PS X x t':=fun pins s σ H D I q=>h pins s σ H D I (i D σ H q)
theorem DPost.after {K:PySem.W.Frag} {st st1:Sto} {H H1:Hp} {Qd:DK} {Q:VK} (p:DPost K st H Qd Q) (e:Ev st H st1 H1):DPost K st1 H1 Qd Q:=fun v d H2 st2 e2 is rs q=>p v d H2 st2 (e.trans e2) is rs q
theorem DPost.here {K:PySem.W.Frag} {H:Hp} {Qd:DK} {Q:VK} {v:V} {d:D} {st:Sto} (p:DPost K st H Qd Q) (i:IsD K H d v) (r:RelS K st H) (q:Qd d st):Q v H:=p v d H st Ev.refl i r q
theorem DPost.newL {K:PySem.W.Frag} {H:Hp} {Qd:DK} {Q:VK} {ds:List D} {vs:List V} {st:Sto} (p:DPost K st H Qd Q) (r:RelS K st H) (w:IsDs K H ds vs) (q:∀ p,st p=none→Qd (.ref p) (updS st p (.lst ds))):∀ l,H l=none→Q (.ref l) (upd H l (.lst vs)):=fun l hl=>
 p _ (.ref l) _ (updS st l (.lst ds)) (Ev.newS hl) (.ref l) (r.putNew hl w) (q l (r.free hl))
theorem DPost.newT {K:PySem.W.Frag} {H:Hp} {Qd:DK} {Q:VK} {ds:List D} {vs:List V} {st:Sto} (p:DPost K st H Qd Q) (r:RelS K st H) (w:IsDs K H ds vs) (q:Qd (.tup ds) st):∀ l,H l=none→Q (.ref l) (upd H l (.tup vs)):=fun l hl=>
 p _ (.tup ds) _ st (Ev.new hl) (IsD.mk (SqT.of upd_same) (w.mono (TK.new hl))) (r.new hl) q
theorem up1 {K:PySem.W.Frag} {t:DT} {f:D→Sto→DK→Prop} {σ:L2.St} {H:Hp} {Q:VK} {R:V→Hp→Prop} (h:up K (fun env st Q=>t env st fun d st1=>f d st1 Q) σ H Q)
  (k:∀ v d H' st' Qd,IsD K H' d v→RelS K st' H'→f d st' Qd→DPost K st' H' Qd Q→R v H'):up K t σ H R:=by
 obtain ⟨env,st,Qd,hE,hS,ht,hq⟩:=h
 exact ⟨env,st,_,hE,hS,ht,fun v d H' st' ev is rs q=>k v d H' st' Qd is rs q (hq.after ev)⟩
theorem up2 {K:PySem.W.Frag} {t u:DT} {f:D→D→Sto→DK→Prop} {σ:L2.St} {H:Hp} {Q:VK} {R:V→V→Hp→Prop} (h:up K (fun env st Q=>t env st fun d st1=>u env st1 fun e st2=>f d e st2 Q) σ H Q)
  (k:∀ v w d e H' st' Qd,IsD K H' d v→IsD K H' e w→RelS K st' H'→f d e st' Qd→DPost K st' H' Qd Q→R v w H'):up K t σ H fun v H1=>up K u σ H1 fun w H2=>R v w H2:=by
 obtain ⟨env,st,Qd,hE,hS,ht,hq⟩:=h
 exact ⟨env,st,_,hE,hS,ht,fun v d H' st' ev is rs q=>⟨env,st',_,hE.mono (ev.tk hS),rs,q,fun w e H2 st2 ev2 is2 rs2 q2=>
  k v w d e H2 st2 Qd (is.mono (ev2.tk rs)) is2 rs2 q2 ((hq.after ev).after ev2)⟩⟩
theorem upA1 {K:PySem.W.Frag} {n:Nat} {t:DA} {f:List D→Sto→DK→Prop} {σ:L2.St} {H:Hp} {Q:VK} {R:List V→Hp→Prop} (h:up K (fun env st Q=>t env st fun ds st1=>f ds st1 Q) σ H Q)
  (k:∀ vs ds H' st' Qd,IsDs K H' ds vs→ds.length=n→RelS K st' H'→f ds st' Qd→DPost K st' H' Qd Q→R vs H'):upA K n t σ H R:=by
 obtain ⟨env,st,Qd,hE,hS,ht,hq⟩:=h
 exact ⟨env,st,_,hE,hS,ht,fun vs ds H' st' ev is hl rs q=>k vs ds H' st' Qd is hl rs q (hq.after ev)⟩
theorem pt_of {X:Cx} {x:Expr} {t:DT} (h:PE X x (up X.K t)) (he:∀ whole,isTrue x X.env whole=(do let v ← whole;standAt x.pos;holding [v] (truthy v))) :
  PT X x (upB X.K fun env st Q=>t env st fun d st'=>∃ b,d=.bl b∧Q b st'):=PT.imp (pt_val h he) fun σ H Q q=>by
 obtain ⟨env,st,Qd,hE,hS,ht,hq⟩:=q
 refine ⟨env,st,_,hE,hS,ht,fun v d H' st' ev is rs q=>?_⟩
 obtain ⟨b,rfl,q⟩:=q
 cases is
 exact ⟨b,rfl,hq b H' st' ev rs q⟩
end Ek
set_option Elab.async false
set_option linter.all false
set_option maxRecDepth 100000
set_option maxHeartbeats 4000000
namespace Ek
open PySem PySem.Spec PyProof.Rows L2
variable [Tbs]
mutual
theorem can_of:∀ d:D,d.pure=true→d.py.canLay0=true
 | .non,_=>rfl
 | .bl _,_=>rfl
 | .int _,_=>rfl
 | .str _,h=>h
 | .tup ds,h=>by show PyData.canLayAll0 (D.pys ds)=true;exact cans_of ds h
 | .ref _,h=>nomatch h
 | .fn _,h=>nomatch h
 | .clo _ _ _ _,h=>nomatch h
theorem cans_of:∀ ds:List D,D.pures ds=true→PyData.canLayAll0 (D.pys ds)=true
 | [],_=>rfl
 | d::r,h=>by
  have h':d.pure=true∧D.pures r=true:=by simpa [D.pures] using h
  show (d.py.canLay0 && PyData.canLayAll0 (D.pys r))=true
  rw [can_of d h'.1,cans_of r h'.2];rfl
end
theorem pures_mem:∀ {ds:List D},D.pures ds=true→∀ d ∈ ds,d.pure=true
 | [],_,d,h=>by cases h
 | e::r,h,d,hd=>by
  have h':e.pure=true∧D.pures r=true:=by simpa [D.pures] using h
  rcases List.mem_cons.mp hd with z | z
  ·rw [z];exact h'.1
  ·exact pures_mem h'.2 d z
section
variable {X:Cx} {pins:List (Addr × Obj)} {σ:L2.St} {H:Hp} {s:Shared}
theorem readsAll_of {P:D→Prop} (ih:∀ d v u,P d→IsD X.K H d v→RelV v u→∃ as,Reads s.heap u d.py as):∀ (ds:List D) (vs:List V) (us:List Value),(∀ d ∈ ds,P d)→IsDs X.K H ds vs→Vals vs us→∃ as,ReadsAll s.heap us (D.pys ds) as
 | [],vs,us,_,r,q=>by rw [r.inv_nil] at q;cases q;exact ⟨[],.nil⟩
 | d::ds,vs,us,hp,r,q=>by
  obtain ⟨v,ws,rfl,h1,h2⟩:=r.inv_cons
  cases q with
  | cons q1 q2=>
   obtain ⟨as,ra⟩:=ih d v _ (hp d (by simp)) h1 q1
   obtain ⟨bs,rb⟩:=readsAll_of ih ds ws _ (fun e he=>hp e (by simp [he])) h2 q2
   exact ⟨as++bs,.cons ra rb⟩
theorem reads_of (I:L2.Inv X pins σ H s) {d:D} {v:V} (h:IsD X.K H d v):∀ {u:Value},d.pure=true→RelV v u→∃ as,Reads s.heap u d.py as:=by
 induction h with
 | non=>intro u _ r;cases r;exact ⟨_,.none⟩
 | bl b=>intro u _ r;cases r;exact ⟨_,.bool b⟩
 | int i=>intro u _ r;obtain ⟨t,rfl⟩:=r;exact ⟨_,.int i t⟩
 | str x=>intro u _ r;obtain ⟨t,rfl⟩:=r;exact ⟨_,.str x t⟩
 | ref a=>intro u h;cases h
 | fn _=>intro u h;cases h
 | clo _ _ _ _=>intro u h;cases h
 | @tup a ds vs hq hl hat ih=>
  intro u hp r
  cases r
  obtain ⟨its,rv,⟨o,ho,hc,n,hd⟩,hz⟩:=I.tuple hq
  have all:∀ (ds':List D) (vs':List V) (us':List Value),(∀ (i:Nat) d v,ds'[i]?=some d→vs'[i]?=some v→∀ {u:Value},d.pure=true→RelV v u→∃ as,Reads s.heap u d.py as)→ds'.length=vs'.length→D.pures ds'=true→Vals vs' us'→∃ as,ReadsAll s.heap us' (D.pys ds') as:=by
   intro ds'
   induction ds' with
   | nil=>intro vs' us' _ hl' _ q;cases vs' with
    | nil=>cases q;exact ⟨[],.nil⟩
    | cons a b=>simp at hl'
   | cons e es ihe=>
    intro vs' us' hat' hl' hp' q
    cases vs' with
    | nil=>simp at hl'
    | cons w ws=>
     have hp2:e.pure=true∧D.pures es=true:=by simpa [D.pures] using hp'
     cases q with
     | cons q1 q2=>
      obtain ⟨as,ra⟩:=hat' 0 e w rfl rfl hp2.1 q1
      obtain ⟨bs,rb⟩:=ihe ws _ (fun i d v a b=>hat' (i + 1) d v (by simpa using a) (by simpa using b)) (by simpa using hl') hp2.2 q2
      exact ⟨as++bs,.cons ra rb⟩
  obtain ⟨as,ra⟩:=all ds vs its ih hl hp rv
  exact ⟨as,.tuple ho hc hd (by simpa using ra)⟩
theorem room150 {A:Around} {a b:Nat} (hu:A.units + 200 < cLine) (h:Nat.min a b≤150):A.units + min a b < cLine:=by
 have:min a b≤150:=h
 omega
theorem op_deq (hu:X.A.units + 200 < cLine):OpR X (compareOp .Eq) (fun x y H Q=>∃ d e,IsD X.K H d x∧IsD X.K H e y∧d.pure=true∧e.pure=true∧Nat.min (dpth d) (dpth e)≤150∧Q (.bl (deq d e)) H):=by
 intro pins s σ H x y v u Q I rx ry h
 obtain ⟨d,e,h1,h2,p1,p2,hd,q⟩:=h
 obtain ⟨as,ra⟩:=reads_of I h1 p1 rx
 obtain ⟨bs,rb⟩:=reads_of I h2 p2 ry
 exact SeqAt.rcAt_reads ra rb (can_of d p1) (can_of e p2) (room150 hu hd) X.prog X.w _ _ ⟨.bl (deq d e),H,I,rfl,q⟩
theorem op_dne (hu:X.A.units + 200 < cLine):OpR X (compareOp .NotEq) (fun x y H Q=>∃ d e,IsD X.K H d x∧IsD X.K H e y∧d.pure=true∧e.pure=true∧Nat.min (dpth d) (dpth e)≤150∧Q (.bl (!deq d e)) H):=by
 intro pins s σ H x y v u Q I rx ry h
 obtain ⟨d,e,h1,h2,p1,p2,hd,q⟩:=h
 obtain ⟨as,ra⟩:=reads_of I h1 p1 rx
 obtain ⟨bs,rb⟩:=reads_of I h2 p2 ry
 exact SeqAt.rcNeAt_reads ra rb (can_of d p1) (can_of e p2) (room150 hu hd) X.prog X.w _ _ ⟨.bl (!deq d e),H,I,rfl,q⟩
theorem pys_any:∀ (ds:List D) (x:D),((D.pys ds).any fun y=>PyData.eqv y x.py)=ds.any fun y=>deq y x
 | [],_=>rfl
 | d::r,x=>by
  show (PyData.eqv d.py x.py || (D.pys r).any _)=(deq d x || r.any _)
  rw [pys_any r x];rfl
theorem room151 {A:Around} {a b:Nat} (hu:A.units + 200 < cLine) (h:b≤150):A.units + 1 + min a b < cLine:=by
 have:min a b≤b:=Nat.min_le_right _ _
 omega
theorem op_din (hu:X.A.units + 200 < cLine):OpR X (compareOp .In) (fun x y H Q=>∃ d es,IsD X.K H d x∧IsD X.K H (.tup es) y∧d.pure=true∧D.pures es=true∧dpth d≤150∧Q (.bl (es.any fun e=>deq e d)) H):=by
 intro pins s σ H x y v u Q I rx ry h
 obtain ⟨d,es,h1,h2,p1,p2,hd,q⟩:=h
 obtain ⟨as,ra⟩:=reads_of I h1 p1 rx
 obtain ⟨bs,rb⟩:=reads_of I h2 p2 ry
 have rb':Reads s.heap u (.tuple (D.pys es)) bs:=rb
 exact SeqAt.in_tuple_reads rb' ra (cans_of es p2) (can_of d p1) (room151 hu hd) (by rw [pys_any];exact ⟨.bl _,H,I,rfl,q⟩)
theorem op_dnin (hu:X.A.units + 200 < cLine):OpR X (compareOp .NotIn) (fun x y H Q=>∃ d es,IsD X.K H d x∧IsD X.K H (.tup es) y∧d.pure=true∧D.pures es=true∧dpth d≤150∧Q (.bl (!es.any fun e=>deq e d)) H):=by
 intro pins s σ H x y v u Q I rx ry h
 obtain ⟨d,es,h1,h2,p1,p2,hd,q⟩:=h
 obtain ⟨as,ra⟩:=reads_of I h1 p1 rx
 obtain ⟨bs,rb⟩:=reads_of I h2 p2 ry
 have rb':Reads s.heap u (.tuple (D.pys es)) bs:=rb
 exact SeqAt.notIn_tuple_reads rb' ra (cans_of es p2) (can_of d p1) (room151 hu hd) (by rw [pys_any];exact ⟨.bl _,H,I,rfl,q⟩)
end
end Ek
set_option Elab.async false
set_option linter.all false
set_option maxRecDepth 100000
set_option maxHeartbeats 4000000
namespace Ek
open PySem PySem.Spec PyProof.Rows L2
variable [Tbs]
section
variable {X:Cx} {a b c:Expr} {ta tb tc:DT} {pos:Pos}
theorem de_c {x:Expr} {d:D} {v:V} (h:PE X x (tC v)) (i:∀ H,IsD X.K H d v):PE X x (up X.K fun _ st Q=>Q d st):=PE.imp h fun σ H Q q=>by
 obtain ⟨env,st,Qd,hE,hS,ht,hq⟩:=q
 exact hq.here (i H) hS ht
theorem de_var {i:Nat} {x:Str} (hN:X.N[i]?=some x) (hv:Vis X.env.scope x) (hd:(x == ("__debug__":Str))=false) (hcd:(x == ("__classdict__":Str))=false):PE X (.Name x pos) (up X.K fun env st Q=>∃ d,env[i]?=some (some d)∧Q d st):=
 PE.imp (pe_var hN hv hd hcd) fun σ H Q q=>by
  obtain ⟨env,st,Qd,hE,hS,⟨d,h1,ht⟩,hq⟩:=q
  obtain ⟨v,h2,is⟩:=hE.at' i d h1
  exact ⟨v,h2,hq.here is hS ht⟩
theorem starEach_plain {x:Expr} {xs:List Expr} {env:Env} (h:∀ e p,x ≠ .Starred e p):starEach (x::xs) env=(false,eval x env)::starEach xs env:=by
 cases x <;> first | rfl | exact absurd rfl (h _ _)
theorem da_nil:PA X [] (upA X.K 0 fun _ st Q=>Q [] st):=PA.imp pa_nil fun σ H Q q=>by
 obtain ⟨env,st,Qd,hE,hS,ht,hq⟩:=q
 exact hq [] [] H st Ev.refl .nil rfl hS ht
theorem da_cons {es:List Expr} {n:Nat} {t:DA} (ha:PE X a (up X.K ta)) (hr:PA X es (upA X.K n t)) (h:∀ e p,a ≠ .Starred e p):PA X (a::es) (upA X.K (n + 1) fun env st Q=>ta env st fun d st1=>t env st1 fun ds st2=>Q (d::ds) st2):=
 PA.imp (pa_cons ha hr (starEach_plain h)) fun σ H Q q=>by
  obtain ⟨env,st,Qd,hE,hS,ht,hq⟩:=q
  exact ⟨env,st,_,hE,hS,ht,fun v d H1 st1 ev is rs q1=>⟨env,st1,_,hE.mono (ev.tk hS),rs,q1,fun vs ds H2 st2 ev2 is2 hl rs2 q2=>
   hq (v::vs) (d::ds) H2 st2 (ev.trans ev2) (.cons (is.mono (ev2.tk rs)) is2) (by simp [hl]) rs2 q2⟩⟩
theorem de_tup {es:List Expr} {n k:Nat} {t:DA} (h:PA X es (upA X.K n t)) (hn:n≤1000):PE X (.Tuple es k pos) (up X.K fun env st Q=>t env st fun ds st1=>Q (.tup ds) st1):=
 PE.imp (pe_tup h) fun σ H Q q=>upA1 (f:=fun ds st1 Q=>Q (.tup ds) st1) q fun vs ds H' st' Qd is hl rs ht hq=>⟨by rw [← is.len,hl];exact Nat.le_of_lt (small1000 hn),hq.newT rs is ht⟩
theorem de_lst {es:List Expr} {n:Nat} {t:DA} (h:PA X es (upA X.K n t)) (hn:n≤1000):PE X (.List es pos) (up X.K fun env st Q=>t env st fun ds st1=>∀ p,st1 p=none→Q (.ref p) (updS st1 p (.lst ds))):=
 PE.imp (pe_lst h) fun σ H Q q=>upA1 (f:=fun ds st1 Q=>∀ p,st1 p=none→Q (.ref p) (updS st1 p (.lst ds))) q fun vs ds H' st' Qd is hl rs ht hq=>⟨by rw [← is.len,hl];exact Nat.le_of_lt (small1000 hn),hq.newL rs is ht⟩
theorem IsD.int_inv {K:PySem.W.Frag} {H:Hp} {i:Int} {v:V} (h:IsD K H (.int i) v):v=.int i:=by cases h;rfl
theorem IsD.str_inv {K:PySem.W.Frag} {H:Hp} {i:Str} {v:V} (h:IsD K H (.str i) v):v=.str i:=by cases h;rfl
theorem IsD.bl_inv {K:PySem.W.Frag} {H:Hp} {i:Bool} {v:V} (h:IsD K H (.bl i) v):v=.bl i:=by cases h;rfl
theorem IsD.ref_inv {K:PySem.W.Frag} {H:Hp} {i:Addr} {v:V} (h:IsD K H (.ref i) v):v=.ref i:=by cases h;rfl
theorem log2_le {n k:Nat} (h:n < 2 ^ k) (h0:n ≠ 0):n.log2 < k:=(Nat.log2_lt h0).mpr h
theorem bits_le {i:Int} (h:i.natAbs < 2 ^ 20000):Builtin.Int.intBits i≤20000:=by
 unfold Builtin.Int.intBits
 by_cases h0:i=0
 ·subst h0;exact Nat.zero_le _
 ·rw [if_neg (by simpa using h0)]
  exact log2_le h (by omega)
theorem CMulB.ok {i j:Int} (h:CMulB i j):IntMulOk i j:=by
 rcases h with h | ⟨h1,h2⟩
 ·exact h.ok
 ·have b1:=bits_le h1
  have b2:=bits_le h2
  unfold IntMulOk
  have:Builtin.Int.intTooBig ((Builtin.Int.intBits i:Int) + (Builtin.Int.intBits j:Int))=false:=by
   unfold Builtin.Int.intTooBig
   refine decide_eq_false ?_
   have:(40000:Int)≤(bitsLine:Nat):=by decide
   omega
  first
   | (rw [this];simp)
   | (intro z;simp only [Bool.and_eq_true] at z;have z3:=z.2;first | (rw [this] at z3;cases z3) | (simp [this] at z3))
theorem op_mulB:OpR X (binaryOp .Mult) (rI CMulB fun i j=>.int (i * j)):=opI fun _ _ _ _ _ _ _ hc q=>mul_int q hc.ok
theorem de_bin {o:Operator} (ha:PE X a (up X.K ta)) (hb:PE X b (up X.K tb)):PE X (.BinOp a o b pos) (up X.K fun env st Q=>ta env st fun x st1=>tb env st1 fun y st2=>binR o x y st2 Q):=by
 have bad:∀ {P:Prop},False→P:=fun h=>h.elim
 cases o with
 | Add=>
  refine PE.imp (pe_op (op_add.or (op_catA.or op_cat)) ha hb) fun σ H Q q=>up2 (f:=binR .Add) q fun v w d e H' st' Qd i1 i2 rs ht hq=>?_
  cases d <;> cases e <;> first | exact False.elim ht | skip
  ·exact .inl ⟨_,_,i1.int_inv,i2.int_inv,hq.here (.int _) rs ht⟩
  ·rename_i xs ys
   obtain ⟨p,vs,e1,q1,r1⟩:=i1.tup_inv
   obtain ⟨q',ws,e2,q2,r2⟩:=i2.tup_inv
   refine .inr (.inl ⟨p,q',vs,ws,e1,e2,q1,q2,by rw [← r1.len,← r2.len];exact ht.1,fun z=>?_,fun z1 z2=>?_,fun _ _=>hq.newT rs (r1.append r2) ht.2⟩)
   ·have:xs=[]:=by rw [z] at r1;have:=r1.len;exact List.eq_nil_of_length_eq_zero (by simpa using this)
    subst this
    exact hq.here (IsD.mk q2 r2) rs ht.2
   ·have:ys=[]:=by rw [z2] at r2;have:=r2.len;exact List.eq_nil_of_length_eq_zero (by simpa using this)
    subst this
    have h2:=ht.2
    rw [List.append_nil] at h2
    exact hq.here (IsD.mk q1 r1) rs h2
  ·obtain ⟨xs,ys,s1,s2,hz,h2⟩:=ht
   obtain ⟨vs,e1,r1⟩:=rs.lst s1
   obtain ⟨ws,e2,r2⟩:=rs.lst s2
   exact .inr (.inr ⟨_,_,vs,ws,i1.ref_inv,i2.ref_inv,e1,e2,by rw [← r1.len,← r2.len];exact hz,hq.newL rs (r1.append r2) h2⟩)
 | Sub=>
  refine PE.imp (pe_op op_sub ha hb) fun σ H Q q=>up2 (f:=binR .Sub) q fun v w d e H' st' Qd i1 i2 rs ht hq=>?_
  cases d <;> cases e <;> first | exact False.elim ht | skip
  exact ⟨_,_,i1.int_inv,i2.int_inv,hq.here (.int _) rs ht⟩
 | Mult=>
  refine PE.imp (pe_op op_mulB ha hb) fun σ H Q q=>up2 (f:=binR .Mult) q fun v w d e H' st' Qd i1 i2 rs ht hq=>?_
  cases d <;> cases e <;> first | exact False.elim ht | skip
  exact ⟨_,_,i1.int_inv,i2.int_inv,ht.1,hq.here (.int _) rs ht.2⟩
 | Mod=>
  refine PE.imp (pe_op op_mod ha hb) fun σ H Q q=>up2 (f:=binR .Mod) q fun v w d e H' st' Qd i1 i2 rs ht hq=>?_
  cases d <;> cases e <;> first | exact False.elim ht | skip
  exact ⟨_,_,i1.int_inv,i2.int_inv,ht.1,hq.here (.int _) rs ht.2⟩
 | FloorDiv=>
  refine PE.imp (pe_op op_fdivB ha hb) fun σ H Q q=>up2 (f:=binR .FloorDiv) q fun v w d e H' st' Qd i1 i2 rs ht hq=>?_
  cases d <;> cases e <;> first | exact False.elim ht | skip
  exact ⟨_,_,i1.int_inv,i2.int_inv,ht.1,hq.here (.int _) rs ht.2⟩
 | Pow=>
  refine PE.imp (pe_op op_pow ha hb) fun σ H Q q=>up2 (f:=binR .Pow) q fun v w d e H' st' Qd i1 i2 rs ht hq=>?_
  cases d <;> cases e <;> first | exact False.elim ht | skip
  exact ⟨_,_,i1.int_inv,i2.int_inv,ht.1,hq.here (.int _) rs ht.2⟩
 | _=>
  refine PE.imp (pe_op (op:=_) (r:=fun _ _ _ _=>False) (fun _ _ _ _ _ _ _ _ _ _ _ _ h=>h.elim) ha hb) fun σ H Q q=>up2 (f:=fun _ _ _ _=>False) (by
   obtain ⟨env,st,Qd,hE,hS,ht,hq⟩:=q
   exact ⟨env,st,Qd,hE,hS,ht,hq⟩) fun v w d e H' st' Qd i1 i2 rs ht hq=>ht
theorem de_neg (ha:PE X a (up X.K ta)):PE X (.UnaryOp .USub a pos) (up X.K fun env st Q=>ta env st fun x st1=>∃ i,x=.int i∧Q (.int (-i)) st1):=
 PE.imp (pe_un un_neg ha) fun σ H Q q=>up1 (f:=fun x st1 Q=>∃ i,x=.int i∧Q (.int (-i)) st1) q fun v d H' st' Qd is rs ht hq=>by
  obtain ⟨i,rfl,ht⟩:=ht
  exact ⟨i,is.int_inv,hq.here (.int _) rs ht⟩
noncomputable def cmpL (X:Cx):CmpOp→R2
 | .Eq=>fun x y H Q=>∃ d e,IsD X.K H d x∧IsD X.K H e y∧d.pure=true∧e.pure=true∧Nat.min (dpth d) (dpth e)≤150∧Q (.bl (deq d e)) H
 | .NotEq=>fun x y H Q=>∃ d e,IsD X.K H d x∧IsD X.K H e y∧d.pure=true∧e.pure=true∧Nat.min (dpth d) (dpth e)≤150∧Q (.bl (!deq d e)) H
 | .Lt=>rI0 fun i j=>.bl (decide (i < j))
 | .LtE=>rI0 fun i j=>.bl (decide (i≤j))
 | .Gt=>rI0 fun i j=>.bl (decide (j < i))
 | .GtE=>rI0 fun i j=>.bl (decide (j≤i))
 | .In=>fun x y H Q=>(∃ d es,IsD X.K H d x∧IsD X.K H (.tup es) y∧d.pure=true∧D.pures es=true∧dpth d≤150∧Q (.bl (es.any fun e=>deq e d)) H) ∨ ∃ a k kvs,x=kV k∧y=.ref a∧H a=some (.dK kvs)∧Q (.bl (valV kvs k).isSome) H
 | .NotIn=>fun x y H Q=>(∃ d es,IsD X.K H d x∧IsD X.K H (.tup es) y∧d.pure=true∧D.pures es=true∧dpth d≤150∧Q (.bl (!es.any fun e=>deq e d)) H) ∨ ∃ a k kvs,x=kV k∧y=.ref a∧H a=some (.dK kvs)∧Q (.bl (!(valV kvs k).isSome)) H
 | _=>fun _ _ _ _=>False
theorem op_cmpL (hu:X.A.units + 200 < cLine):∀ o:CmpOp,OpR X (compareOp o) (cmpL X o)
 | .Eq=>op_deq hu
 | .NotEq=>op_dne hu
 | .Lt=>op_lt
 | .LtE=>op_le
 | .Gt=>op_gt
 | .GtE=>op_ge
 | .In=>fun pins s σ H x y v u Q I rx ry h=>by
  rcases h with h | ⟨a,k,kvs,rfl,rfl,e,q⟩
  ·exact op_din hu pins s σ H x y v u Q I rx ry h
  ·cases ry
   exact d_in (by omega) I (DGet.k e) rx fun s' I'=>⟨.bl _,H,I',rfl,q⟩
 | .NotIn=>fun pins s σ H x y v u Q I rx ry h=>by
  rcases h with h | ⟨a,k,kvs,rfl,rfl,e,q⟩
  ·exact op_dnin hu pins s σ H x y v u Q I rx ry h
  ·cases ry
   exact d_notIn (by omega) I (DGet.k e) rx fun s' I'=>⟨.bl _,H,I',rfl,q⟩
 | .Is=>fun _ _ _ _ _ _ _ _ _ _ _ _ h=>h.elim
 | .IsNot=>fun _ _ _ _ _ _ _ _ _ _ _ _ h=>h.elim
theorem cmpR_L {o:CmpOp} {v w:V} {d e:D} {H':Hp} {st':Sto} {Qd:DK} {Q:VK} (i1:IsD X.K H' d v) (i2:IsD X.K H' e w) (rs:RelS X.K st' H') (ht:cmpR o d e st' Qd) (hq:DPost X.K st' H' Qd Q):cmpL X o v w H' Q:=by
 cases o with
 | Eq=>exact ⟨d,e,i1,i2,ht.1,ht.2.1,ht.2.2.1,hq.here (.bl _) rs ht.2.2.2⟩
 | NotEq=>exact ⟨d,e,i1,i2,ht.1,ht.2.1,ht.2.2.1,hq.here (.bl _) rs ht.2.2.2⟩
 | Lt=>cases d <;> cases e <;> first | exact False.elim ht | exact ⟨_,_,i1.int_inv,i2.int_inv,hq.here (.bl _) rs ht⟩
 | LtE=>cases d <;> cases e <;> first | exact False.elim ht | exact ⟨_,_,i1.int_inv,i2.int_inv,hq.here (.bl _) rs ht⟩
 | Gt=>cases d <;> cases e <;> first | exact False.elim ht | exact ⟨_,_,i1.int_inv,i2.int_inv,hq.here (.bl _) rs ht⟩
 | GtE=>cases d <;> cases e <;> first | exact False.elim ht | exact ⟨_,_,i1.int_inv,i2.int_inv,hq.here (.bl _) rs ht⟩
 | In=>
  have hd:∀ (k:Key) (a:Addr) (kvs:List (Key × D)),v=kV k→w=.ref a→st' a=some (.dct kvs)→Qd (.bl (lookK kvs k).isSome) st'→cmpL X .In v w H' Q:=fun k a kvs e1 e2 e3 ht=>by
   obtain ⟨vs,h1,h2⟩:=rs.dct e3
   refine .inr ⟨a,k,vs,e1,e2,h1,?_⟩
   rcases h2.look k with ⟨l1,l2⟩ | ⟨d,v,l1,l2,_⟩ <;> (rw [l1] at ht;rw [l2];exact hq.here (.bl _) rs ht)
  cases e with
  | tup es=>exact .inl ⟨d,es,i1,i2,ht.1,ht.2.1,ht.2.2.1,hq.here (.bl _) rs ht.2.2.2⟩
  | ref a=>
   cases d <;> first | exact False.elim ht | skip
   ·obtain ⟨kvs,e,ht⟩:=ht;exact hd (.inl _) a kvs i1.int_inv i2.ref_inv e ht
   ·obtain ⟨kvs,e,ht⟩:=ht;exact hd (.inr _) a kvs i1.str_inv i2.ref_inv e ht
  | _=>exact False.elim (by cases d <;> exact ht)
 | NotIn=>
  have hd:∀ (k:Key) (a:Addr) (kvs:List (Key × D)),v=kV k→w=.ref a→st' a=some (.dct kvs)→Qd (.bl (!(lookK kvs k).isSome)) st'→cmpL X .NotIn v w H' Q:=fun k a kvs e1 e2 e3 ht=>by
   obtain ⟨vs,h1,h2⟩:=rs.dct e3
   refine .inr ⟨a,k,vs,e1,e2,h1,?_⟩
   rcases h2.look k with ⟨l1,l2⟩ | ⟨d,v,l1,l2,_⟩ <;> (rw [l1] at ht;rw [l2];exact hq.here (.bl _) rs ht)
  cases e with
  | tup es=>exact .inl ⟨d,es,i1,i2,ht.1,ht.2.1,ht.2.2.1,hq.here (.bl _) rs ht.2.2.2⟩
  | ref a=>
   cases d <;> first | exact False.elim ht | skip
   ·obtain ⟨kvs,e,ht⟩:=ht;exact hd (.inl _) a kvs i1.int_inv i2.ref_inv e ht
   ·obtain ⟨kvs,e,ht⟩:=ht;exact hd (.inr _) a kvs i1.str_inv i2.ref_inv e ht
  | _=>exact False.elim (by cases d <;> exact ht)
 | Is=>exact False.elim ht
 | IsNot=>exact False.elim ht
theorem marks_of (o:CmpOp) (b:Expr) (h:∀ es k p,b ≠ .Set es k p):behindInMarks o b=false:=by
 cases b <;> first | rfl | exact absurd rfl (h _ _ _)
theorem de_cmp {o:CmpOp} (hu:X.A.units + 200 < cLine) (ha:PE X a (up X.K ta)) (hb:PE X b (up X.K tb)) (hm:∀ es k p,b ≠ .Set es k p):PE X (.Compare a [o] [b] pos) (up X.K fun env st Q=>ta env st fun x st1=>tb env st1 fun y st2=>cmpR o x y st2 Q):=
 PE.imp (pe_cmpR (op_cmpL hu o) ha hb (marks_of o b hm)) fun σ H Q q=>up2 (f:=cmpR o) q fun v w d e H' st' Qd i1 i2 rs ht hq=>cmpR_L i1 i2 rs ht hq
theorem dt_cmp {o:CmpOp} (hu:X.A.units + 200 < cLine) (ha:PE X a (up X.K ta)) (hb:PE X b (up X.K tb)) (hm:∀ es k p,b ≠ .Set es k p) :
  PT X (.Compare a [o] [b] pos) (upB X.K fun env st Q=>ta env st fun x st1=>tb env st1 fun y st2=>cmpR o x y st2 fun d st'=>∃ k,d=.bl k∧Q k st'):=
 PT.imp (pt_cmpR (op_cmpL hu o) ha hb (marks_of o b hm)) fun σ H Q q=>by
  obtain ⟨env,st,Qd,hE,hS,ht,hq⟩:=q
  refine up2 (f:=cmpR o) (Q:=fun x H'=>∃ k,x=.bl k∧Q k H') ⟨env,st,_,hE,hS,ht,fun v d H' st' ev is rs q1=>?_⟩ fun v w d e H' st' Qd i1 i2 rs ht hq=>cmpR_L i1 i2 rs ht hq
  obtain ⟨k,rfl,q1⟩:=q1
  exact ⟨k,is.bl_inv,hq k H' st' ev rs q1⟩
theorem de_isN {j pos'} (ha:PE X a (up X.K ta)):PE X (.Compare a [.Is] [.Constant .none j pos'] pos) (up X.K fun env st Q=>ta env st fun x st1=>(x=.non∧Q (.bl true) st1) ∨ (x ≠ .non∧Q (.bl false) st1)):=
 PE.imp (pe_cmp (pc_isN ha) rfl) fun σ H Q q=>up1 (f:=fun x st1 Q=>(x=.non∧Q (.bl true) st1) ∨ (x ≠ .non∧Q (.bl false) st1)) q fun v d H' st' Qd is rs ht hq=>by
  rcases ht with ⟨rfl,ht⟩ | ⟨hn,ht⟩
  ·cases is;exact hq.here (.bl _) rs (by simpa using ht)
  ·have e:decide (v=V.non)=false:=decide_eq_false fun z=>hn (by subst z;cases is;rfl)
   rw [e];exact hq.here (.bl _) rs ht
theorem de_notN {j pos'} (ha:PE X a (up X.K ta)):PE X (.Compare a [.IsNot] [.Constant .none j pos'] pos) (up X.K fun env st Q=>ta env st fun x st1=>(x=.non∧Q (.bl false) st1) ∨ (x ≠ .non∧Q (.bl true) st1)):=
 PE.imp (pe_cmp (pc_notN ha) rfl) fun σ H Q q=>up1 (f:=fun x st1 Q=>(x=.non∧Q (.bl false) st1) ∨ (x ≠ .non∧Q (.bl true) st1)) q fun v d H' st' Qd is rs ht hq=>by
  rcases ht with ⟨rfl,ht⟩ | ⟨hn,ht⟩
  ·cases is;exact hq.here (.bl _) rs (by simpa using ht)
  ·have e:decide (v=V.non)=false:=decide_eq_false fun z=>hn (by subst z;cases is;rfl)
   rw [e];exact hq.here (.bl _) rs ht
theorem dt_tB {x:Expr} {t:TE} {f:DT} (h:PT X x (tB t)) (i:∀ σ H Q,up X.K f σ H Q→t σ H Q):PT X x (upB X.K fun env st Q=>f env st fun d st'=>∃ b,d=.bl b∧Q b st'):=PT.imp h fun σ H Q q=>by
 obtain ⟨env,st,Qd,hE,hS,ht,hq⟩:=q
 refine i σ H _ ⟨env,st,_,hE,hS,ht,fun v d H' st' ev is rs q=>?_⟩
 obtain ⟨b,rfl,q⟩:=q
 cases is
 exact ⟨b,rfl,hq b H' st' ev rs q⟩
theorem dt_isN {j pos'} (ha:PE X a (up X.K ta)):PT X (.Compare a [.Is] [.Constant .none j pos'] pos) (upB X.K fun env st Q=>ta env st fun x st1=>(x=.non∧∃ b,D.bl true=.bl b∧Q b st1) ∨ (x ≠ .non∧∃ b,D.bl false=.bl b∧Q b st1)):=
 dt_tB (f:=fun env st Q=>ta env st fun x st1=>(x=.non∧Q (.bl true) st1) ∨ (x ≠ .non∧Q (.bl false) st1)) (pt_cmp (pc_isN ha) rfl) fun σ H Q q=>up1 (f:=fun x st1 Q=>(x=.non∧Q (.bl true) st1) ∨ (x ≠ .non∧Q (.bl false) st1)) q fun v d H' st' Qd is rs ht hq=>by
  rcases ht with ⟨rfl,ht⟩ | ⟨hn,ht⟩
  ·cases is;exact hq.here (.bl _) rs (by simpa using ht)
  ·have e:decide (v=V.non)=false:=decide_eq_false fun z=>hn (by subst z;cases is;rfl)
   rw [e];exact hq.here (.bl _) rs ht
theorem dt_notN {j pos'} (ha:PE X a (up X.K ta)):PT X (.Compare a [.IsNot] [.Constant .none j pos'] pos) (upB X.K fun env st Q=>ta env st fun x st1=>(x=.non∧∃ b,D.bl false=.bl b∧Q b st1) ∨ (x ≠ .non∧∃ b,D.bl true=.bl b∧Q b st1)):=
 dt_tB (f:=fun env st Q=>ta env st fun x st1=>(x=.non∧Q (.bl false) st1) ∨ (x ≠ .non∧Q (.bl true) st1)) (pt_cmp (pc_notN ha) rfl) fun σ H Q q=>up1 (f:=fun x st1 Q=>(x=.non∧Q (.bl false) st1) ∨ (x ≠ .non∧Q (.bl true) st1)) q fun v d H' st' Qd is rs ht hq=>by
  rcases ht with ⟨rfl,ht⟩ | ⟨hn,ht⟩
  ·cases is;exact hq.here (.bl _) rs (by simpa using ht)
  ·have e:decide (v=V.non)=false:=decide_eq_false fun z=>hn (by subst z;cases is;rfl)
   rw [e];exact hq.here (.bl _) rs ht
noncomputable abbrev tst (t:DT):DB:=fun env st Q=>t env st fun d st'=>∃ b,d=.bl b∧Q b st'
variable {rest:List Expr}
theorem de_and (ha:PE X a (up X.K ta)) (hb:PE X (.BoolOp .And (b::rest) pos) (up X.K tb)):PE X (.BoolOp .And (a::b::rest) pos) (up X.K fun env st Q=>ta env st fun x st1=>∃ c,x=.bl c∧(if c=true then tb env st1 Q else Q (.bl false) st1)):=
 PE.imp (pe_and ha hb) fun σ H Q q=>by
  obtain ⟨env,st,Qd,hE,hS,ht,hq⟩:=q
  refine ⟨env,st,_,hE,hS,ht,fun v d H1 st1 ev is rs q1=>?_⟩
  obtain ⟨k,rfl,q1⟩:=q1
  refine ⟨k,is.bl_inv,?_⟩
  cases k with
  | true=>exact ⟨env,st1,Qd,hE.mono (ev.tk hS),rs,q1,hq.after ev⟩
  | false=>exact (hq.after ev).here (.bl _) rs q1
theorem de_or (ha:PE X a (up X.K ta)) (hb:PE X (.BoolOp .Or (b::rest) pos) (up X.K tb)):PE X (.BoolOp .Or (a::b::rest) pos) (up X.K fun env st Q=>ta env st fun x st1=>∃ c,x=.bl c∧(if c=true then Q (.bl true) st1 else tb env st1 Q)):=
 PE.imp (pe_or ha hb) fun σ H Q q=>by
  obtain ⟨env,st,Qd,hE,hS,ht,hq⟩:=q
  refine ⟨env,st,_,hE,hS,ht,fun v d H1 st1 ev is rs q1=>?_⟩
  obtain ⟨k,rfl,q1⟩:=q1
  refine ⟨k,is.bl_inv,?_⟩
  cases k with
  | false=>exact ⟨env,st1,Qd,hE.mono (ev.tk hS),rs,q1,hq.after ev⟩
  | true=>exact (hq.after ev).here (.bl _) rs q1
theorem de_not (ha:PE X a (up X.K ta)):PE X (.UnaryOp .Not a pos) (up X.K fun env st Q=>ta env st fun x st1=>∃ c,x=.bl c∧Q (.bl (!c)) st1):=
 PE.imp (pe_not ha) fun σ H Q q=>up1 (f:=fun x st1 Q=>∃ c,x=.bl c∧Q (.bl (!c)) st1) q fun v d H' st' Qd is rs ht hq=>by
  obtain ⟨c,rfl,ht⟩:=ht
  exact ⟨c,is.bl_inv,hq.here (.bl _) rs ht⟩
theorem dw_and (ha:PT X a (upB X.K (tst ta))) (hb:PW X (.BoolOp .And (b::rest) pos) (upB X.K (tst tb))):PW X (.BoolOp .And (a::b::rest) pos) (upB X.K (tst fun env st Q=>ta env st fun x st1=>∃ c,x=.bl c∧(if c=true then tb env st1 Q else Q (.bl false) st1))):=
 PW.imp (pw_and ha hb) fun σ H Q q=>by
  obtain ⟨env,st,Qd,hE,hS,ht,hq⟩:=q
  refine ⟨env,st,fun c st1=>if c=true then tb env st1 (fun d st'=>∃ b,d=.bl b∧Qd b st') else ∃ b,D.bl false=.bl b∧Qd b st1,hE,hS,ht,fun k H1 st1 ev rs q1=>?_⟩
  cases k with
  | true=>
   rw [if_pos rfl] at q1 ⊢
   exact ⟨env,st1,Qd,hE.mono (ev.tk hS),rs,q1,fun c H2 st2 ev2 rs2 q2=>hq c H2 st2 (ev.trans ev2) rs2 q2⟩
  | false=>
   rw [if_neg Bool.false_ne_true] at q1 ⊢
   obtain ⟨b,e,q1⟩:=q1
   cases e
   exact hq false H1 st1 ev rs q1
theorem dw_or (ha:PT X a (upB X.K (tst ta))) (hb:PW X (.BoolOp .Or (b::rest) pos) (upB X.K (tst tb))):PW X (.BoolOp .Or (a::b::rest) pos) (upB X.K (tst fun env st Q=>ta env st fun x st1=>∃ c,x=.bl c∧(if c=true then Q (.bl true) st1 else tb env st1 Q))):=
 PW.imp (pw_or ha hb) fun σ H Q q=>by
  obtain ⟨env,st,Qd,hE,hS,ht,hq⟩:=q
  refine ⟨env,st,fun c st1=>if c=true then ∃ b,D.bl true=.bl b∧Qd b st1 else tb env st1 (fun d st'=>∃ b,d=.bl b∧Qd b st'),hE,hS,ht,fun k H1 st1 ev rs q1=>?_⟩
  cases k with
  | false=>
   rw [if_neg Bool.false_ne_true] at q1 ⊢
   exact ⟨env,st1,Qd,hE.mono (ev.tk hS),rs,q1,fun c H2 st2 ev2 rs2 q2=>hq c H2 st2 (ev.trans ev2) rs2 q2⟩
  | true=>
   rw [if_pos rfl] at q1 ⊢
   obtain ⟨b,e,q1⟩:=q1
   cases e
   exact hq true H1 st1 ev rs q1
theorem dt_not (ha:PT X a (upB X.K (tst ta))):PT X (.UnaryOp .Not a pos) (upB X.K (tst fun env st Q=>ta env st fun x st1=>∃ c,x=.bl c∧Q (.bl (!c)) st1)):=
 PT.imp (pt_not ha) fun σ H Q q=>by
  obtain ⟨env,st,Qd,hE,hS,ht,hq⟩:=q
  refine ⟨env,st,fun c st1=>∃ b,D.bl (!c)=.bl b∧Qd b st1,hE,hS,ht,fun k H1 st1 ev rs q1=>?_⟩
  obtain ⟨b,e,q1⟩:=q1
  cases e
  exact hq _ H1 st1 ev rs q1
theorem de_ite {t1:DT} (hc:PT X c (upB X.K (tst t1))) (ha:PE X a (up X.K ta)) (hb:PE X b (up X.K tb)):PE X (.IfExp c a b pos) (up X.K fun env st Q=>t1 env st fun x st1=>∃ k,x=.bl k∧(if k=true then ta env st1 Q else tb env st1 Q)):=
 PE.imp (pe_ifExp hc ha hb) fun σ H Q q=>by
  obtain ⟨env,st,Qd,hE,hS,ht,hq⟩:=q
  refine ⟨env,st,fun k st1=>if k=true then ta env st1 Qd else tb env st1 Qd,hE,hS,ht,fun k H1 st1 ev rs q1=>?_⟩
  cases k with
  | true=>exact ⟨env,st1,Qd,hE.mono (ev.tk hS),rs,q1,hq.after ev⟩
  | false=>exact ⟨env,st1,Qd,hE.mono (ev.tk hS),rs,q1,hq.after ev⟩
end
end Ek
set_option Elab.async false
set_option linter.all false
set_option maxRecDepth 100000
set_option maxHeartbeats 4000000
namespace Ek
open PySem PySem.Spec PyProof.Rows L2
variable [Tbs]
section
variable {X:Cx} {a b c:Expr} {ta tb tc:DT} {pos p:Pos}
theorem atI_of {K:PySem.W.Frag} {H:Hp} {ds:List D} {vs:List V} {i:Int} {d:D} (r:IsDs K H ds vs) (h:atI ds i=some d):∃ v,atI vs i=some v∧IsD K H d v:=by
 unfold atI at h ⊢
 rw [← r.len]
 cases e:ixN ds.length i with
 | none=>rw [e] at h;cases h
 | some j=>
  rw [e] at h
  exact r.get h
theorem plainIx_of (h:∀ l u s p,b ≠ .Slice l u s p):PlainIx b:=fun o i=>by
 cases b <;> first | rfl | exact absurd rfl (h _ _ _ _)
noncomputable def rIxD:R2:=fun x y H Q=>∃ p k kvs v,x=.ref p∧y=kV k∧H p=some (.dK kvs)∧valV kvs k=some v∧Q v H
theorem ix_dct (hu:X.A.units + 200 < cLine):IxR X rIxD:=by
 intro value slice pins s σ H x y v u Q I rx ry h hs
 obtain ⟨p,k,kvs,z,rfl,rfl,hH,hv,q⟩:=h
 cases rx
 have g:DGet H p (kV k) (some z):=by rw [← hv];exact DGet.k hH
 have hT:=dict_typeIs I g
 unfold subscriptTail
 refine wpAny_bind ?_
 rw [getitemInPython_of_ne hT.not_modules]
 refine wpAny_bind (wpAny_specialOf hT PySem.F.slot_dict_getitem.lookup ?_)
 have fin:wpAny (model X.prog X.w) X.A (subscripted slice false (.ref p) u) (fun r s₃=>wpAny (model X.prog X.w) X.A (letTemporaryGo value (.ref p) r >>= fun _=>pure r) (EP X pins σ Q) X.xe s₃) X.xe s:=by
  rw [hs]
  refine wpAny_operating (d_getItem (by omega) I g ry fun w' s3 I3 rw'=>wpAny_bind (wpAny_letTemporaryGo (wpAny_pure ⟨z,H,I3,rw',q⟩)))
 first
  | exact wpAny_pure (wpAny_bind fin)
  | exact wpAny_bind (wpAny_pure (wpAny_bind fin))
  | exact wpAny_bind fin
theorem de_ix (hu:X.A.units + 200 < cLine) (ha:PE X a (up X.K ta)) (hb:PE X b (up X.K tb)) (hs:∀ l u s p,b ≠ .Slice l u s p):PE X (.Subscript a b pos) (up X.K fun env st Q=>ta env st fun x st1=>tb env st1 fun y st2=>ixR x y st2 Q):=
 PE.imp (pe_ix (ix_list.or (ix_tup.or ((ix_dct hu).or ix_str))) ha hb (plainIx_of hs)) fun σ H Q q=>up2 (f:=ixR) q fun v w d e H' st' Qd i1 i2 rs ht hq=>by
  cases d <;> cases e <;> first | exact False.elim ht | skip
  ·obtain ⟨c,hl,e1,ht⟩:=ht
   exact .inr (.inr (.inr ⟨_,_,c,i1.str_inv,i2.int_inv,hl,e1,hq.here (.str _) rs ht⟩))
  ·obtain ⟨d,e1,ht⟩:=ht
   obtain ⟨p,vs,rfl,hq',r⟩:=i1.tup_inv
   obtain ⟨v',e2,is⟩:=atI_of r e1
   exact .inr (.inl ⟨p,vs,_,v',rfl,i2.int_inv,hq',e2,hq.here is rs ht⟩)
  ·rcases ht with ⟨ds,d,hr,e1,ht⟩ | ⟨kvs,d,hr,e1,ht⟩
   ·obtain ⟨vs,hq',r⟩:=rs.rd hr
    obtain ⟨v',e2,is⟩:=atI_of r e1
    exact .inl ⟨_,vs,_,v',i1.ref_inv,i2.int_inv,hq',e2,hq.here is rs ht⟩
   ·obtain ⟨vs,hH,r⟩:=rs.dct hr
    rcases r.look (.inl _) with ⟨l1,l2⟩ | ⟨d',v',l1,l2,is⟩
    ·rw [l1] at e1;cases e1
    ·rw [l1] at e1;cases e1
     exact .inr (.inr (.inl ⟨_,.inl _,vs,v',i1.ref_inv,i2.int_inv,hH,l2,hq.here is rs ht⟩))
  ·obtain ⟨kvs,d,hr,e1,ht⟩:=ht
   obtain ⟨vs,hH,r⟩:=rs.dct hr
   rcases r.look (.inr _) with ⟨l1,l2⟩ | ⟨d',v',l1,l2,is⟩
   ·rw [l1] at e1;cases e1
   ·rw [l1] at e1;cases e1
    exact .inr (.inr (.inl ⟨_,.inr _,vs,v',i1.ref_inv,i2.str_inv,hH,l2,hq.here is rs ht⟩))
noncomputable abbrev DO:=DEnv→Sto→(Option Int→Sto→Prop)→Prop
noncomputable def upO (K:PySem.W.Frag) (t:DO):TO:=fun σ H Q=>∃ env st Qd,RelE K H env σ∧RelS K st H∧t env st Qd∧∀ o H' st',Ev st H st' H'→RelS K st' H'→Qd o st'→Q o H'
theorem _root_.L2.PO.imp {X:Cx} {x:Option Expr} {t t':TO} (h:PO X x t) (i:∀ σ H Q,t' σ H Q→t σ H Q):PO X x t':=fun pins s σ H Q I q=>h pins s σ H Q I (i σ H Q q)
theorem do_none:PO X none (upO X.K fun _ st k=>k none st):=PO.imp po_none fun σ H Q q=>by
 obtain ⟨env,st,Qd,hE,hS,ht,hq⟩:=q
 exact hq none H st Ev.refl hS ht
theorem do_some (ha:PE X a (up X.K ta)):PO X (some a) (upO X.K fun env st k=>ta env st fun d st'=>∃ i,d=.int i∧k (some i) st'):=PO.imp (po_some ha) fun σ H Q q=>by
 obtain ⟨env,st,Qd,hE,hS,ht,hq⟩:=q
 refine ⟨env,st,_,hE,hS,ht,fun v d H' st' ev is rs q1=>?_⟩
 obtain ⟨i,rfl,q1⟩:=q1
 exact ⟨i,is.int_inv,hq _ H' st' ev rs q1⟩
theorem cut_of {K:PySem.W.Frag} {H:Hp} {ds:List D} {vs:List V} (r:IsDs K H ds vs) (lo hi:Option Int):IsDs K H (cutD ds lo hi) (cutV vs lo hi):=by
 unfold cutD cutV
 rw [r.len]
 exact (r.drop _).take _
theorem de_sl {lo hi:Option Expr} {tl th:DO} {p2:Pos} (ha:PE X a (up X.K ta)) (hl:PO X lo (upO X.K tl)) (hh:PO X hi (upO X.K th)) :
  PE X (.Subscript a (.Slice lo hi none p2) pos) (up X.K fun env st Q=>ta env st fun x st1=>tl env st1 fun l st2=>th env st2 fun h st3=>slR x l h st3 Q):=
 PE.imp (pe_slice (sl_tup.or sl_list) ha hl hh) fun σ H Q q=>by
  obtain ⟨env,st,Qd,hE,hS,ht,hq⟩:=q
  refine ⟨env,st,_,hE,hS,ht,fun v d H1 st1 ev1 is1 rs1 q1=>⟨env,st1,_,hE.mono (ev1.tk hS),rs1,q1,fun l H2 st2 ev2 rs2 q2=>⟨env,st2,_,(hE.mono (ev1.tk hS)).mono (ev2.tk rs1),rs2,q2,fun h H3 st3 ev3 rs3 q3=>?_⟩⟩⟩
  have is3:=(is1.mono (ev2.tk rs1)).mono (ev3.tk rs2)
  have hq3:=((hq.after ev1).after ev2).after ev3
  cases d <;> first | exact False.elim q3 | skip
  ·obtain ⟨p,vs,rfl,hs,r⟩:=is3.tup_inv
   exact .inl ⟨p,vs,rfl,hs,by rw [← r.len];exact q3.1,hq3.newT rs3 (cut_of r l h) q3.2⟩
  ·obtain ⟨ds,hr,q3⟩:=q3
   obtain ⟨vs,hs,r⟩:=rs3.rd hr
   exact .inr ⟨_,vs,is3.ref_inv,hs,hq3.newL rs3 (cut_of r l h) q3⟩
theorem da_one (ha:PE X a (up X.K ta)) (h:∀ e p,a ≠ .Starred e p):PA X [a] (upA X.K 1 fun env st Q=>ta env st fun d st1=>Q [d] st1):=da_cons ha da_nil h
theorem de_b1 {id:String} {f:Str} {r:List V→Hp→VK→Prop} {g:D→Sto→DK→Prop} (hc:CallR X (.builtin id) r) (hg:Gl X f) (hm:X.mg f=none) (hv:bootBuiltins f=some (.builtin id)) (ha:PE X a (up X.K ta)) (hs:∀ e p,a ≠ .Starred e p)
  (imp:∀ v d H' st' Qd Q,IsD X.K H' d v→RelS X.K st' H'→g d st' Qd→DPost X.K st' H' Qd Q→r [v] H' Q) (hn:f ≠ "__name__") (hdb:(f == ("__debug__":Str))=false) :
  PE X (.Call (.Name f p) [a] [] pos) (up X.K fun env st Q=>ta env st fun x st1=>g x st1 Q):=
 PE.imp (pe_callB hc hg hm hv (da_one ha hs) hn hdb (starEach_plain hs) rfl) fun σ H Q q=>by
  obtain ⟨env,st,Qd,hE,hS,ht,hq⟩:=q
  refine ⟨env,st,(fun ds st1=>match ds with | [d]=>g d st1 Qd | _=>False),hE,hS,ht,fun vs ds H' st' ev is hl rs q1=>?_⟩
  match ds,hl with
  | [d],_=>
   obtain ⟨v,ws,rfl,i1,i2⟩:=is.inv_cons
   rw [i2.inv_nil]
   exact imp v d H' st' Qd Q i1 rs q1 (hq.after ev)
theorem de_t1 {T:String} {f:Str} {r:List V→Hp→VK→Prop} {g:D→Sto→DK→Prop} (hc:CallR X (.type T) r) (hg:Gl X f) (hm:X.mg f=none) (hv:bootBuiltins f=some (.type T)) (ha:PE X a (up X.K ta)) (hs:∀ e p,a ≠ .Starred e p)
  (imp:∀ v d H' st' Qd Q,IsD X.K H' d v→RelS X.K st' H'→g d st' Qd→DPost X.K st' H' Qd Q→r [v] H' Q) (hn:f ≠ "__name__") (hdb:(f == ("__debug__":Str))=false) :
  PE X (.Call (.Name f p) [a] [] pos) (up X.K fun env st Q=>ta env st fun x st1=>g x st1 Q):=
 PE.imp (pe_callTy hc hg hm hv (da_one ha hs) hn hdb (starEach_plain hs) rfl) fun σ H Q q=>by
  obtain ⟨env,st,Qd,hE,hS,ht,hq⟩:=q
  refine ⟨env,st,(fun ds st1=>match ds with | [d]=>g d st1 Qd | _=>False),hE,hS,ht,fun vs ds H' st' ev is hl rs q1=>?_⟩
  match ds,hl with
  | [d],_=>
   obtain ⟨v,ws,rfl,i1,i2⟩:=is.inv_cons
   rw [i2.inv_nil]
   exact imp v d H' st' Qd Q i1 rs q1 (hq.after ev)
theorem boot_abs:bootBuiltins "abs"=some (.builtin "abs"):=by decide +kernel
theorem boot_max:bootBuiltins "max"=some (.builtin "max"):=by decide +kernel
theorem boot_sum:bootBuiltins "sum"=some (.builtin "sum"):=by decide +kernel
theorem boot_int:bootBuiltins "int"=some (.type "int"):=by decide +kernel
theorem boot_listT:bootBuiltins "list"=some (.type "list"):=by decide +kernel
theorem boot_tupleT:bootBuiltins "tuple"=some (.type "tuple"):=by decide +kernel
theorem de_len (hg:Gl X "len") (hm:X.mg "len"=none) (ha:PE X a (up X.K ta)) (hs:∀ e p,a ≠ .Starred e p):PE X (.Call (.Name "len" p) [a] [] pos) (up X.K fun env st Q=>ta env st fun x st1=>lenR x st1 Q):=
 de_b1 call_len_seq hg hm PySem.boot_len ha hs (fun v d H' st' Qd Q is rs ht hq=>by
  cases d <;> first | exact False.elim ht | skip
  ·obtain ⟨p,vs,rfl,hs,r⟩:=is.tup_inv
   exact ⟨p,vs,rfl,.inr hs,by rw [← r.len];exact hq.here (.int _) rs ht⟩
  ·obtain ⟨ds,hr,ht⟩:=ht
   obtain ⟨vs,hs,r⟩:=rs.rd hr
   exact ⟨_,vs,by rw [is.ref_inv],.inl hs,by rw [← r.len];exact hq.here (.int _) rs ht⟩) (by decide) (by decide)
theorem de_abs (hg:Gl X "abs") (hm:X.mg "abs"=none) (ha:PE X a (up X.K ta)) (hs:∀ e p,a ≠ .Starred e p):PE X (.Call (.Name "abs" p) [a] [] pos) (up X.K fun env st Q=>ta env st fun x st1=>∃ i,x=.int i∧Q (.int (if i < 0 then -i else i)) st1):=
 de_b1 (g:=fun x st1 Q=>∃ i,x=.int i∧Q (.int (if i < 0 then -i else i)) st1) call_abs hg hm boot_abs ha hs (fun v d H' st' Qd Q is rs ht hq=>by
  obtain ⟨i,rfl,ht⟩:=ht
  exact ⟨i,by rw [is.int_inv],hq.here (.int _) rs ht⟩) (by decide) (by decide)
theorem de_toInt (hg:Gl X "int") (hm:X.mg "int"=none) (ha:PE X a (up X.K ta)) (hs:∀ e p,a ≠ .Starred e p):PE X (.Call (.Name "int" p) [a] [] pos) (up X.K fun env st Q=>ta env st fun x st1=>toIntR x st1 Q):=
 de_t1 call_int1 hg hm boot_int ha hs (fun v d H' st' Qd Q is rs ht hq=>by
  cases d <;> first | exact False.elim ht | skip
  ·exact .inr ⟨_,by rw [is.bl_inv],hq.here (.int _) rs ht⟩
  ·exact .inl ⟨_,by rw [is.int_inv],hq.here (.int _) rs ht⟩) (by decide) (by decide)
theorem de_sum (hc:X.calm=true) (hg:Gl X "sum") (hm:X.mg "sum"=none) (ha:PE X a (up X.K ta)) (hs:∀ e p,a ≠ .Starred e p):PE X (.Call (.Name "sum" p) [a] [] pos) (up X.K fun env st Q=>ta env st fun x st1=>sumR x st1 Q):=
 de_b1 (call_sumL hc) hg hm boot_sum ha hs (fun v d H' st' Qd Q is rs ht hq=>by
  cases d <;> first | exact False.elim ht | skip
  obtain ⟨ns,hr,ht⟩:=ht
  obtain ⟨vs,hs,r⟩:=rs.rd hr
  exact ⟨_,ns,by rw [is.ref_inv],by rw [← r.ints];exact hs,hq.here (.int _) rs ht⟩) (by decide) (by decide)
theorem de_list (hg:Gl X "list") (hm:X.mg "list"=none) (ha:PE X a (up X.K ta)) (hs:∀ e p,a ≠ .Starred e p):PE X (.Call (.Name "list" p) [a] [] pos) (up X.K fun env st Q=>ta env st fun x st1=>listR x st1 Q):=
 de_t1 call_list_of hg hm boot_listT ha hs (fun v d H' st' Qd Q is rs ht hq=>by
  cases d <;> first | exact False.elim ht | skip
  ·obtain ⟨p,vs,rfl,hs,r⟩:=is.tup_inv
   exact ⟨p,vs,rfl,.inr hs,hq.newL rs r ht⟩
  ·obtain ⟨ds,hr,ht⟩:=ht
   obtain ⟨vs,hs,r⟩:=rs.rd hr
   exact ⟨_,vs,by rw [is.ref_inv],.inl hs,hq.newL rs r ht⟩) (by decide) (by decide)
theorem de_tuple (hg:Gl X "tuple") (hm:X.mg "tuple"=none) (ha:PE X a (up X.K ta)) (hs:∀ e p,a ≠ .Starred e p):PE X (.Call (.Name "tuple" p) [a] [] pos) (up X.K fun env st Q=>ta env st fun x st1=>tupleR x st1 Q):=
 de_t1 call_tuple_of hg hm boot_tupleT ha hs (fun v d H' st' Qd Q is rs ht hq=>by
  cases d <;> first | exact False.elim ht | skip
  ·obtain ⟨p,vs,rfl,hs,r⟩:=is.tup_inv
   exact ⟨p,vs,rfl,.inr ⟨hs,hq.here is rs ht⟩⟩
  ·obtain ⟨ds,hr,ht⟩:=ht
   obtain ⟨vs,hs,r⟩:=rs.rd hr
   exact ⟨_,vs,by rw [is.ref_inv],.inl ⟨hs,hq.newT rs r ht⟩⟩) (by decide) (by decide)
theorem da_two (ha:PE X a (up X.K ta)) (hb:PE X b (up X.K tb)) (h:∀ e p,a ≠ .Starred e p) (h':∀ e p,b ≠ .Starred e p):PA X [a,b] (upA X.K 2 fun env st Q=>ta env st fun d st1=>tb env st1 fun e st2=>Q [d,e] st2):=da_cons ha (da_one hb h') h
theorem de_max (hc:X.calm=true) (hg:Gl X "max") (hm:X.mg "max"=none) (ha:PE X a (up X.K ta)) (hb:PE X b (up X.K tb)) (hs:∀ e p,a ≠ .Starred e p) (hs':∀ e p,b ≠ .Starred e p) :
  PE X (.Call (.Name "max" p) [a,b] [] pos) (up X.K fun env st Q=>ta env st fun x st1=>tb env st1 fun y st2=>∃ i j,x=.int i∧y=.int j∧Q (.int (if j > i then j else i)) st2):=
 PE.imp (pe_callB (call_max2 hc) hg hm boot_max (da_two ha hb hs hs') (by decide) (by decide) (starEach_plain hs) (by rw [starEach_plain hs'];rfl)) fun σ H Q q=>by
  obtain ⟨env,st,Qd,hE,hS,ht,hq⟩:=q
  refine ⟨env,st,(fun ds st1=>match ds with | [x,y]=>∃ i j,x=.int i∧y=.int j∧Qd (.int (if j > i then j else i)) st1 | _=>False),hE,hS,ht,fun vs ds H' st' ev is hl rs q1=>?_⟩
  match ds,hl with
  | [d,e],_=>
   obtain ⟨v,ws,rfl,i1,i2⟩:=is.inv_cons
   obtain ⟨w,ws',rfl,i3,i4⟩:=i2.inv_cons
   rw [i4.inv_nil]
   obtain ⟨i,j,rfl,rfl,q1⟩:=q1
   exact ⟨i,j,by rw [i1.int_inv,i3.int_inv],(hq.after ev).here (.int _) rs q1⟩
theorem reads_lst {pins:List (Addr × Obj)} {σ:L2.St} {H:Hp} {s:Shared} (I:L2.Inv X pins σ H s) {a:Addr} {ds:List D} {vs:List V} (hq:SqL X.K H a vs) (r:IsDs X.K H ds vs) (hp:D.pures ds=true):∃ as,Reads s.heap (.ref a) (.list (D.pys ds)) as:=by
 obtain ⟨its,rv,⟨o,n,ho,hc,_,hd⟩,hz⟩:=I.list hq
 obtain ⟨as,ra⟩:=readsAll_of (P:=fun d=>d.pure=true) (fun d v u hp is ru=>reads_of I is hp ru) ds vs its (fun d hd=>pures_mem hp d hd) r rv
 exact ⟨_,.list ho hc hd (by simpa using ra)⟩
noncomputable def Lls (K:PySem.W.Frag) (H:Hp):List V→List (List D)→Prop
 | [],[]=>True
 | v::vs,l::ls=>(∃ a ws,v=.ref a∧SqL K H a ws∧IsDs K H l ws∧D.pures l=true)∧Lls K H vs ls
 | _,_=>False
theorem lls_of {st:Sto} {H:Hp} (rs:RelS X.K st H):∀ {ds:List D} {vs:List V} {ls:List (List D)},IsDs X.K H ds vs→rdLL st ds ls→Lls X.K H vs ls
 | [],vs,[],r,_=>by rw [r.inv_nil];trivial
 | [],vs,l::ls,r,h=>h.elim
 | d::ds,vs,[],r,h=>h.elim
 | d::ds,vs,l::ls,r,h=>by
  obtain ⟨v,ws,rfl,h1,h2⟩:=r.inv_cons
  obtain ⟨⟨a,rfl,hr,hp⟩,h⟩:=h
  obtain ⟨us,q,ru⟩:=rs.rd hr
  exact ⟨⟨a,us,h1.ref_inv,q,ru,hp⟩,lls_of rs h2 h⟩
theorem lls_cans {K:PySem.W.Frag} {H:Hp}:∀ {vs:List V} {ls:List (List D)},Lls K H vs ls→PyData.canLayAll0 (pyss ls)=true
 | [],[],_=>rfl
 | [],l::ls,h=>h.elim
 | v::vs,[],h=>h.elim
 | v::vs,l::ls,h=>by
  obtain ⟨⟨a,us,_,_,_,hp⟩,h⟩:=h
  show (PyData.canLay0 (.list (D.pys l)) && PyData.canLayAll0 (pyss ls))=true
  rw [lls_cans h,PyData.canLay0,cans_of l hp];rfl
theorem lls_reads {pins:List (Addr × Obj)} {σ:L2.St} {H:Hp} {s:Shared} (I:L2.Inv X pins σ H s):∀ {vs:List V} {us:List Value} {ls:List (List D)},Vals vs us→Lls X.K H vs ls→∃ as,ReadsAll s.heap us (pyss ls) as
 | [],us,[],q,_=>by cases q;exact ⟨[],.nil⟩
 | [],us,l::ls,q,h=>h.elim
 | v::vs,us,[],q,h=>h.elim
 | v::vs,us,l::ls,q,h=>by
  obtain ⟨⟨a,ws,rfl,hs,ru,hp⟩,h⟩:=h
  cases q with
  | cons q1 q2=>
   cases q1
   obtain ⟨as,ra⟩:=reads_lst I hs ru hp
   obtain ⟨bs,rb⟩:=lls_reads I q2 h
   exact ⟨as++bs,.cons ra rb⟩
theorem reads_lls {pins:List (Addr × Obj)} {σ:L2.St} {H:Hp} {s:Shared} (I:L2.Inv X pins σ H s) {a:Addr} {vs:List V} {ls:List (List D)} (hq:SqL X.K H a vs) (h:Lls X.K H vs ls):∃ as,Reads s.heap (.ref a) (.list (pyss ls)) as:=by
 obtain ⟨its,rv,⟨o,n,ho,hc,_,hd⟩,hz⟩:=I.list hq
 obtain ⟨as,ra⟩:=lls_reads I rv h
 exact ⟨_,.list ho hc hd (by simpa using ra)⟩
theorem op_cmpl (hu:X.A.units + 200 < cLine) (ne:Bool):OpR X (compareOp (if ne then .NotEq else .Eq)) (fun x y H Q=>∃ a b xs ys vs ws,x=.ref a∧y=.ref b∧SqL X.K H a vs∧SqL X.K H b ws∧IsDs X.K H xs vs∧IsDs X.K H ys ws∧((D.pures xs=true∧D.pures ys=true∧PyData.depthAll (D.pys xs)≤149∧Q (.bl (ne != PyData.eqvAll (D.pys xs) (D.pys ys))) H) ∨ (xs.length ≠ ys.length∧Q (.bl ne) H) ∨ ∃ xss yss,Lls X.K H vs xss∧Lls X.K H ws yss∧PyData.depthAll (pyss xss)≤149∧Q (.bl (ne != PyData.eqvAll (pyss xss) (pyss yss))) H)):=by
 intro pins s σ H x y v u Q I rx ry h
 obtain ⟨a,b,xs,ys,vs,ws,rfl,rfl,q1,q2,r1,r2,hor⟩:=h
 cases rx
 cases ry
 have hor':(xs.length ≠ ys.length∧Q (.bl ne) H) ∨ ∃ ps qs as bs,Reads s.heap (.ref a) (.list ps) as∧Reads s.heap (.ref b) (.list qs) bs∧PyData.canLayAll0 ps=true∧PyData.canLayAll0 qs=true∧PyData.depthAll ps≤149∧Q (.bl (ne != PyData.eqvAll ps qs)) H:=by
  rcases hor with ⟨p1,p2,hd,q⟩ | h | ⟨xss,yss,l1,l2,hd,q⟩
  ·obtain ⟨as,ra⟩:=reads_lst I q1 r1 p1
   obtain ⟨bs,rb⟩:=reads_lst I q2 r2 p2
   exact .inr ⟨_,_,as,bs,ra,rb,cans_of xs p1,cans_of ys p2,hd,q⟩
  ·exact .inl h
  ·obtain ⟨as,ra⟩:=reads_lls I q1 l1
   obtain ⟨bs,rb⟩:=reads_lls I q2 l2
   exact .inr ⟨_,_,as,bs,ra,rb,lls_cans l1,lls_cans l2,hd,q⟩
 rcases hor' with ⟨hne,q⟩ | ⟨ps,qs,as,bs,ra,rb,k1,k2,hd,q⟩
 ·obtain ⟨its,rv,pl,hz⟩:=I.list q1
  obtain ⟨jts,rw',pl',hz'⟩:=I.list q2
  have hsz:(its.toArray.size != jts.toArray.size)=true:=by
   rw [List.size_toArray,List.size_toArray,← rv.length,← rw'.length,← r1.len,← r2.len]
   simpa using hne
  cases ne with
  | true=>exact SeqAt.RcNeAt.lists_lengths pl.isList pl'.isList hsz (by omega) X.prog X.w _ _ ⟨.bl _,H,I,rfl,q⟩
  | false=>exact SeqAt.RcAt.lists_lengths pl.isList pl'.isList hsz (by omega) X.prog X.w _ _ ⟨.bl _,H,I,rfl,q⟩
 have c1:PyData.canLay0 (.list ps)=true:=by rw [PyData.canLay0];exact k1
 have c2:PyData.canLay0 (.list qs)=true:=by rw [PyData.canLay0];exact k2
 have hroom:X.A.units + min (PyData.depth (.list ps)) (PyData.depth (.list qs)) < cLine:=by
  have:min (PyData.depth (.list ps)) (PyData.depth (.list qs))≤PyData.depth (.list ps):=Nat.min_le_left _ _
  have e1:PyData.depth (.list ps)=PyData.depthAll ps + 1:=by rw [PyData.depth]
  omega
 cases ne with
 | true=>
  have eb:(!PyData.eqv (.list ps) (.list qs))=(true != PyData.eqvAll ps qs):=by rw [PyData.eqv];cases PyData.eqvAll ps qs <;> rfl
  exact SeqAt.rcNeAt_reads ra rb c1 c2 hroom X.prog X.w _ _ ⟨.bl _,H,I,congrArg Value.bool eb,q⟩
 | false=>
  have eb:PyData.eqv (.list ps) (.list qs)=(false != PyData.eqvAll ps qs):=by rw [PyData.eqv];cases PyData.eqvAll ps qs <;> rfl
  exact SeqAt.rcAt_reads ra rb c1 c2 hroom X.prog X.w _ _ ⟨.bl _,H,I,congrArg Value.bool eb,q⟩
theorem cmpl_up {ne:Bool} {v w:V} {d e:D} {H':Hp} {st':Sto} {Qd:DK} {Q:VK} (i1:IsD X.K H' d v) (i2:IsD X.K H' e w) (rs:RelS X.K st' H') (ht:cmplR ne d e st' Qd) (hq:DPost X.K st' H' Qd Q):∃ a b xs ys vs ws,v=.ref a∧w=.ref b∧SqL X.K H' a vs∧SqL X.K H' b ws∧IsDs X.K H' xs vs∧IsDs X.K H' ys ws∧((D.pures xs=true∧D.pures ys=true∧PyData.depthAll (D.pys xs)≤149∧Q (.bl (ne != PyData.eqvAll (D.pys xs) (D.pys ys))) H') ∨ (xs.length ≠ ys.length∧Q (.bl ne) H') ∨ ∃ xss yss,Lls X.K H' vs xss∧Lls X.K H' ws yss∧PyData.depthAll (pyss xss)≤149∧Q (.bl (ne != PyData.eqvAll (pyss xss) (pyss yss))) H'):=by
 cases d <;> cases e <;> first | exact False.elim ht | skip
 obtain ⟨xs,ys,h1,h2,hor⟩:=ht
 obtain ⟨vs,q1,r1⟩:=rs.rd h1
 obtain ⟨ws,q2,r2⟩:=rs.rd h2
 refine ⟨_,_,xs,ys,vs,ws,i1.ref_inv,i2.ref_inv,q1,q2,r1,r2,?_⟩
 rcases hor with ⟨p1,p2,hd,ht⟩ | ⟨hne,ht⟩ | ⟨xss,yss,l1,l2,hd,ht⟩
 ·exact .inl ⟨p1,p2,hd,hq.here (.bl _) rs ht⟩
 ·exact .inr (.inl ⟨hne,hq.here (.bl _) rs ht⟩)
 ·exact .inr (.inr ⟨xss,yss,lls_of rs r1 l1,lls_of rs r2 l2,hd,hq.here (.bl _) rs ht⟩)
theorem de_cmpl {ne:Bool} {o:CmpOp} (ho:o=if ne then .NotEq else .Eq) (hu:X.A.units + 200 < cLine) (ha:PE X a (up X.K ta)) (hb:PE X b (up X.K tb)) (hm:∀ es k p,b ≠ .Set es k p):PE X (.Compare a [o] [b] pos) (up X.K fun env st Q=>ta env st fun x st1=>tb env st1 fun y st2=>cmplR ne x y st2 Q):=by
 subst ho
 exact PE.imp (pe_cmpR (op_cmpl hu ne) ha hb (marks_of _ b hm)) fun σ H Q q=>up2 (f:=cmplR ne) q fun v w d e H' st' Qd i1 i2 rs ht hq=>cmpl_up i1 i2 rs ht hq
theorem dt_cmpl {ne:Bool} {o:CmpOp} (ho:o=if ne then .NotEq else .Eq) (hu:X.A.units + 200 < cLine) (ha:PE X a (up X.K ta)) (hb:PE X b (up X.K tb)) (hm:∀ es k p,b ≠ .Set es k p) :
  PT X (.Compare a [o] [b] pos) (upB X.K fun env st Q=>ta env st fun x st1=>tb env st1 fun y st2=>cmplR ne x y st2 fun d st'=>∃ k,d=.bl k∧Q k st'):=by
 subst ho
 refine PT.imp (pt_cmpR (op_cmpl hu ne) ha hb (marks_of _ b hm)) fun σ H Q q=>?_
 obtain ⟨env,st,Qd,hE,hS,ht,hq⟩:=q
 refine up2 (f:=cmplR ne) (Q:=fun x H'=>∃ k,x=.bl k∧Q k H') ⟨env,st,_,hE,hS,ht,fun v d H' st' ev is rs q1=>?_⟩ fun v w d e H' st' Qd i1 i2 rs ht hq=>cmpl_up i1 i2 rs ht hq
 obtain ⟨k,rfl,q1⟩:=q1
 exact ⟨k,is.bl_inv,hq k H' st' ev rs q1⟩
noncomputable def upSp (K:PySem.W.Frag) (sp:Spec):Sp:=fun vs H Q _=>∃ ds st Qd,IsDs K H ds vs∧RelS K st H∧sp ds st Qd∧DPost K st H Qd Q
theorem de_call {f:Str} {k:Nat} {fa:Addr} {fd:FuncData} {ps:List Str} {sp:Spec} {es:List Expr} {n:Nat} {t:DA} (F:FnOk X.prog X.w X.K X.mg X.base CX0 k fa fd ps (upSp X.K sp)) (hr:Room k X.A) (hg:Gl X f) (hm:X.mg f=some (.ref fa)) (hk:PySem.W.keepIn X.K (.ref fa)=true)
  (hb:Binds X.K fd ps []) (ha:PA X (a::es) (upA X.K n t)) (hdb:(f == ("__debug__":Str))=false) (hs:∀ e p,a ≠ .Starred e p) (hpl:(backTo pos (starEach es X.env)).any (·.1)=false) :
  PE X (.Call (.Name f p) (a::es) [] pos) (up X.K fun env st Q=>t env st fun ds st1=>sp ds st1 Q):=
 PE.imp (pe_call F hr hg hm hk hb .nil pass0 ha hdb (starEach_plain hs) hpl) fun σ H Q q=>upA1 (f:=sp) q fun vs ds H' st' Qd is hl rs ht hq=>⟨ds,st',Qd,by rw [List.append_nil];exact is,rs,ht,hq⟩
theorem de_gf {f:Str} {fa:Addr} (hg:Gl X f) (hm:X.mg f=some (.ref fa)) (hns:PySem.W.nsIn X.K mainGlobals f=some (some (.ref fa))) (hdb:(f == ("__debug__":Str))=false):PE X (.Name f p) (up X.K fun _ st Q=>Q (.fn f) st):=
 PE.imp (pe_glob (v:=.ref fa) hg hm rfl hdb) fun σ H Q q=>by
  obtain ⟨env,st,Qd,hE,hS,ht,hq⟩:=q
  exact hq.here (.fn hns) hS ht
noncomputable def cloSp (K:PySem.W.Frag) (f:Addr) (fd:FuncData) (np:Nat) (N:List Str) (cs:List D) (sp:Spec):Sp:=fun vs H Q _=>∃ us ds st Qd,CloR H f fd np N us∧IsDs K H cs us∧IsDs K H ds vs∧RelS K st H∧sp ds st Qd∧DPost K st H Qd Q
theorem CloR.fnAt {f:Addr} {fd:FuncData} {np:Nat} {N:List Str} {us:List V} (h:CloR H f fd np N us) (I:Inv X pins σ H s):PySem.W.FnAt f s.heap:=by
 obtain ⟨o,u,e1,_,e3⟩:=h.ex
 obtain ⟨h1,_⟩:=I.hok f _ e1
 obtain ⟨oc,od,da,sl⟩:=o
 have e3':da=.func fd:=e3
 subst e3'
 exact ⟨oc,od,fd,sl,h1⟩
theorem de_callv {i:Nat} {x:Str} {es:List Expr} {n:Nat} {t:DA} {Z:Sg} (hN:X.N[i]?=some x) (hv:Vis X.env.scope x) (hd:(x == ("__debug__":Str))=false) (hcd:(x == ("__classdict__":Str))=false)
  (hF:∀ f fa,Z.F f=true→PySem.W.nsIn X.K mainGlobals f=some (some (.ref fa))→∃ k fd ps,FnOk X.prog X.w X.K X.mg X.base CX0 k fa fd ps (upSp X.K (Z.Phi f))∧Room k X.A∧PySem.W.keepIn X.K (.ref fa)=true∧Binds X.K fd ps [])
  (hC:∀ np N b cs fa fd ps,CloF fd np N ps b→∃ k,FnOk X.prog X.w X.K X.mg X.base CX0 k fa fd ps (cloSp X.K fa fd np N cs (Z.PhiC np N b cs))∧Room k X.A)
  (ha:PA X (a::es) (upA X.K n t)) (hs:∀ e p,a ≠ .Starred e p) (hpl:(backTo pos (starEach es X.env)).any (·.1)=false) :
  PE X (.Call (.Name x p) (a::es) [] pos) (up X.K fun env st Q=>∃ x,env[i]?=some (some x)∧callD Z (t env) st Q x):=by
 intro pins s σ H Q I q
 obtain ⟨env,st,Qd,hE,hS,⟨d,he,hc⟩,hq⟩:=q
 obtain ⟨v,hv1,isv⟩:=hE.at' i _ he
 cases d with
 | fn f=>
  obtain ⟨hf,ht⟩:Z.F f=true∧t env st fun ds st1=>Z.Phi f ds st1 Qd:=hc
  obtain ⟨fa,rfl,hns⟩:∃ fa,v=.ref fa∧PySem.W.nsIn X.K mainGlobals f=some (some (.ref fa)):=by cases isv with | fn h=>exact ⟨_,rfl,h⟩
  obtain ⟨k,fd,ps,Fo,hr,hk,hb⟩:=hF f fa hf hns
  refine wpAny_Call_Name_kw (thn (pe_var hN hv hd hcd pins s σ H (fun v H1=>v=.ref fa∧H1=H) I ⟨_,hv1,rfl,rfl⟩) fun u s1 ⟨v,H1,I1,r1,e1,e2⟩=>?_)
  subst e1 e2
  cases r1
  refine PySem.W.callWith_K (h₀:=X.base) I1.ok.mod.kin hk (thn (ha pos pins s1 σ H1 (fun vs H2=>∃ ds st1,Ev st H1 st1 H2∧IsDs X.K H2 ds vs∧RelS X.K st1 H2∧Z.Phi f ds st1 Qd) I1 ⟨env,st,_,hE,hS,ht,fun vs ds H' st' ev is hl rs q=>⟨ds,st',ev,is,rs,q⟩⟩) fun us s2 ⟨vs,H2,I2,r,ds,st1,ev,is,rs,q⟩=>⟨I2.kIn,?_⟩) (starEach_plain hs) hpl
  exact run_fn Fo hr hb .nil pass0 I2 r ⟨ds,st1,Qd,by rw [List.append_nil];exact is,rs,q,hq.after ev⟩
 | clo np N b cs=>
  have ht:t env st fun ds st1=>Z.PhiC np N b cs ds st1 Qd:=hc
  obtain ⟨fa,us0,rfl,ca,ics⟩:∃ fa us,v=.ref fa∧CloAt H fa np N b us∧IsDs X.K H cs us:=by cases isv with | clo h1 h2 h3=>exact ⟨_,_,rfl,h1,h2,h3⟩
  obtain ⟨fd,ps,cf,cr⟩:=ca
  obtain ⟨k,Fo,hr⟩:=hC np N b cs fa fd ps cf
  refine wpAny_Call_Name_kw (thn (pe_var hN hv hd hcd pins s σ H (fun v H1=>v=.ref fa∧H1=H) I ⟨_,hv1,rfl,rfl⟩) fun u s1 ⟨v,H1,I1,r1,e1,e2⟩=>?_)
  subst e1 e2
  cases r1
  refine PySem.W.callWith_F (cr.fnAt I1) (thn (ha pos pins s1 σ H1 (fun vs H2=>∃ ds st1,Ev st H1 st1 H2∧IsDs X.K H2 ds vs∧RelS X.K st1 H2∧Z.PhiC np N b cs ds st1 Qd) I1 ⟨env,st,_,hE,hS,ht,fun vs ds H' st' ev is hl rs q=>⟨ds,st',ev,is,rs,q⟩⟩) fun us s2 ⟨vs,H2,I2,r,ds,st1,ev,is,rs,q⟩=>⟨(cr.mono (K:=X.K) (ev.tk hS)).fnAt I2,?_⟩) (starEach_plain hs) hpl
  exact run_fn Fo hr (.all cf.bind) .nil pass0 I2 r ⟨us0,ds,st1,Qd,cr.mono (K:=X.K) (ev.tk hS),ics.mono (ev.tk hS),by rw [List.append_nil];exact is,rs,q,hq.after ev⟩
 | _=>exact (hc:False).elim
theorem base_of {o:Expr} {nm:Str} {env:Env} {w:Sem Value} (h:∀ i p p',o ≠ .Call (.Name i p) [] [] p'):attributeBase o nm env w=w:=by
 unfold attributeBase
 split
 ·exact absurd rfl (h _ _ _)
 ·rfl
theorem tyL {K:PySem.W.Frag} {H:Hp} {st:Sto} {d:D} {v:V} (is:IsD K H d v) (rs:RelS K st H) (h:isLR d st):tyV K "list" v H:=by
 cases d <;> first | exact False.elim h | skip
 obtain ⟨ds,hr⟩:=h
 obtain ⟨vs,hs,_⟩:=rs.rd hr
 rw [is.ref_inv]
 exact .inl ⟨rfl,vs,hs⟩
theorem de_m1 {nm:Str} {id:String} {r:V→List V→Hp→VK→Prop} {g:D→D→Sto→DK→Prop} {apos:Pos} (slot:Slot "list" nm id) (hty:typeOf (.builtin id)=pure (.type "method_descriptor")) (hm:MtR X id r)
  (ha:PE X a (up X.K ta)) (hb:PE X b (up X.K tb)) (hbase:∀ i p p',a ≠ .Call (.Name i p) [] [] p') (hs:∀ e p,b ≠ .Starred e p) (hline:(apos.endLine == pos.line)=true)
  (imp:∀ v w d e H' st' Qd Q,IsD X.K H' d v→IsD X.K H' e w→RelS X.K st' H'→g d e st' Qd→DPost X.K st' H' Qd Q→r v [w] H' Q) :
  PE X (.Call (.Attribute a nm apos) [b] [] pos) (up X.K fun env st Q=>ta env st fun x st1=>isLR x st1∧tb env st1 fun y st2=>g x y st2 Q):=
 PE.imp (pe_bm PySem.F.plainAttrs_list slot hty hm ha (da_one hb hs) (base_of hbase) (by rw [starEach_plain hs];rfl) hline (starEach_plain hs) rfl) fun σ H Q q=>by
  obtain ⟨env,st,Qd,hE,hS,ht,hq⟩:=q
  refine ⟨env,st,_,hE,hS,ht,fun v d H1 st1 ev is rs q1=>⟨tyL is rs q1.1,?_⟩⟩
  refine ⟨env,st1,(fun ds st2=>match ds with | [e]=>g d e st2 Qd | _=>False),hE.mono (ev.tk hS),rs,q1.2,fun vs ds H' st' ev2 is2 hl rs2 q2=>?_⟩
  match ds,hl with
  | [e],_=>
   obtain ⟨w,ws,rfl,i1,i2⟩:=is2.inv_cons
   rw [i2.inv_nil]
   exact imp v w d e H' st' Qd Q (is.mono (ev2.tk rs)) i1 rs2 q2 ((hq.after ev).after ev2)
theorem de_app {apos:Pos} (ha:PE X a (up X.K ta)) (hb:PE X b (up X.K tb)) (hbase:∀ i p p',a ≠ .Call (.Name i p) [] [] p') (hs:∀ e p,b ≠ .Starred e p) (hline:(apos.endLine == pos.line)=true) :
  PE X (.Call (.Attribute a "append" apos) [b] [] pos) (up X.K fun env st Q=>ta env st fun x st1=>isLR x st1∧tb env st1 fun y st2=>appR x y st2 Q):=
 de_m1 PySem.F.slot_list_append PySem.F.type_list_append mt_append ha hb hbase hs hline fun v w d e H' st' Qd Q i1 i2 rs ht hq=>by
  cases d <;> first | exact False.elim ht | skip
  obtain ⟨ds,hr,hz,ht⟩:=ht
  obtain ⟨vs,hH,r⟩:=rs.lst hr
  rw [i1.ref_inv]
  exact ⟨_,vs,w,rfl,rfl,hH,by rw [← r.len];exact hz,hq _ _ _ _ (Ev.put hr) .non (rs.putOld hH (r.append (.cons i2 .nil))) ht⟩
theorem extend_tup (l:Addr) (items:Array Value) (n:Nat) (b:Addr) (items2:Array Value) (n2:Nat) (sl:Array (Option Value)) (hs0:¬(!items.isEmpty && Builtin.List.listTooLong (items.size + items2.size))=true) (hs1:items.size≤sizeLine) (hs2:items.size + items2.size≤sizeLine + 1) :
  Meets (Builtin.«list.extend» ⟨[.ref l,.ref b],[]⟩) (fun _ R s=>s.heap.get? l=some { cls:=.type "list",dict:=none,data:=.seq items n,slots:=#[] }∧s.heap.get? b=some { cls:=.type "tuple",dict:=none,data:=.seq items2 n2,slots:=sl }∧R (.ok (.ret Value.none)) { s with heap:=s.heap.update l (Obj.mapSeq fun x=>x++items2),toks:=s.toks }):=
 .of_wp fun prog w A R s h=>by
  obtain ⟨hp,g,d,tk,os⟩:=s;obtain ⟨hl,hb,h⟩:=h;have f1:=AutoSeq1.idx_int;have f2:=AutoSeq1.sub_tuple_tuple;have f3:=AutoSeq1.sub_list_list;have f4:=AutoSeq1.sub_tuple_list;have f5:=AutoSeq1.sub_list_tuple
  have hz':(items++items2).size≤sizeLine + 1:=by rw [Array.size_append];exact hs2
  wp_walk using (wpAny_updateSeq hl rfl (hz:=hs1) (_hz':=hz')),AutoSeq1.wpAny_loadPart' hl,AutoSeq1.wpAny_loadPart' hb;exact ⟨_,rfl,h⟩
noncomputable def rExtendT (K:PySem.W.Frag):V→List V→Hp→VK→Prop:=fun x vs H Q=>∃ l b xs zs,x=.ref l∧vs=[.ref b]∧H l=some (.lst xs)∧SqT K H b zs∧xs.length + zs.length≤sizeLine∧Q .non (upd H l (.lst (xs++zs)))
theorem mt_extendT:MtM X "list.extend" (rExtendT X.K):=by
 intro pins s σ H x vs v us Q I rx rv h
 obtain ⟨l,b,xs,zs,rfl,rfl,hH,hB,hz,q⟩:=h
 cases rx
 obtain ⟨u,rfl,ru⟩:=rv.one
 cases ru
 obtain ⟨z,its,n,r,hl,e⟩:=I.lstM hH
 obtain ⟨its2,r2,⟨o,e2,ec,ed,n2,es⟩,z2⟩:=I.tupleD hB
 obtain ⟨cls,dd,data,sl⟩:=o
 simp only at ec ed es
 subst ec ed es
 have hl2:=r2.length
 have hsz:its.toArray.size + its2.toArray.size≤sizeLine:=by rw [List.size_toArray,List.size_toArray];omega
 have hlong:¬ (!its.toArray.isEmpty && Builtin.List.listTooLong (its.toArray.size + its2.toArray.size))=true:=by
  rw [notLongL hsz,Bool.and_false]
  exact Bool.false_ne_true
 refine call_meets F.slot_list_extend ⟨_,e,rfl⟩ F.entry_list_extend (F.args_list_extend_2 _ _)
  (extend_tup l its.toArray n b its2.toArray n2 sl hlong (by rw [List.size_toArray];omega) (by omega)) ⟨e,e2,?_⟩
 refine ⟨.non,_,I.lset (its':=its++its2) hH e (by simp) (r.append r2) ?_,rfl,q⟩
 rw [List.length_append]
 omega
theorem mt_ext2:MtM X "list.extend" (fun x vs H Q=>rExtend x vs H Q ∨ rExtendT X.K x vs H Q):=fun pins s σ H x vs v us Q I rx rv h=>h.elim (mt_extend pins s σ H x vs v us Q I rx rv) (mt_extendT pins s σ H x vs v us Q I rx rv)
theorem de_ext {apos:Pos} (ha:PE X a (up X.K ta)) (hb:PE X b (up X.K tb)) (hbase:∀ i p p',a ≠ .Call (.Name i p) [] [] p') (hs:∀ e p,b ≠ .Starred e p) (hline:(apos.endLine == pos.line)=true) :
  PE X (.Call (.Attribute a "extend" apos) [b] [] pos) (up X.K fun env st Q=>ta env st fun x st1=>isLR x st1∧tb env st1 fun y st2=>extR x y st2 Q):=
 de_m1 PySem.F.slot_list_extend PySem.F.type_list_extend mt_ext2 ha hb hbase hs hline fun v w d e H' st' Qd Q i1 i2 rs ht hq=>by
  cases d <;> cases e <;> first | exact False.elim ht | skip
  ·obtain ⟨ds,hr,hz,ht⟩:=ht
   obtain ⟨vs,hH,r⟩:=rs.lst hr
   obtain ⟨b,ws,rfl,hq2,r2⟩:=i2.tup_inv
   rw [i1.ref_inv]
   exact .inr ⟨_,_,vs,ws,rfl,rfl,hH,hq2,by rw [← r.len,← r2.len];exact hz,hq _ _ _ _ (Ev.put hr) .non (rs.putOld hH (r.append r2)) ht⟩
  ·obtain ⟨ds,es,hr,hr2,hz,ht⟩:=ht
   obtain ⟨vs,hH,r⟩:=rs.lst hr
   obtain ⟨ws,hH2,r2⟩:=rs.lst hr2
   rw [i1.ref_inv,i2.ref_inv]
   exact .inl ⟨_,_,vs,ws,rfl,rfl,hH,hH2,by rw [← r.len,← r2.len];exact hz,hq _ _ _ _ (Ev.put hr) .non (rs.putOld hH (r.append r2)) ht⟩
theorem de_popAt {apos:Pos} (ha:PE X a (up X.K ta)) (hb:PE X b (up X.K tb)) (hbase:∀ i p p',a ≠ .Call (.Name i p) [] [] p') (hs:∀ e p,b ≠ .Starred e p) (hline:(apos.endLine == pos.line)=true) :
  PE X (.Call (.Attribute a "pop" apos) [b] [] pos) (up X.K fun env st Q=>ta env st fun x st1=>isLR x st1∧tb env st1 fun y st2=>popAtR x y st2 Q):=
 de_m1 PySem.F.slot_list_pop PySem.F.type_list_pop mt_popAt ha hb hbase hs hline fun v w d e H' st' Qd Q i1 i2 rs ht hq=>by
  cases d <;> cases e <;> first | exact False.elim ht | skip
  rename_i i
  obtain ⟨⟨b1,b2⟩,ds,k,d,hr,hk,hd,ht⟩:=ht
  obtain ⟨vs,hH,r⟩:=rs.lst hr
  obtain ⟨v',hv',is'⟩:=r.get hd
  rw [i1.ref_inv,i2.int_inv]
  obtain ⟨q1,q2,q3,q4⟩:=ixN_seq hk
  exact ⟨_,vs,_,k,v',rfl,rfl,hH,by omega,by omega,by rw [← r.len];exact q1,hv',hq _ _ _ _ (Ev.put hr) (is'.mono (TK.put hH)) (rs.putOld hH (r.erase k)) ht⟩
theorem de_pop {apos:Pos} (ha:PE X a (up X.K ta)) (hbase:∀ i p p',a ≠ .Call (.Name i p) [] [] p') (hline:(apos.endLine == pos.line)=true) :
  PE X (.Call (.Attribute a "pop" apos) [] [] pos) (up X.K fun env st Q=>ta env st fun x st1=>popR x st1 Q):=
 PE.imp (pe_bm0 PySem.F.plainAttrs_list PySem.F.slot_list_pop PySem.F.type_list_pop mt_pop ha (base_of hbase) hline) fun σ H Q q=>up1 (f:=popR) q fun v d H' st' Qd is rs ht hq=>by
  cases d <;> first | exact False.elim ht | skip
  obtain ⟨ds,d,hr,ht⟩:=ht
  obtain ⟨vs,hH,r⟩:=rs.lst hr
  have hl:=r.len
  rw [List.length_append,List.length_singleton] at hl
  obtain ⟨v',hv',is'⟩:=r.get (i:=ds.length) (d:=d) (by simp)
  rw [is.ref_inv]
  refine ⟨.inl ⟨rfl,vs,.inl (.inl hH)⟩,_,vs,v',rfl,rfl,hH,by rw [← hl,Nat.add_sub_cancel];exact hv',hq _ _ _ (updS st' _ (.lst ds)) (Ev.put hr) (is'.mono (TK.put hH)) (rs.putOld hH ?_) ht⟩
  have e:vs.dropLast=vs.take ds.length:=by rw [List.dropLast_eq_take,← hl,Nat.add_sub_cancel]
  rw [e]
  have q:=r.take ds.length
  rwa [List.take_left'] at q
  rfl
end
end Ek
set_option Elab.async false
set_option linter.all false
set_option maxRecDepth 100000
set_option maxHeartbeats 4000000
namespace L2
open PySem PySem.Spec PyProof.Rows
section
variable {X:Cx}
noncomputable def rRev:V→List V→Hp→VK→Prop:=fun x vs H Q=>∃ l xs,x=.ref l∧vs=[]∧H l=some (.lst xs)∧Q .non (upd H l (.lst xs.reverse))
theorem mt_rev:MtM X "list.reverse" rRev:=by
 intro pins s σ H x vs v us Q I rx rv h
 obtain ⟨l,xs,rfl,rfl,hH,q⟩:=h
 cases rx
 have hus:=rv.zero
 subst hus
 obtain ⟨z,its,n,r,hl,e⟩:=I.lstM hH
 refine call_meets F.slot_list_reverse ⟨_,e,rfl⟩ F.entry_list_reverse (F.args_list_reverse_1 _) (AutoSeq1.list_reverse_list_0 l its.toArray n (by rw [List.size_toArray];omega)) ⟨e,?_⟩
 refine ⟨.non,_,I.lset (its':=its.reverse) hH e ?_ r.reverse ?_,rfl,q⟩
 ·simp
 ·rw [List.length_reverse]
  omega
noncomputable def rClr:V→List V→Hp→VK→Prop:=fun x vs H Q=>∃ l xs,x=.ref l∧vs=[]∧H l=some (.lst xs)∧Q .non (upd H l (.lst []))
theorem mt_clr:MtM X "list.clear" rClr:=by
 intro pins s σ H x vs v us Q I rx rv h
 obtain ⟨l,xs,rfl,rfl,hH,q⟩:=h
 cases rx
 have hus:=rv.zero
 subst hus
 obtain ⟨z,its,n,r,hl,e⟩:=I.lstM hH
 refine call_meets F.slot_list_clear ⟨_,e,rfl⟩ F.entry_list_clear (F.args_list_clear_1 _) (AutoSeq1.list_clear_list_0 l its.toArray n (by rw [List.size_toArray];omega)) ⟨e,?_⟩
 exact ⟨.non,_,I.lset (its':=[]) hH e rfl .nil (by simp),rfl,q⟩
end
end L2
namespace Ek
open PySem PySem.Spec PyProof.Rows L2
variable [Tbs]
section
variable {X:Cx} {a:Expr} {ta:DT} {pos:Pos}
theorem de_lrev {apos:Pos} (ha:PE X a (up X.K ta)) (hbase:∀ i p p',a ≠ .Call (.Name i p) [] [] p') (hline:(apos.endLine == pos.line)=true) :
  PE X (.Call (.Attribute a "reverse" apos) [] [] pos) (up X.K fun env st Q=>ta env st fun x st1=>revR x st1 Q):=
 PE.imp (pe_bm0 PySem.F.plainAttrs_list PySem.F.slot_list_reverse PySem.F.type_list_reverse mt_rev ha (base_of hbase) hline) fun σ H Q q=>up1 (f:=revR) q fun v d H' st' Qd is rs ht hq=>by
  cases d <;> first | exact False.elim ht | skip
  obtain ⟨ds,hr,ht⟩:=ht
  obtain ⟨vs,hH,r⟩:=rs.lst hr
  rw [is.ref_inv]
  exact ⟨.inl ⟨rfl,vs,.inl (.inl hH)⟩,_,vs,rfl,rfl,hH,hq _ _ _ (updS st' _ (.lst ds.reverse)) (Ev.put hr) .non (rs.putOld hH r.rev) ht⟩
theorem de_lclr {apos:Pos} (ha:PE X a (up X.K ta)) (hbase:∀ i p p',a ≠ .Call (.Name i p) [] [] p') (hline:(apos.endLine == pos.line)=true) :
  PE X (.Call (.Attribute a "clear" apos) [] [] pos) (up X.K fun env st Q=>ta env st fun x st1=>clrR x st1 Q):=
 PE.imp (pe_bm0 PySem.F.plainAttrs_list PySem.F.slot_list_clear PySem.F.type_list_clear mt_clr ha (base_of hbase) hline) fun σ H Q q=>up1 (f:=clrR) q fun v d H' st' Qd is rs ht hq=>by
  cases d <;> first | exact False.elim ht | skip
  obtain ⟨ds,hr,ht⟩:=ht
  obtain ⟨vs,hH,r⟩:=rs.lst hr
  rw [is.ref_inv]
  exact ⟨.inl ⟨rfl,vs,.inl (.inl hH)⟩,_,vs,rfl,rfl,hH,hq _ _ _ (updS st' _ (.lst [])) (Ev.put hr) .non (rs.putOld hH ⟨rfl,fun i d v h=>by simp at h⟩) ht⟩
end
end Ek
set_option Elab.async false
set_option linter.all false
set_option maxRecDepth 100000
set_option maxHeartbeats 4000000
namespace Ek
open PySem PySem.Spec PyProof.Rows L2
variable [Tbs]
theorem idx_loop {prog:Program} {w:World} {A:Around} {E:Value→Shared→Prop} {s:Shared} {items:Array Value} {x:Value} {e:Nat→Bool} {j:Nat} (hj:j < items.size) (he:∀ i (h:i < items.size),SeqAt.EqAt A s items[i] x (e i))
  (hit:e j=true) (hno:∀ i,i < j→e i=false):∀ k i,i + k=items.size→i≤j →
   wpAny (model prog w) A (forIn (List.range' i k) ((none:Option PySem.Fin),()) fun (i:Nat) __s=>
      match items[i]? with
      | some y=>do
       let __do_lift ← eqBool y x
       if __do_lift=true then do
         let __do_lift ← retInt (i:Int)
         pure (ForInStep.done (some __do_lift,()))
        else pure (ForInStep.yield (none,()))
      | x=>pure (ForInStep.yield (none,())))
    (fun r s'=>r.1=some (PySem.Fin.done (.ret (.int j s.toks)))∧s'={ s with toks:=s.toks + 1 }) E s
 | 0,i,h1,h2=>by omega
 | k + 1,i,h1,h2=>by
  have hi:i < items.size:=by omega
  rw [List.range'_succ,List.forIn_cons]
  have e1:items[i]?=some items[i]:=by simp [hi]
  rw [e1]
  dsimp only
  refine wpAny_bind (wpAny_bind (he i hi prog w _ _ ?_))
  by_cases hij:i=j
  ·subst hij
   rw [hit,if_pos rfl]
   refine wpAny_bind ?_
   show wpAny _ _ (mkInt (i:Int) >>= _) _ _ _
   refine wpAny_bind (wpAny_mkInt ?_)
   exact wpAny_pure (wpAny_pure (wpAny_pure ⟨rfl,rfl⟩))
  ·rw [hno i (by omega),if_neg Bool.false_ne_true]
   exact wpAny_pure (idx_loop hj he hit hno k (i + 1) (by omega) (by omega))
theorem tuple_index {prog:Program} {w:World} {A:Around} {E:Value→Shared→Prop} {s:Shared} {a:Addr} {items:Array Value} {x:Value} {e:Nat→Bool} {j:Nat} {Q:Value→Shared→Prop} (ht:s.heap.IsTuple a items) (hj:j < items.size) (he:∀ i (h:i < items.size),SeqAt.EqAt A.in1 s items[i] x (e i))
  (hit:e j=true) (hno:∀ i,i < j→e i=false) (hQ:Q (.int j s.toks) { s with toks:=s.toks + 1 }) :
  wpAny (model prog w) A (call (.builtin "tuple.index") [.ref a,x]) Q E s:=by
 obtain ⟨o,ho,hc,n,hd⟩:=id ht
 refine wpAny_call_entry F.slot_tuple_index ht.typeIs F.entry_tuple_index ?_ (F.args_tuple_index_2 _ _)
 unfold Builtin.«tuple.index»
 refine wpAny_bind (wpAny_of_eq (a:=(Value.ref a,[x])) rfl ?_)
 dsimp only
 refine wpAny_bind ?_
 unfold Builtin.Tuple.tupleItemsOf
 refine wpAny_bind (wpAny_seqItems ho hd (wpAny_pure ?_))
 refine wpAny_bind (wpAny_pure (wpAny_bind (wpAny_pure (wpAny_bind ?_))))
 rw [Std.Legacy.Range.forIn_eq_forIn_range']
 have hs:(Std.Legacy.Range.size [0:min items.size items.size])=items.size:=by simp [Std.Legacy.Range.size]
 rw [hs]
 refine wpAny_mono (idx_loop hj he hit hno items.size 0 (by omega) (Nat.zero_le _)) (fun r s' h=>?_) fun _ _ h=>h
 obtain ⟨h1,rfl⟩:=h
 rw [h1]
 exact wpAny_pure ⟨_,rfl,hQ⟩
theorem list_index {prog:Program} {w:World} {A:Around} {E:Value→Shared→Prop} {s:Shared} {a:Addr} {items:Array Value} {x:Value} {e:Value→Bool} {j:Nat} {Q:Value→Shared→Prop} (ht:s.heap.IsList a items) (hj:j < items.size) (hz:items.size≤sizeLine) (he:∀ y,y ∈ items→SeqAt.EqAt A.in1 s y x (e y))
  (hit:e items[j]=true) (hno:∀ m (hm:m < items.size),m < j→e items[m]=false) (hQ:Q (.int j s.toks) { s with toks:=s.toks + 1 }) :
  wpAny (model prog w) A (call (.builtin "list.index") [.ref a,x]) Q E s:=by
 obtain ⟨⟨cls,dd,data,sl⟩,ho,hc,n,hd⟩:=id ht
 simp only at hc hd
 subst hc hd
 have hb:sizeLine=16777216:=rfl
 exact call_meets PySem.F.slot_list_index ⟨_,ho,rfl⟩ PySem.F.entry_list_index (PySem.F.args_list_index_2 _ _) (SeqAt.list_indexAt a items n dd sl x e j hj (by omega) hit hno) ⟨ho,he,hQ⟩
section
variable {X:Cx} {a b c:Expr} {ta tb tc:DT} {pos p:Pos}
theorem tupT {pins:List (Addr × Obj)} {σ:L2.St} {H:Hp} {s:Shared} {v:V} {u:Value} {d:D} (I:L2.Inv X pins σ H s) (is:IsD X.K H d v) (ru:RelV v u) (h:∃ ds,d=.tup ds):s.TypeIs u "tuple"∧∀ a,u=.ref a→∃ ob,s.heap.get? a=some ob∧ob.dict=none:=by
 obtain ⟨ds,rfl⟩:=h
 obtain ⟨q,vs,rfl,hq,r⟩:=is.tup_inv
 cases ru
 obtain ⟨its,rv,⟨o,ho,hc,hdn,n,hd⟩,hz⟩:=I.tupleD hq
 exact ⟨⟨o,ho,hc⟩,fun a e=>by cases e;exact ⟨o,ho,hdn⟩⟩
open Classical in
noncomputable def eqTo (h:Heap) (x:PyData) (u:Value):Bool:=decide (∃ dt as,Reads h u dt as∧PyData.eqv dt x=true)
open Classical in
theorem eqTo_of {h:Heap} {x dt:PyData} {u:Value} {as:List Addr} (r:Reads h u dt as) (hc:dt.canLay0=true):eqTo h x u=PyData.eqv dt x:=by
 unfold eqTo
 cases hb:PyData.eqv dt x with
 | true=>exact decide_eq_true ⟨dt,as,r,hb⟩
 | false=>
  refine decide_eq_false fun ⟨d',as',r',hb'⟩=>?_
  rw [← SeqAt.Reads.unique dt d' u as as' hc r r',hb] at hb'
  cases hb'
theorem de_index {apos:Pos} (hu:X.A.units + 200 < cLine) (ha:PE X a (up X.K ta)) (hb:PE X b (up X.K tb)) (hbase:∀ i p p',a ≠ .Call (.Name i p) [] [] p') (hs:∀ e p,b ≠ .Starred e p) (hline:(apos.endLine == pos.line)=true) :
  PE X (.Call (.Attribute a "index" apos) [b] [] pos) (up X.K fun env st Q=>ta env st fun x st1=>isTR x st1∧tb env st1 fun y st2=>indexR x y st2 Q):=by
 intro pins s σ H Q I q
 obtain ⟨env,st,Qd,hE,hS,ht,hq⟩:=q
 refine wpAny_Call_method_late (base_of hbase) (by rw [starEach_plain hs];rfl) hline rfl (thn (ha pins s σ H (fun v H1=>∃ d st1,Ev st H st1 H1∧IsD X.K H1 d v∧RelS X.K st1 H1∧isTR d st1∧tb env st1 fun y st2=>indexR d y st2 Qd) I ⟨env,st,_,hE,hS,ht,fun v d H1 st1 ev is rs q1=>⟨d,st1,ev,is,rs,q1⟩⟩) fun u s1 ⟨v,H1,I1,r1,d,st1,ev,is,rs,q1,q2⟩=>?_)
 have hA0:=da_one hb hs pos pins s1 σ H1 (fun vs H2=>∃ w e st2,vs=[w]∧Ev st1 H1 st2 H2∧IsD X.K H2 e w∧RelS X.K st2 H2∧indexR d e st2 Qd) I1 ⟨env,st1,(fun ds st2=>match ds with | [e]=>indexR d e st2 Qd | _=>False),hE.mono (ev.tk hS),rs,q2,fun vs ds H2 st2 ev2 is2 hl rs2 q3=>by
  match ds,hl with
  | [e],_=>
   obtain ⟨w,ws,rfl,i1,i2⟩:=is2.inv_cons
   rw [i2.inv_nil]
   exact ⟨w,e,st2,rfl,ev2,i1,rs2,q3⟩⟩
 rw [starEach_plain hs] at hA0
 cases d with
 | tup ds=>
  obtain ⟨h1,h2⟩:=tupT I1 is r1 ⟨_,rfl⟩
  refine ⟨"tuple","tuple.index",PySem.F.plainAttrs_tuple,PySem.F.slot_tuple_index,PySem.F.type_tuple_index,h1,h2,?_⟩
  rw [starEach_plain hs]
  refine Calls.callWith_builtin (by rfl) (Calls.evalArgs_plain ?_)
  refine thn hA0 fun us s2 ⟨vs,H2,I2,r2,w,e,st2,ev',ev2,is2,rs2,q3⟩=>?_
  subst ev'
  obtain ⟨uw,rfl,rw'⟩:=r2.one
  obtain ⟨p1,p2,hd,j,dj,hjd,hit,hno,hQ⟩:=q3
  have is':=is.mono (ev2.tk rs)
  obtain ⟨q,vs,rfl,hsq,r⟩:=is'.tup_inv
  cases r1
  obtain ⟨its,rv,pl,hz⟩:=I2.tuple hsq
  have hlen:its.length=ds.length:=by rw [← rv.length,← r.len]
  have hj:j < ds.length:=(List.getElem?_eq_some_iff.mp hjd).1
  obtain ⟨as,ra⟩:=reads_of I2 is2 p1 rw'
  refine tuple_index (items:=its.toArray) (j:=j) (e:=fun i=>match ds[i]? with | some d=>deq d e | none=>false) (show s2.heap.IsTuple q its.toArray from pl) (by simpa [hlen] using hj) (fun i hi=>?_) (by rw [hjd];exact hit) (fun i hi=>?_) ?_
  ·have hi':i < ds.length:=by simpa [hlen] using hi
   have e1:ds[i]?=some ds[i]:=List.getElem?_eq_getElem hi'
   rw [e1]
   obtain ⟨v,hv,isv⟩:=r.get e1
   obtain ⟨u,hu',ruv⟩:=rv.get hv
   have pp:=pures_mem p2 ds[i] (List.getElem_mem hi')
   obtain ⟨bs,rb⟩:=reads_of I2 isv pp ruv
   have e2:its.toArray[i]=u:=by
    have:its[i]?=some its[i]:=List.getElem?_eq_getElem (by omega)
    rw [this] at hu'
    simpa using Option.some.inj hu'
   rw [e2]
   exact SeqAt.eqAt_reads _ _ X.A.in1 s2 u uw bs as rb ra (can_of _ pp) (can_of _ p1) (room151 hu hd)
  ·have hi':i < ds.length:=by omega
   have e1:ds[i]?=some ds[i]:=List.getElem?_eq_getElem hi'
   rw [e1]
   exact hno i _ hi e1
  ·exact ⟨.int j,H2,I2.tok _,⟨_,rfl⟩,((hq.after ev).after ev2).here (.int _) rs2 hQ⟩
 | ref a0=>
  obtain ⟨ds0,hr0⟩:=q1
  have ev1:=is.ref_inv
  subst ev1
  cases r1
  obtain ⟨vs0,hq0,_⟩:=rs.rd hr0
  obtain ⟨its0,_,pl0,_⟩:=I1.list hq0
  refine ⟨"list","list.index",PySem.F.plainAttrs_list,PySem.F.slot_list_index,PySem.F.type_list_index,pl0.isList.typeIs,fun a e=>?_,?_⟩
  ·cases e;obtain ⟨o,n,g1,g2,g3,g4⟩:=pl0;exact ⟨o,g1,g3⟩
  rw [starEach_plain hs]
  refine Calls.callWith_builtin (by rfl) (Calls.evalArgs_plain ?_)
  refine thn hA0 fun us s2 ⟨vs,H2,I2,r2,w,e,st2,ev',ev2,is2,rs2,q3⟩=>?_
  subst ev'
  obtain ⟨uw,rfl,rw'⟩:=r2.one
  obtain ⟨ds,hr,p1,p2,hd,j,dj,hjd,hit,hno,hQ⟩:=q3
  obtain ⟨vs,hsq,r⟩:=rs2.rd hr
  obtain ⟨its,rv,pl,hz⟩:=I2.list hsq
  have hlen:its.length=ds.length:=by rw [← rv.length,← r.len]
  have hj:j < ds.length:=(List.getElem?_eq_some_iff.mp hjd).1
  obtain ⟨as,ra⟩:=reads_of I2 is2 p1 rw'
  have at':∀ (i:Nat) (hi:i < ds.length),∃ bs,Reads s2.heap (its[i]'(by omega)) (ds[i]).py bs∧(ds[i]).py.canLay0=true:=fun i hi=>by
   have e1:ds[i]?=some ds[i]:=List.getElem?_eq_getElem hi
   obtain ⟨v,hv,isv⟩:=r.get e1
   obtain ⟨u,hu',ruv⟩:=rv.get hv
   have pp:=pures_mem p2 ds[i] (List.getElem_mem hi)
   obtain ⟨bs,rb⟩:=reads_of I2 isv pp ruv
   have e2:its[i]'(by omega)=u:=by
    have:its[i]?=some (its[i]'(by omega)):=List.getElem?_eq_getElem (by omega)
    rw [this] at hu'
    exact Option.some.inj hu'
   rw [e2]
   exact ⟨bs,rb,can_of _ pp⟩
  refine list_index (items:=its.toArray) (j:=j) (e:=eqTo s2.heap e.py) pl.isList (by simpa [hlen] using hj) (by rw [List.size_toArray,← rv.length];exact hz) (fun y hy=>?_) ?_ (fun m hm hlt=>?_) ?_
  ·obtain ⟨i,hi,rfl⟩:=List.mem_iff_getElem.mp (show y ∈ its by simpa using hy)
   obtain ⟨bs,rb,cb⟩:=at' i (by omega)
   rw [eqTo_of rb cb]
   exact SeqAt.eqAt_reads _ _ X.A.in1 s2 _ uw bs as rb ra cb (can_of _ p1) (room151 hu hd)
  ·obtain ⟨bs,rb,cb⟩:=at' j hj
   have e1:its.toArray[j]'(by simpa [hlen] using hj)=its[j]'(by omega):=by simp
   rw [e1,eqTo_of rb cb]
   have e2:dj=ds[j]:=by rw [List.getElem?_eq_getElem hj] at hjd;exact (Option.some.inj hjd).symm
   rw [e2] at hit
   exact hit
  ·have hm':m < ds.length:=by omega
   obtain ⟨bs,rb,cb⟩:=at' m hm'
   have e1:its.toArray[m]'hm=its[m]'(by omega):=by simp
   rw [e1,eqTo_of rb cb]
   exact hno m ds[m] hlt (List.getElem?_eq_getElem hm')
  ·exact ⟨.int j,H2,I2.tok _,⟨_,rfl⟩,((hq.after ev).after ev2).here (.int _) rs2 hQ⟩
 | _=>exact q1.elim
end
end Ek
set_option Elab.async false
set_option linter.all false
set_option maxRecDepth 100000
set_option maxHeartbeats 4000000
namespace Ek
open PySem PySem.Spec PyProof.Rows L2
variable [Tbs]
section
variable {X:Cx} {a b c:Expr} {ta tb tc:DT} {pos p:Pos}
noncomputable def DPs (X:Cx) (pos:Pos) (keys:List (Option Expr)) (values:List Expr) (ks:List Str) (t:DA):Prop:=
 ∃ trs,PPs X pos keys values trs∧∀ (σ:L2.St) (H:Hp) (Q:List (V × V)→Hp→Prop),(∃ env st Qd,RelE X.K H env σ∧RelS X.K st H∧t env st Qd ∧
  ∀ vs ds H' st',Ev st H st' H'→IsDs X.K H' ds vs→ds.length=ks.length→RelS X.K st' H'→Qd ds st'→Q ((ks.zip vs).map fun kv=>(V.str kv.1,kv.2)) H')→tPairs trs σ H Q
theorem dp_nil:DPs X pos [] [] [] (fun _ st Q=>Q [] st):=⟨[],pps_nil,fun σ H Q ⟨env,st,Qd,hE,hS,ht,hq⟩=>hq [] [] H st Ev.refl .nil rfl hS ht⟩
theorem dp_cons {k:Str} {j:Nat} {kp:Pos} {ks:List Str} {keys:List (Option Expr)} {values:List Expr} {t:DA} (ha:PE X a (up X.K ta)) (hr:DPs X pos keys values ks t) :
  DPs X pos (some (.Constant (.str k) j kp)::keys) (a::values) (k::ks) (fun env st Q=>ta env st fun d st1=>t env st1 fun ds st2=>Q (d::ds) st2):=by
 obtain ⟨trs,h1,h2⟩:=hr
 refine ⟨_,pps_cons pe_str ha h1,fun σ H Q ⟨env,st,Qd,hE,hS,ht,hq⟩=>?_⟩
 show up X.K ta σ H fun y H2=>tPairs trs σ H2 fun ps H3=>Q ((V.str k,y)::ps) H3
 exact ⟨env,st,_,hE,hS,ht,fun v d H1 st1 ev is rs q1=>h2 σ H1 _ ⟨env,st1,_,hE.mono (ev.tk hS),rs,q1,fun vs ds H2 st2 ev2 is2 hl rs2 q2=>
  hq (v::vs) (d::ds) H2 st2 (ev.trans ev2) (.cons (is.mono (ev2.tk rs)) is2) (by simp [hl]) rs2 q2⟩⟩
theorem merge_new:∀ (more kvs:List (Key × V)),(∀ k ∈ more.map (·.1),valV kvs k=none)→(more.map (·.1)).Nodup→mergeK kvs more=kvs++more
 | [],kvs,_,_=>by simp [mergeK]
 | (k,v)::r,kvs,h,nd=>by
  have nd':=List.nodup_cons.mp (show (k::r.map (·.1)).Nodup from nd)
  show mergeK (putK kvs k v) r=_
  rw [putK_new v (h k (by simp)),merge_new r _ (fun k' hk'=>?_) nd'.2,List.append_assoc]
  ·rfl
  ·have hne:k' ≠ k:=fun z=>nd'.1 (by rw [← z];exact hk')
   have h1:=h k' (by simp only [List.map_cons,List.mem_cons];exact .inr hk')
   unfold valV at h1 ⊢
   rw [Option.map_eq_none_iff] at h1 ⊢
   rw [List.find?_append,h1]
   simp [Ne.symm hne]
theorem valV_look:∀ (ks:List Str) (ds:List D) (vs:List V) (w:Str) (d:D) {K:PySem.W.Frag} {H:Hp},IsDs K H ds vs→lookD (ks.zip ds) w=some d→∃ v,valV ((ks.zip vs).map fun kv=>((Sum.inr kv.1:Key),kv.2)) (Sum.inr w)=some v∧IsD K H d v
 | [],ds,vs,w,d,K,H,r,h=>by simp [lookD] at h
 | k::ks,[],vs,w,d,K,H,r,h=>by simp [lookD] at h
 | k::ks,e::ds,vs,w,d,K,H,r,h=>by
  obtain ⟨v,ws,rfl,h1,h2⟩:=r.inv_cons
  simp only [List.zip_cons_cons,lookD] at h
  by_cases hk:k=w
  ·rw [if_pos hk] at h
   cases h
   refine ⟨v,?_,h1⟩
   unfold valV
   simp [hk]
  ·rw [if_neg hk] at h
   obtain ⟨v',h3,h4⟩:=valV_look ks ds ws w d h2 h
   refine ⟨v',?_,h4⟩
   unfold valV at h3 ⊢
   simp only [List.zip_cons_cons,List.map_cons,List.find?_cons]
   have:decide ((Sum.inr k:Key)=Sum.inr w)=false:=decide_eq_false fun z=>hk (Sum.inr.inj z)
   rw [this]
   exact h3
theorem de_dsel {ks:List Str} {keys:List (Option Expr)} {values:List Expr} {t:DA} {dp:Pos} (hu:X.A.units + 200 < cLine) (hd:DPs X dp keys values ks t) (hall:keys.all (·.isSome)=true) (hl:keys.length=values.length) (h0:keys ≠ []) (hkl:keys.length=ks.length) (h15:keys.length≤15) (nd:ks.Nodup)
  (hb:PE X b (up X.K tb)) (hs:∀ l u s p,b ≠ .Slice l u s p) :
  PE X (.Subscript (.Dict keys values dp) b pos) (up X.K fun env st Q=>t env st fun ds st1=>tb env st1 fun x st2=>∃ w d,x=.str w∧lookD (ks.zip ds) w=some d∧Q d st2):=by
 obtain ⟨trs,h1,h2⟩:=hd
 refine PE.imp (pe_dget (by omega) (pe_disp h1 hall hl h0 h15) hb (plainIx_of hs)) fun σ H Q q=>?_
 obtain ⟨env,st,Qd,hE,hS,ht,hq⟩:=q
 intro p hp
 have sp:st p=none:=hS.free hp
 refine h2 σ _ _ ⟨env,st,_,hE.mono (TK.new hp),hS.new hp,ht,fun vs ds H2 st2 ev2 is2 hl2 rs2 q2=>?_⟩
 obtain ⟨e2,sp2⟩:=ev2.get upd_same sp (fun _=>nofun)
 refine ⟨e2,(ks.zip vs).map fun kv=>((Sum.inr kv.1:Key),kv.2),by rw [List.map_map];rfl,?_,?_⟩
 ·rw [List.length_map,List.length_zip,← is2.len,hl2];omega
 have hm:mergeK [] ((ks.zip vs).map fun kv=>((Sum.inr kv.1:Key),kv.2))=(ks.zip vs).map fun kv=>((Sum.inr kv.1:Key),kv.2):=by
  rw [merge_new _ [] (fun _ _=>rfl)]
  ·rfl
  ·rw [List.map_map]
   have:((fun x:Key × V=>x.1) ∘ fun kv:Str × V=>((Sum.inr kv.1:Key),kv.2))=(fun x:Str=>(Sum.inr x:Key)) ∘ (fun kv:Str × V=>kv.1):=rfl
   rw [this,← List.map_map]
   have e:(ks.zip vs).map (fun kv:Str × V=>kv.1)=ks:=by
    have:=List.map_fst_zip (l₁:=ks) (l₂:=vs) (by rw [← is2.len,hl2];exact Nat.le_refl _)
    exact this
   rw [e]
   exact List.Pairwise.map _ (fun a b hab z=>hab (Sum.inr.inj z)) nd
 rw [hm]
 have tk3:TK X.K H2 (upd H2 p (.dK ((ks.zip vs).map fun kv=>((Sum.inr kv.1:Key),kv.2)))):=TK.putD e2
 have rs3:RelS X.K st2 (upd H2 p (.dK ((ks.zip vs).map fun kv=>((Sum.inr kv.1:Key),kv.2)))):=rs2.stay tk3 (fun c u z=>upd_ne fun w=>by rw [w,sp2] at z;cases z) (tbl_upd (by rw [e2];exact fun _ z=>by cases z))
 refine ⟨env,st2,_,((hE.mono (TK.new hp)).mono (ev2.tk (hS.new hp))).mono tk3,rs3,q2,fun y x H4 st4 ev4 is4 rs4 q4=>?_⟩
 obtain ⟨w,d,rfl,lk,q4⟩:=q4
 obtain ⟨e4,sp4⟩:=ev4.get upd_same sp2 (fun _=>nofun)
 have is2':=(is2.mono tk3).mono (ev4.tk rs3)
 obtain ⟨v,hv,isv⟩:=valV_look ks ds vs w d is2' lk
 refine ⟨p,v,rfl,?_,hq v d H4 st4 (fun c o hc hs=>?_) isv rs4 q4⟩
 ·rw [is4.str_inv,← hv]
  exact DGet.k (k:=Sum.inr w) e4
 ·have ne:c ≠ p:=ne_of_none hc hp
  obtain ⟨⟨o1,x1,t1⟩,y1⟩:=ev2 c o (by rw [upd_ne ne];exact hc) hs
  obtain ⟨⟨o2,x2,t2⟩,y2⟩:=ev4 c o1 (by rw [upd_ne ne];exact x1) y1
  exact ⟨⟨o2,x2,t1.trans t2⟩,y2⟩
theorem zip_ks {α:Type} (ks:List Str) (vs:List α) (h:ks.length=vs.length):((ks.zip vs).map fun kv=>((Sum.inr kv.1:Key),kv.2)).map (·.1)=ks.map Sum.inr∧((ks.zip vs).map fun kv=>((Sum.inr kv.1:Key),kv.2)).map (·.2)=vs:=by
 induction ks generalizing vs with
 | nil=>
  cases vs with
  | nil=>exact ⟨rfl,rfl⟩
  | cons _ _=>simp at h
 | cons k ks ih=>
  cases vs with
  | nil=>simp at h
  | cons v vs=>
   obtain ⟨h1,h2⟩:=ih vs (by simpa using h)
   simp only [List.zip_cons_cons,List.map_cons]
   exact ⟨by rw [h1],by rw [h2]⟩
theorem de_dict {ks:List Str} {keys:List (Option Expr)} {values:List Expr} {t:DA} {dp:Pos} (hd:DPs X dp keys values ks t) (hall:keys.all (·.isSome)=true) (hl:keys.length=values.length) (h0:keys ≠ []) (hkl:keys.length=ks.length) (h15:keys.length≤15) (nd:ks.Nodup) :
  PE X (.Dict keys values dp) (up X.K fun env st Q=>t env st fun ds st1=>∀ p,st1 p=none→Q (.ref p) (updS st1 p (.dct ((ks.zip ds).map fun kv=>(.inr kv.1,kv.2))))):=by
 obtain ⟨trs,h1,h2⟩:=hd
 refine PE.imp (pe_disp h1 hall hl h0 h15) fun σ H Q q=>?_
 obtain ⟨env,st,Qd,hE,hS,ht,hq⟩:=q
 intro p hp
 have sp:st p=none:=hS.free hp
 refine h2 σ _ _ ⟨env,st,_,hE.mono (TK.new hp),hS.new hp,ht,fun vs ds H2 st2 ev2 is2 hl2 rs2 q2=>?_⟩
 obtain ⟨e2,sp2⟩:=ev2.get upd_same sp (fun _=>nofun)
 have hlv:ks.length=vs.length:=by rw [← is2.len,hl2]
 have hld:ks.length=ds.length:=by rw [hl2]
 refine ⟨e2,(ks.zip vs).map fun kv=>((Sum.inr kv.1:Key),kv.2),by rw [List.map_map];rfl,?_,?_⟩
 ·rw [List.length_map,List.length_zip,← is2.len,hl2];omega
 have hm:mergeK [] ((ks.zip vs).map fun kv=>((Sum.inr kv.1:Key),kv.2))=(ks.zip vs).map fun kv=>((Sum.inr kv.1:Key),kv.2):=by
  rw [merge_new _ [] (fun _ _=>rfl)]
  ·rfl
  ·rw [(zip_ks ks vs hlv).1]
   exact List.Pairwise.map _ (fun a b hab z=>hab (Sum.inr.inj z)) nd
 rw [hm]
 have tk3:TK X.K H2 (upd H2 p (.dK ((ks.zip vs).map fun kv=>((Sum.inr kv.1:Key),kv.2)))):=TK.putD e2
 refine hq _ (.ref p) _ (updS st2 p (.dct ((ks.zip ds).map fun kv=>(.inr kv.1,kv.2)))) (fun c o hc hs=>?_) (.ref p) (rs2.putAny (ob:=.dct ((ks.zip ds).map fun kv=>(.inr kv.1,kv.2))) tk3 ⟨_,upd_same,⟨?_,?_⟩⟩ (by rw [e2];exact fun _ z=>by cases z)) (q2 p sp2)
 ·have ne:c ≠ p:=ne_of_none hc hp
  obtain ⟨⟨o1,x1,t1⟩,y1⟩:=ev2 c o (by rw [upd_ne ne];exact hc) hs
  exact ⟨⟨o1,by rw [upd_ne ne];exact x1,t1⟩,by rw [updS_ne ne];exact y1⟩
 ·rw [(zip_ks ks ds hld).1,(zip_ks ks vs hlv).1]
 ·rw [(zip_ks ks ds hld).2,(zip_ks ks vs hlv).2]
  exact is2.mono tk3
noncomputable abbrev TabV (h:Heap) (a:Addr) (T:List (Str × Value)):Prop:=KTD.TabOf (fun (d v:Value)=>v=d) h a T
structure GTab (P:Program) (w:World) (K:PySem.W.Frag) (mg:Str→Option Value) (g:Str) (kvs:List (Str × D)):Prop where
 ex:∃ (a:Addr) (T:List (Str × Value)),mg g=some (.ref a)∧(∀ h:Heap,K.In h→TabV h a T)∧(∀ x d,lookD kvs x=some d→∃ u v,KTD.datumAt x T=some u∧RelV v u∧∀ H,IsD K H d v)∧∀ x,lookD kvs x=none→KTD.datumAt x T=none
end
end Ek
set_option Elab.async false
set_option linter.all false
set_option maxRecDepth 100000
set_option maxHeartbeats 4000000
namespace Ek
open PySem PySem.Spec PyProof.Rows L2
variable [Tbs]
section
variable {X:Cx} {a b c:Expr} {ta tb tc:DT} {pos p:Pos}
structure ItOk (K:PySem.W.Frag) (H1:Hp) (J:L2.It) (items:List D) (chk:Sto→Prop):Prop where
 go:∀ (i:Nat) st H,TK K H1 H→RelS K st H→chk st→i < items.length→J.go i H
 yld:∀ (i:Nat) st H x H',TK K H1 H→RelS K st H→chk st→i < items.length→J.yld i H x H'→∃ d,items[i]?=some d∧IsD K H' d x∧Ev st H st H'∧RelS K st H'
 stop:∀ st H,TK K H1 H→RelS K st H→chk st→J.stop items.length H
noncomputable def upI (K:PySem.W.Frag) (t:DEnv→Sto→ItK→Prop):TI:=fun σ H R=>∃ env st k,RelE K H env σ∧RelS K st H∧t env st k∧∀ items chk st' H' J,Ev st H st' H'→RelS K st' H'→ItOk K H' J items chk→k items chk st'→R J H'
theorem _root_.L2.PI.imp {X:Cx} {tg x:Expr} {t t':TI} (h:PI X tg x t) (i:∀ σ H Q,t' σ H Q→t σ H Q):PI X tg x t':=fun pins s σ H Q I q=>h pins s σ H Q I (i σ H Q q)
variable {K:PySem.W.Frag}
theorem it_tup {q:Addr} {ds:List D} {vs:List V} {H1:Hp} (hq:SqT K H1 q vs) (r:IsDs K H1 ds vs):ItOk K H1 (Itt K q) ds (fun _=>True) where
 go:=fun i st H tk rs _ hi=>by
  obtain ⟨v,hv,_⟩:=r.get (List.getElem?_eq_getElem hi)
  exact ⟨vs,v,tk.1 _ _ hq,hv⟩
 yld:=fun i st H x H' tk rs _ hi y=>by
  obtain ⟨rfl,y⟩:=y
  obtain ⟨d,hd,is⟩:=r.get' (y vs (tk.1 _ _ hq))
  exact ⟨d,hd,is.mono tk,Ev.refl,rs⟩
 stop:=fun st H tk rs _=>⟨vs,tk.1 _ _ hq,by rw [r.len];exact Nat.le_refl _⟩
theorem it_lst {q:Addr} {ds:List D} {H1:Hp}:ItOk K H1 (Itl K q) ds (fun st=>rdS st q ds) where
 go:=fun i st H tk rs hc hi=>by
  obtain ⟨vs,hs,r⟩:=rs.rd hc
  obtain ⟨v,hv,_⟩:=r.get (List.getElem?_eq_getElem hi)
  exact ⟨vs,v,hs,hv⟩
 yld:=fun i st H x H' tk rs hc hi y=>by
  obtain ⟨rfl,y⟩:=y
  obtain ⟨vs,hs,r⟩:=rs.rd hc
  obtain ⟨d,hd,is⟩:=r.get' (y vs hs)
  exact ⟨d,hd,is,Ev.refl,rs⟩
 stop:=fun st H tk rs hc=>by
  obtain ⟨vs,hs,r⟩:=rs.rd hc
  exact ⟨vs,hs,by rw [r.len];exact Nat.le_refl _⟩
theorem it_rng {lo:Int} {n:Nat} {H1:Hp}:ItOk K H1 (Itr lo n) (rangeD lo n) (fun _=>True) where
 go:=fun i st H tk rs _ hi=>by show i < n;simpa [rangeD] using hi
 yld:=fun i st H x H' tk rs _ hi y=>by
  obtain ⟨rfl,rfl⟩:=y
  have hi':i < n:=by simpa [rangeD] using hi
  exact ⟨.int (lo + i),by simp [rangeD,hi'],.int _,Ev.refl,rs⟩
 stop:=fun st H tk rs _=>by show n≤(rangeD lo n).length;simp [rangeD]
theorem enumD_len:∀ (ds:List D) (k:Nat),(enumD k ds).length=ds.length
 | [],_=>rfl
 | d::ds,k=>by simp [enumD,enumD_len ds (k + 1)]
theorem enumD_get:∀ (ds:List D) (k i:Nat) (d:D),ds[i]?=some d→(enumD k ds)[i]?=some (.tup [.int ((k + i:Nat):Int),d])
 | [],k,i,d,h=>by simp at h
 | e::ds,k,0,d,h=>by simp at h;subst h;rfl
 | e::ds,k,i + 1,d,h=>by
  have:=enumD_get ds (k + 1) i d (by simpa using h)
  have e:k + (i + 1)=k + 1 + i:=by omega
  rw [e]
  simpa [enumD] using this
theorem it_enum {sq:Hp→List V→Prop} {ds:List D} {H1:Hp} {chk:Sto→Prop} (h:∀ st H,TK K H1 H→RelS K st H→chk st→∃ vs,sq H vs∧IsDs K H ds vs):ItOk K H1 (Ite K sq) (enumD 0 ds) chk where
 go:=fun i st H tk rs hc hi=>by
  obtain ⟨vs,hs,r⟩:=h st H tk rs hc
  rw [enumD_len] at hi
  obtain ⟨v,hv,_⟩:=r.get (List.getElem?_eq_getElem hi)
  exact ⟨vs,v,hs,hv⟩
 yld:=fun i st H x H' tk rs hc hi y=>by
  obtain ⟨t,v,ht,rfl,rfl,y⟩:=y
  obtain ⟨vs,hs,r⟩:=h st H tk rs hc
  obtain ⟨d,hd,is⟩:=r.get' (y vs hs)
  refine ⟨_,enumD_get ds 0 i d hd,IsD.mk (SqT.of upd_same) (.cons ?_ (.cons (is.mono (TK.new ht)) .nil)),Ev.new ht,rs.new ht⟩
  have e:((0 + i:Nat):Int)=(i:Int):=by simp
  rw [e]
  exact .int _
 stop:=fun st H tk rs hc=>by
  obtain ⟨vs,hs,r⟩:=h st H tk rs hc
  exact ⟨vs,hs,by rw [enumD_len,r.len]⟩
theorem it_rev {q:Addr} {ds:List D} {H1:Hp}:ItOk K H1 (Itv K q ds.length) ds.reverse (fun st=>rdS st q ds) where
 go:=fun i st H tk rs hc hi=>by
  obtain ⟨vs,hs,r⟩:=rs.rd hc
  exact ⟨⟨vs,hs,r.len.symm⟩,by simpa using hi⟩
 yld:=fun i st H x H' tk rs hc hi y=>by
  obtain ⟨rfl,y⟩:=y
  obtain ⟨vs,hs,r⟩:=rs.rd hc
  have hi':i < ds.length:=by simpa using hi
  obtain ⟨d,hd,is⟩:=r.get' (y vs hs)
  exact ⟨d,by rw [List.getElem?_reverse hi'];exact hd,is,Ev.refl,rs⟩
 stop:=fun st H tk rs hc=>by
  obtain ⟨vs,hs,r⟩:=rs.rd hc
  exact ⟨⟨vs,hs,r.len.symm⟩,by simp⟩
variable {tg:Expr}
theorem di_seq (ha:PE X a (up X.K ta)):PI X tg a (upI X.K fun env st k=>ta env st fun d st1=>(∃ ds,d=.tup ds∧k ds (fun _=>True) st1) ∨ (∃ a ds,d=.ref a∧rdS st1 a ds∧k ds (fun st'=>rdS st' a ds) st1)):=by
 intro pins s σ H R I q
 obtain ⟨env,st,kk,hE,hS,ht,hq⟩:=q
 refine thn (ha pins s σ H (fun v H1=>∃ d st1,Ev st H st1 H1∧IsD X.K H1 d v∧RelS X.K st1 H1∧((∃ ds,d=.tup ds∧kk ds (fun _=>True) st1) ∨ (∃ a ds,d=.ref a∧rdS st1 a ds∧kk ds (fun st'=>rdS st' a ds) st1))) I ⟨env,st,_,hE,hS,ht,fun v d H1 st1 ev is rs q1=>⟨d,st1,ev,is,rs,q1⟩⟩) fun u s1 ⟨v,H1,I1,r1,d,st1,ev,is,rs,q1⟩=>?_
 rcases q1 with ⟨ds,rfl,q1⟩ | ⟨q,ds,rfl,hr,q1⟩
 ·obtain ⟨q,vs,rfl,hsq,r⟩:=is.tup_inv
  cases r1
  obtain ⟨its,rv,pl,hz⟩:=I1.tuple hsq
  refine wpAny_pyIter_tuple (show s1.heap.IsTuple q its.toArray from pl) ?_
  refine ⟨s1.heap.objs.size,[s1.heap.objs.size],_,_,H1,rfl,I1.kept (t':=s1.toks) fun b o e=>Heap.get?_push_of_some _ e,turn_tuple q _,⟨_,Heap.get?_push_size _ rfl,rfl,rfl⟩,fun b hb=>?_,hq ds _ st1 H1 _ ev rs (it_tup hsq r) q1⟩
  have e:b=s1.heap.objs.size:=by simpa using hb
  subst e
  exact I1.fpOk (Nat.le_refl _) (I1.hok.fresh (Nat.le_refl _))
 ·rw [is.ref_inv] at r1
  cases r1
  obtain ⟨vs,hsq,r⟩:=rs.rd hr
  obtain ⟨its,rv,pl,hz⟩:=I1.list hsq
  refine wpAny_pyIter_list pl.isList ?_
  refine ⟨s1.heap.objs.size,[s1.heap.objs.size],_,_,H1,rfl,I1.kept (t':=s1.toks) fun b o e=>Heap.get?_push_of_some _ e,turn_list q _,⟨_,Heap.get?_push_size _ rfl,rfl,rfl⟩,fun b hb=>?_,hq ds _ st1 H1 _ ev rs it_lst q1⟩
  have e:b=s1.heap.objs.size:=by simpa using hb
  subst e
  exact I1.fpOk (Nat.le_refl _) (I1.hok.fresh (Nat.le_refl _))
theorem di_rng (hg:Gl X "range") (hm:X.mg "range"=none) (ha:PE X a (up X.K ta)) (hs:∀ e p,a ≠ .Starred e p):PI X tg (.Call (.Name "range" p) [a] [] pos) (upI X.K fun env st k=>ta env st fun d st1=>∃ j:Int,d=.int j∧(-(2 ^ 62)≤j∧j < 2 ^ 62)∧k (rangeD 0 j.toNat) (fun _=>True) st1):=
 PI.imp (pi_range1 hg hm (da_one ha hs) (by rw [starEach_plain hs];rfl)) fun σ H R q=>by
  obtain ⟨env,st,kk,hE,hS,ht,hq⟩:=q
  refine ⟨env,st,(fun ds st1=>match ds with | [d]=>∃ j:Int,d=.int j∧(-(2 ^ 62)≤j∧j < 2 ^ 62)∧kk (rangeD 0 j.toNat) (fun _=>True) st1 | _=>False),hE,hS,ht,fun vs ds H' st' ev is hl rs q1=>?_⟩
  match ds,hl with
  | [d],_=>
   obtain ⟨v,ws,rfl,i1,i2⟩:=is.inv_cons
   rw [i2.inv_nil]
   obtain ⟨j,rfl,hj,q1⟩:=q1
   exact ⟨j,by rw [i1.int_inv],hj.1,hj.2,hq _ _ st' H' _ ev rs it_rng q1⟩
theorem di_rng2 (hg:Gl X "range") (hm:X.mg "range"=none) (ha:PE X a (up X.K ta)) (hb:PE X b (up X.K tb)) (hs:∀ e p,a ≠ .Starred e p) (hs':∀ e p,b ≠ .Starred e p):PI X tg (.Call (.Name "range" p) [a,b] [] pos) (upI X.K fun env st k=>ta env st fun d st1=>tb env st1 fun e st2=>∃ i j:Int,d=.int i∧e=.int j∧(-(2 ^ 62)≤i∧i < 2 ^ 62∧-(2 ^ 62)≤j∧j < 2 ^ 62)∧k (rangeD i (j - i).toNat) (fun _=>True) st2):=
 PI.imp (pi_range2 hg hm (da_two ha hb hs hs') (by rw [starEach_plain hs,starEach_plain hs'];rfl) (by rw [starEach_plain hs'];rfl)) fun σ H R q=>by
  obtain ⟨env,st,kk,hE,hS,ht,hq⟩:=q
  refine ⟨env,st,(fun ds st1=>match ds with | [d,e]=>∃ i j:Int,d=.int i∧e=.int j∧(-(2 ^ 62)≤i∧i < 2 ^ 62∧-(2 ^ 62)≤j∧j < 2 ^ 62)∧kk (rangeD i (j - i).toNat) (fun _=>True) st1 | _=>False),hE,hS,ht,fun vs ds H' st' ev is hl rs q1=>?_⟩
  match ds,hl with
  | [d,e],_=>
   obtain ⟨v,ws,rfl,i1,i2⟩:=is.inv_cons
   obtain ⟨w,ws',rfl,i3,i4⟩:=i2.inv_cons
   rw [i4.inv_nil]
   obtain ⟨i,j,rfl,rfl,hj,q1⟩:=q1
   exact ⟨i,j,by rw [i1.int_inv,i3.int_inv],hj,hq _ _ st' H' _ ev rs it_rng q1⟩
theorem di_enum {elts:List Expr} {k0:Nat} {tp:Pos} (hg:Gl X "enumerate") (hm:X.mg "enumerate"=none) (ha:PE X a (up X.K ta)) (hs:∀ e p,a ≠ .Starred e p):PI X (.Tuple elts k0 tp) (.Call (.Name "enumerate" p) [a] [] pos)
  (upI X.K fun env st k=>ta env st fun d st1=>(∃ ds,d=.tup ds∧k (enumD 0 ds) (fun _=>True) st1) ∨ (∃ a ds,d=.ref a∧rdS st1 a ds∧k (enumD 0 ds) (fun st'=>rdS st' a ds) st1)):=by
 have hst:starEach [a] X.env=[(false,eval a X.env)]:=by rw [starEach_plain hs];rfl
 intro pins s σ H R I q
 obtain ⟨env,st,kk,hE,hS,ht,hq⟩:=q
 have hA:=da_one ha hs
 refine Call_ (ld_blt I hg hm L2.boot_enumerate (PyProof.Rows.callWith_type1 (thn (hA pos pins s σ H (fun vs H1=>∃ v d st1,vs=[v]∧Ev st H st1 H1∧IsD X.K H1 d v∧RelS X.K st1 H1∧((∃ ds,d=.tup ds∧kk (enumD 0 ds) (fun _=>True) st1) ∨ (∃ a ds,d=.ref a∧rdS st1 a ds∧kk (enumD 0 ds) (fun st'=>rdS st' a ds) st1))) I
  ⟨env,st,(fun ds st1=>match ds with | [d]=>(∃ ds,d=.tup ds∧kk (enumD 0 ds) (fun _=>True) st1) ∨ (∃ a ds,d=.ref a∧rdS st1 a ds∧kk (enumD 0 ds) (fun st'=>rdS st' a ds) st1) | _=>False),hE,hS,ht,fun vs ds H' st' ev is hl rs q1=>by
   match ds,hl with
   | [d],_=>
    obtain ⟨v,ws,rfl,i1,i2⟩:=is.inv_cons
    rw [i2.inv_nil]
    exact ⟨v,d,st',rfl,ev,i1,rs,q1⟩⟩) fun us s1 ⟨vs,H1,I1,r1,v,d,st1,e1,ev,is,rs,q1⟩=>?_) hst rfl))
 subst e1
 obtain ⟨u,rfl,ru⟩:=r1.one
 rcases q1 with ⟨ds,rfl,q1⟩ | ⟨q,ds,rfl,hr,q1⟩
 ·obtain ⟨l,vs,rfl,hsq,r⟩:=is.tup_inv
  cases ru
  exact enumT_it I1 hsq (hq _ _ st1 H1 _ ev rs (it_enum fun st H tk rs _=>⟨vs,tk.1 _ _ hsq,r.mono tk⟩) q1)
 ·rw [is.ref_inv] at ru
  cases ru
  obtain ⟨vs,hsq,r⟩:=rs.rd hr
  exact enumL_it I1 hsq (hq _ _ st1 H1 _ ev rs (it_enum fun st H tk rs hc=>rs.rd hc) q1)
theorem di_rev (hg:Gl X "reversed") (hm:X.mg "reversed"=none) (ha:PE X a (up X.K ta)) (hs:∀ e p,a ≠ .Starred e p):PI X tg (.Call (.Name "reversed" p) [a] [] pos) (upI X.K fun env st k=>ta env st fun d st1=>∃ a ds,d=.ref a∧rdS st1 a ds∧k ds.reverse (fun st'=>rdS st' a ds) st1):=
 PI.imp (pi_revL hg hm (da_one ha hs) (by rw [starEach_plain hs];rfl)) fun σ H R q=>by
  obtain ⟨env,st,kk,hE,hS,ht,hq⟩:=q
  refine ⟨env,st,(fun ds st1=>match ds with | [d]=>∃ a ds,d=.ref a∧rdS st1 a ds∧kk ds.reverse (fun st'=>rdS st' a ds) st1 | _=>False),hE,hS,ht,fun vs ds H' st' ev is hl rs q1=>?_⟩
  match ds,hl with
  | [d],_=>
   obtain ⟨v,ws,rfl,i1,i2⟩:=is.inv_cons
   rw [i2.inv_nil]
   obtain ⟨q,ds,rfl,hr,q1⟩:=q1
   obtain ⟨vs,hsq,r⟩:=rs.rd hr
   exact ⟨q,vs,by rw [i1.ref_inv],hsq,by rw [← r.len];exact hq _ _ st' H' _ ev rs it_rev q1⟩
end
end Ek
set_option Elab.async false
set_option linter.all false
set_option maxRecDepth 100000
set_option maxHeartbeats 4000000
namespace PySem
open PyProof.Rows
namespace F
theorem ek_owner_rev:Manifest.owners.lookup (String.ofList ['d','e','s','r','e','v','e','r'].reverse)=some Manifest.sig_reversed:=by kernel_rfl
theorem ek_slot_rev_next:Slot "reversed" "__next__" "reversed.__next__":=
 .of (owner:="reversed") (n:="__next__") (by rw [typeLookup_type,builtinLookup_eq_fast];kernel_rfl) (by decide +kernel) (by decide +kernel) (by decide +kernel)
  (by first | exact .inl (by decide +kernel) | exact .inr (by decide +kernel)) (by rw [isSubtype_type];kernel_rfl)
theorem ek_slot_rev_init:Slot "reversed" "__init__" "object.__init__":=
 .of (owner:="object") (n:="__init__") (by rw [typeLookup_type,builtinLookup_eq_fast];kernel_rfl) (by decide +kernel) (by decide +kernel) (by decide +kernel)
  (by first | exact .inl (by decide +kernel) | exact .inr (by decide +kernel)) (by rw [isSubtype_type];kernel_rfl)
theorem ek_slot_rev_iter:Slot "reversed" "__iter__" "reversed.__iter__":=
 .of (owner:="reversed") (n:="__iter__") (by rw [typeLookup_type,builtinLookup_eq_fast];kernel_rfl) (by decide +kernel) (by decide +kernel) (by decide +kernel)
  (by first | exact .inl (by decide +kernel) | exact .inr (by decide +kernel)) (by rw [isSubtype_type];kernel_rfl)
theorem ek_entry_rev_next:entryFor table "reversed.__next__"=some Builtin.«reversed.__next__»:=entryFor_of_tree (by kernel_rfl)
theorem ek_entry_rev_iter:entryFor table "reversed.__iter__"=some Builtin.«dict_keyiterator.__iter__»:=
 entryFor_alias (id':="dict_keyiterator.__iter__") (by kernel_rfl) (by first | rfl | decide +kernel | (unfold String.splitOn;simp +decide [String.splitOnAux])) (by decide +kernel) (by kernel_rfl)
theorem ek_args_rev_next (a:Value):argsOk "reversed.__next__" ⟨[a],[]⟩:=by
 unfold argsOk;rw [signature?_of (id:="reversed.__next__") (n:=['_','_','t','x','e','n','_','_']) (o:=['d','e','s','r','e','v','e','r']) (by kernel_rfl) ek_owner_rev];kernel_rfl
theorem ek_args_rev_iter (a:Value):argsOk "reversed.__iter__" ⟨[a],[]⟩:=by
 unfold argsOk;rw [signature?_of (id:="reversed.__iter__") (n:=['_','_','r','e','t','i','_','_']) (o:=['d','e','s','r','e','v','e','r']) (by kernel_rfl) ek_owner_rev];kernel_rfl
theorem ek_called_reversed:TypeCalled "reversed" "reversed.__new__" "object.__init__":=
 ⟨by decide +kernel,by decide +kernel,⟨_,_,mro_reversed⟩,made_reversed,by decide +kernel,by rw [isSubtype_type];kernel_rfl,ek_slot_rev_init⟩
theorem ek_tuple_no_rev:typeLookup (.type "tuple") "__reversed__"=pure none:=by rw [typeLookup_type,builtinLookup_eq_fast];kernel_rfl
theorem ek_sub_tuple_dict:isSubtype (.type "tuple") (.type "dict")=pure false:=by rw [isSubtype_type];kernel_rfl
end F
noncomputable def revTObj (l:Addr) (i:Int):Obj:={ cls:=.type "reversed",data:=.fields #[.ref l,rawInt i] }
theorem meets_revT (l:Addr) (items:Array Value) (hfit:(items.size:Int) < 2 ^ 63) :
  Meets (Builtin.«reversed.__new__» ⟨[.type "reversed",.ref l],[]⟩) (fun _ R s=>IsTup s.heap l items∧∀ tk,R (.ok (.ret (.ref s.heap.objs.size))) { s with heap:=s.heap.push (revTObj l ((items.size:Int) - 1)),toks:=tk }):=
 .of_wp fun prog w A R s h=>by
  obtain ⟨hp,g,d,tk,os⟩:=s;obtain ⟨hl,h⟩:=h
  have hsub:=F.sub_reversed_self
  have hty:Shared.TypeIs ⟨hp,g,d,tk,os⟩ (.ref l) "tuple":=hl.typeIs
  have f1:=F.ek_tuple_no_rev
  have f2:=F.ek_sub_tuple_dict
  have f3:=slot_tuple_getitem.lookup
  wp_walk using (wpAny_specialOf hty F.ek_tuple_no_rev),(wpAny_isInstance hty F.ek_sub_tuple_dict),(wpAny_specialOf hty slot_tuple_getitem.lookup),(len_tuple hl hfit)
  exact ⟨_,rfl,h _⟩
end PySem
set_option Elab.async false
set_option linter.all false
set_option maxRecDepth 100000
set_option maxHeartbeats 4000000
namespace PySem
open PyProof.Rows
noncomputable def IsRevT (h:Heap) (a l:Addr) (i:Int):Prop:=∃ o,h.get? a=some o∧o.cls=.type "reversed"∧o.data=.fields #[.ref l,rawInt i]
section
variable {prog:Program} {w:World} {A:Around} {E:Value→Shared→Prop} {s:Shared}
theorem IsRevT.typeIs {a l:Addr} {i:Int} (x:IsRevT s.heap a l i):s.TypeIs (.ref a) "reversed":=let ⟨o,ho,hc,_⟩:=x;⟨o,ho,hc⟩
theorem IsRevT.stay {h h':Heap} {a l:Addr} {i:Int} (x:IsRevT h a l i) (e:∀ o,h.get? a=some o→h'.get? a=some o):IsRevT h' a l i:=let ⟨o,ho,r⟩:=x;⟨o,e _ ho,r⟩
theorem call_revT {l:Addr} {items:Array Value} {Q:Value→Shared→Prop} (hl:IsTup s.heap l items) (hfit:(items.size:Int) < 2 ^ 63)
  (h:∀ tk,Q (.ref s.heap.objs.size) { s with heap:=s.heap.push (revTObj l ((items.size:Int) - 1)),toks:=tk }):wpAny (model prog w) A (call (.type "reversed") [.ref l]) Q E s:=by
 refine callType_new F.ek_called_reversed (by decide) (F.typeCall_reversed_1 _) (F.newCall_reversed_1 _) (fun obj=>F.args_object_init_2 obj _) F.entry_reversed_new (meets_revT l items hfit) ⟨hl,fun tk=>?_⟩
 exact ⟨⟨_,Heap.get?_push_size _ rfl,rfl⟩,h tk⟩
theorem nextOf_revT_item {it l:Addr} {i:Nat} {items:Array Value} {x:Value} {Q:Value→Shared→Prop} (hit:IsRevT s.heap it l (i:Int)) (hl:IsTup s.heap l items) (hx:items[i]?=some x) (hfit:(items.size:Int) < 2 ^ 63)
  (hQ:∀ h' tk,IsRevT h' it l ((i:Int) - 1)→Heap.SameBut it s.heap h'→Q x { s with heap:=h',toks:=tk }):wpAny (model prog w) A (Builtin.SmallTypes.nextOf (.ref it)) Q E s:=by
 obtain ⟨o,ho,hc,hd⟩:=id hit
 have hi:i < items.size:=(Array.getElem?_eq_some_iff.mp hx).1
 unfold Builtin.SmallTypes.nextOf
 refine wpAny_bind (wpAny_callSpecial?_slot (name:=Str.ofString "__next__") hit.typeIs F.ek_slot_rev_next
  (wpAny_call_entry F.ek_slot_rev_next hit.typeIs F.ek_entry_rev_next ?_ (F.ek_args_rev_next _)))
 unfold Builtin.«reversed.__next__»
 refine wpAny_bind (wpAny_of_eq (a:=(Value.ref it,[])) rfl ?_)
 try dsimp only
 refine wpAny_bind (wpAny_field ho hd (x:=.ref l) rfl ?_)
 refine wpAny_bind (wpAny_field ho hd (x:=rawInt (i:Int)) rfl ?_)
 show wpAny _ _ (if (i:Int) < 0 then _ else _) _ _ s
 rw [if_neg (by omega)]
 try dsimp only
 refine wpAny_bind (wpAny_specialOf hl.typeIs slot_tuple_getitem.lookup ?_)
 show wpAny _ _ (if (Option.isNone (some _))=true then _ else _) _ _ s
 rw [if_neg (by simp)]
 try dsimp only
 refine wpAny_bind (wpAny_mkInt ?_)
 refine wpAny_bind (wpAny_attempt (getItem_tuple (j:=i) (x:=x) (s:={ s with toks:=s.toks + 1 }) hl (by omega) (by omega) ?_ hx ?_))
 ·unfold seqIndex?
  simp
  omega
 try dsimp only
 refine wpAny_bind (wpAny_field ho hd (x:=rawInt (i:Int)) rfl ?_)
 show wpAny _ _ (setField (.ref it) 1 (rawInt ((i:Int) - 1)) >>= _) _ _ _
 refine wpAny_bind (wpAny_setField ho hd (by simp) ?_)
 refine wpAny_pure ⟨x,rfl,wpAny_pure (hQ _ _ ?_ (Heap.SameBut.update ..))⟩
 exact ⟨_,Heap.get?_update_self _ ho (Obj.isFreed_of_fields (Obj.data_mapFields hd _)),(Obj.cls_mapFields ..).trans hc,by
  rw [Obj.data_mapFields hd];simp⟩
end
end PySem
set_option Elab.async false
set_option linter.all false
set_option maxRecDepth 100000
set_option maxHeartbeats 4000000
namespace PySem
open PyProof.Rows
section
variable {prog:Program} {w:World} {A:Around} {E:Value→Shared→Prop} {s:Shared}
theorem pyIter_revT {it l:Addr} {i:Int} {Q:Value→Shared→Prop} (hit:IsRevT s.heap it l i) (h:Q (.ref it) s):wpAny (model prog w) A (pyIter (.ref it)) Q E s:=by
 refine wpAny_pyIter_slot hit.typeIs F.ek_slot_rev_iter (wpAny_call_entry F.ek_slot_rev_iter hit.typeIs F.ek_entry_rev_iter ?_ (F.ek_args_rev_iter _))
 show wpAny _ _ (ret (.ref it)) _ _ s
 exact wpAny_pure ⟨_,rfl,"reversed",_,hit.typeIs,F.ek_slot_rev_next.lookup,h⟩
theorem nextOf_revT_end {it l:Addr} {Q:Value→Shared→Prop} (hh:A.handled=none) (hit:IsRevT s.heap it l (-1))
  (hE:∀ h' e,Heap.ExtBut it s.heap h'→(∃ o,h'.get? e=some o∧o.cls=.type "StopIteration")→E (.ref e) { s with heap:=h' }):wpAny (model prog w) A (Builtin.SmallTypes.nextOf (.ref it)) Q E s:=by
 obtain ⟨o,ho,hc,hd⟩:=id hit
 unfold Builtin.SmallTypes.nextOf
 refine wpAny_bind (wpAny_callSpecial?_slot (name:=Str.ofString "__next__") hit.typeIs F.ek_slot_rev_next
  (wpAny_call_entry F.ek_slot_rev_next hit.typeIs F.ek_entry_rev_next ?_ (F.ek_args_rev_next _)))
 unfold Builtin.«reversed.__next__»
 refine wpAny_bind (wpAny_of_eq (a:=(Value.ref it,[])) rfl ?_)
 try dsimp only
 refine wpAny_bind (wpAny_field ho hd (x:=.ref l) rfl ?_)
 refine wpAny_bind (wpAny_field ho hd (x:=rawInt (-1)) rfl ?_)
 show wpAny _ _ (if (-1:Int) < 0 then _ else _) _ _ s
 rw [if_pos (by decide)]
 refine wpAny_bind (wpAny_rule ?_)
 refine wpAny_bind (wpAny_bind (wpAny_setField ho hd (by simp) ?_))
 refine wpAny_setField (Heap.get?_update_self _ ho (Obj.isFreed_of_fields (Obj.data_mapFields hd _))) (Obj.data_mapFields hd _) (by simp) ?_
 refine wpAny_bind ?_
 show wpAny _ _ (newExc (.type "StopIteration") [] >>= _) _ _ _
 refine wpAny_bind ?_
 simp only [newExc,newTuple]
 refine wpAny_bind (wpAny_newObj_type ?_ (by size_fits))
 refine wpAny_bind (m:=firstArgMember _ _) (wpAny_of_eq (a:=Value.none) (by first | rfl | (simp only [firstArgMember];rfl)) ?_)
 refine wpAny_newObj_type ?_ (by size_fits)
 simp only [raiseNew]
 refine wpAny_bind (wpAny_handled ?_)
 first | rw [show A.in1.handled=none from hh] | rw [hh]
 refine wpAny_bind (wpAny_pure (wpAny_throw ?_))
 exact hE _ _ ((((Heap.SameBut.update ..).extBut.trans (Heap.SameBut.update ..).extBut).push _).push _) ⟨_,Heap.get?_push_size _ rfl,rfl⟩
end
end PySem
set_option Elab.async false
set_option linter.all false
set_option maxRecDepth 100000
set_option maxHeartbeats 4000000
namespace PySem
open PyProof.Rows
theorem Draws.revT {prog:Program} {w:World} {A:Around} (hh:A.handled=none) (it l:Addr) (hne:l ≠ it) (items:Array Value) (hfit:(items.size:Int) < 2 ^ 63) :
  Draws prog w A it [it,l] items.size (fun i v=>i < items.size∧items[items.size - 1 - i]?=some v) (fun i h=>IsRevT h it l ((items.size:Int) - 1 - (i:Int))∧IsTup h l items) where
 live:=fun _ _ st=>let ⟨o,ho,_⟩:=st.1;⟨o,ho⟩
 frame:=fun _ _ _ st hk=>⟨st.1.stay fun o e=>hk it (by simp) o e,let ⟨o,ho,r⟩:=st.2;⟨o,hk l (by simp) o ho,r⟩⟩
 item:=fun i s Q E hi st hQ=>by
  have e:(items.size:Int) - 1 - (i:Int)=((items.size - 1 - i:Nat):Int):=by omega
  have hlt:items.size - 1 - i < items.size:=by omega
  have x1:items[items.size - 1 - i]?=some items[items.size - 1 - i]:=by simp [hlt]
  have hit:=st.1
  rw [e] at hit
  refine nextOf_revT_item hit st.2 x1 hfit fun h' tk hit' hs'=>?_
  refine hQ _ h' tk ⟨hi,x1⟩ ⟨?_,st.2.extBut hs'.extBut hne⟩ hs'
  have e2:((items.size - 1 - i:Nat):Int) - 1=(items.size:Int) - 1 - ((i + 1:Nat):Int):=by omega
  rw [e2] at hit'
  exact hit'
 done:=fun s Q E st hE=>by
  have hit:=st.1
  have e:(items.size:Int) - 1 - (items.size:Int)=-1:=by omega
  rw [e] at hit
  exact nextOf_revT_end hh hit hE
open AutoSeq1 (wpAny_loadPart') in
theorem meets_enumerate_newR (it l:Addr) (j:Int) :
  Meets (Builtin.«enumerate.__new__» ⟨[.type "enumerate",.ref it],[]⟩) (fun _ R s=>s.heap.get? it=some (revTObj l j) ∧
   R (.ok (.ret (.ref s.heap.objs.size))) { s with heap:=s.heap.push { cls:=.type "enumerate",data:=.fields #[.none,.bool false,.ref it,rawInt 0,.none,.none] } }):=
 .of_wp fun prog w A R s h=>by
  obtain ⟨hp,g,d,tk,os⟩:=s;obtain ⟨hl,h⟩:=h
  have hsub:=sub_enumerate
  have hL:IsRevT (Shared.heap ⟨hp,g,d,tk,os⟩) it l j:=⟨_,hl,rfl,rfl⟩
  wp_walk using wpAny_loadPart' hl
  refine wpAny_stack_any fun st=>wpAny_pure ?_
  split
  ·rename_i c _ _ _ _ _
   cases (c == Value.type "enumerate")
   ·wp_walk using wpAny_loadPart' hl,pyIter_revT hL
    exact ⟨_,rfl,h⟩
   ·wp_walk using wpAny_loadPart' hl,pyIter_revT hL
    exact ⟨_,rfl,h⟩
  ·wp_walk using wpAny_loadPart' hl,pyIter_revT hL
   exact ⟨_,rfl,h⟩
end PySem
set_option Elab.async false
set_option linter.all false
set_option maxRecDepth 100000
set_option maxHeartbeats 4000000
namespace PySem
open PyProof.Rows
section
variable {prog:Program} {w:World} {A:Around} {E:Value→Shared→Prop} {s:Shared}
theorem call_enumR {it l:Addr} {j:Int} {Q:Value→Shared→Prop} (hl:s.heap.get? it=some (revTObj l j))
  (h:∀ h',IsEnum h' s.heap.objs.size it 0 .none→(∀ b o,s.heap.get? b=some o→h'.get? b=some o)→Q (.ref s.heap.objs.size) { s with heap:=h' }) :
  wpAny (model prog w) A (call (.type "enumerate") [.ref it]) Q E s:=by
 refine callType_new F.called_enumerate (by decide) (F.typeCall_enumerate_1 _) (F.newCall_enumerate_1 _) (fun obj=>F.args_object_init_2 obj _) F.entry_enumerate_new (meets_enumerate_newR it l j) ⟨hl,?_⟩
 exact ⟨⟨_,Heap.get?_push_size _ rfl,rfl⟩,h _ (Heap.get?_push_size _ rfl) fun b o x=>Heap.get?_push_of_some _ x⟩
end
end PySem
namespace L2
open PySem PySem.Spec PyProof.Rows
section
variable {X:Cx}
noncomputable def SqR (K:PySem.W.Frag) (l:Addr) (n:Nat):Hp→List V→Prop:=fun H ys=>∃ zs,SqT K H l zs∧zs.length=n∧ys=zs.reverse
theorem enumR_it {elts:List Expr} {k0:Nat} {tp:Pos} {pins:List (Addr × Obj)} {σ:St} {H1:Hp} {s1:Shared} {R:It→Hp→Prop} {l:Addr} {xs:List V} {E:Value→Shared→Prop} {tk:Nat} (I1:Inv X pins σ H1 s1) (hq:SqT X.K H1 l xs) (q:R (Ite X.K (SqR X.K l xs.length)) H1) :
  wpAny (model X.prog X.w) X.A (call (.type "enumerate") [.ref s1.heap.objs.size]) (fun v s=>wpAny (model X.prog X.w) X.A (pyIter v) (PIE X pins σ (.Tuple elts k0 tp) R) E s) E { s1 with heap:=s1.heap.push (revTObj l ((xs.length:Int) - 1)),toks:=tk }:=by
 have g0:(s1.heap.push (revTObj l ((xs.length:Int) - 1))).get? s1.heap.objs.size=some (revTObj l ((xs.length:Int) - 1)):=Heap.get?_push_size _ rfl
 have sz:(s1.heap.push (revTObj l ((xs.length:Int) - 1))).objs.size=s1.heap.objs.size + 1:=Heap.size_push ..
 refine call_enumR (s:={ s1 with heap:=s1.heap.push (revTObj l ((xs.length:Int) - 1)),toks:=tk }) g0 fun h' he kk'=>wpAny_pyIter_enum he ?_
 have kk:∀ b o,s1.heap.get? b=some o→h'.get? b=some o:=fun b o x=>kk' b o (Heap.get?_push_of_some _ x)
 have he:IsEnum h' (s1.heap.objs.size + 1) s1.heap.objs.size 0 .none:=by have:=he;rwa [show Heap.objs (Shared.heap { s1 with heap:=s1.heap.push (revTObj l ((xs.length:Int) - 1)),toks:=tk })=(s1.heap.push (revTObj l ((xs.length:Int) - 1))).objs from rfl,sz] at this
 have hit:IsRevT h' s1.heap.objs.size l ((xs.length:Int) - 1):=⟨_,kk' _ _ g0,rfl,rfl⟩
 have I2:Inv X pins σ H1 { s1 with heap:=h',toks:=tk }:=I1.kept (t':=tk) kk
 have hlt:∀ b ∈ [s1.heap.objs.size + 1,s1.heap.objs.size],s1.heap.objs.size≤b:=fun b hb=>by
  rcases List.mem_cons.mp hb with z | z
  ·rw [z];exact Nat.le_succ _
  ·have z':b=s1.heap.objs.size:=by simpa using z
   rw [z'];exact Nat.le_refl _
 show PIE X pins σ (.Tuple elts k0 tp) R (.ref (s1.heap.push (revTObj l ((xs.length:Int) - 1))).objs.size) _
 rw [sz]
 refine ⟨s1.heap.objs.size + 1,[s1.heap.objs.size + 1,s1.heap.objs.size],_,_,H1,rfl,I2,turn_enum (sq:=SqR X.K l xs.length) (pit:=fun i h=>IsRevT h s1.heap.objs.size l ((xs.length:Int) - 1 - (i:Int))) (bad:=fun _=>True) (Nat.succ_ne_self _) ?_ ?_ ?_ ?_,⟨⟨_,by simpa using he⟩,by simpa using hit⟩,fun b hb=>I1.fpOk (hlt b hb) (I1.hok.fresh (hlt b hb)),q⟩
 ·rintro i h ⟨o,ho,hc,hd⟩
  exact ⟨o,ho,fun v z=>by rw [hd] at z;cases z⟩
 ·exact fun i h h' st kk=>st.stay kk
 ·intro Y hP hw hK hc i pins s σ H ys I f1 f2 hit he hq
  obtain ⟨zs,hq,hn,rfl⟩:=hq
  rw [← hK] at hq
  obtain ⟨its,rv,pl,hz⟩:=I.tuple hq
  have hlen:its.toArray.size=xs.length:=by rw [List.size_toArray,← rv.length,hn]
  obtain ⟨old,he⟩:=he
  obtain ⟨oi,hoi,hci,hdi⟩:=id hit
  obtain ⟨ol,hol,hcl,nl,hdl⟩:=id pl
  have n1:l ≠ s1.heap.objs.size:=ne_cls hol hoi (by rw [hcl,hci];decide)
  have n2:s1.heap.objs.size + 1 ≠ l:=ne_cls he hol (by rw [hcl];show Value.type "enumerate" ≠ _;decide)
  have hfit:(its.toArray.size:Int) < 2 ^ 63:=by
   rw [hlen]
   have:xs.length≤sizeLine:=by omega
   have hsl:sizeLine < 2 ^ 62:=by decide +kernel
   omega
  refine ⟨its.reverse,[s1.heap.objs.size,l],(fun i v=>i < its.toArray.size∧its.toArray[its.toArray.size - 1 - i]?=some v),(fun i h=>IsRevT h s1.heap.objs.size l ((its.toArray.size:Int) - 1 - (i:Int))∧IsTup h l its.toArray),rv.reverse,by simpa using hz,?_,?_,⟨by rw [hlen];exact hit,pl⟩,fun j v z=>?_,fun j h z=>by rw [← hlen];exact z.1⟩
  ·have D:=Draws.revT (prog:=X.prog) (w:=X.w) (A:=Y.A.in1) (by exact I.ok.hd hc) s1.heap.objs.size l n1 its.toArray hfit
   simpa using D
  ·intro z
   rcases List.mem_cons.mp z with z | z
   ·exact Nat.succ_ne_self _ z
   ·exact n2 (by simpa using z)
  ·obtain ⟨z1,z2⟩:=z
   rw [List.size_toArray] at z1 z2
   rw [List.getElem?_reverse z1]
   simpa using z2
 ·intro Y pins s σ H xs' ys hK I h1 h2
  obtain ⟨z1,a1,b1,rfl⟩:=h1
  obtain ⟨z2,a2,b2,rfl⟩:=h2
  rw [← hK] at a1 a2
  rw [I.tuple_inj a1 a2]
end
end L2
namespace Ek
open PySem PySem.Spec PyProof.Rows L2
variable [Tbs]
section
variable {X:Cx} {a:Expr} {ta:DT} {pos p p2 pos2:Pos}
theorem di_enumr {elts:List Expr} {k0:Nat} {tp:Pos} (hg:Gl X "enumerate") (hm:X.mg "enumerate"=none) (hg2:Gl X "reversed") (hm2:X.mg "reversed"=none) (ha:PE X a (up X.K ta)) (hs:∀ e p,a ≠ .Starred e p) :
  PI X (.Tuple elts k0 tp) (.Call (.Name "enumerate" p) [.Call (.Name "reversed" p2) [a] [] pos2] [] pos) (upI X.K fun env st k=>ta env st fun d st1=>∃ ds,d=.tup ds∧k (enumD 0 ds.reverse) (fun _=>True) st1):=by
 have hst:starEach [a] X.env=[(false,eval a X.env)]:=by rw [starEach_plain hs];rfl
 intro pins s σ H R I q
 obtain ⟨env,st,kk,hE,hS,ht,hq⟩:=q
 refine Call_ (ld_blt I hg hm L2.boot_enumerate (PyProof.Rows.callWith_type1 (Q:=_) (Calls.spliced_cons ?_) rfl rfl))
 refine Call_ (ld_blt I hg2 hm2 L2.boot_reversed (PyProof.Rows.callWith_type1 (thn (da_one ha hs pos2 pins s σ H (fun vs H1=>∃ v ds st1,vs=[v]∧Ev st H st1 H1∧IsD X.K H1 (.tup ds) v∧RelS X.K st1 H1∧kk (enumD 0 ds.reverse) (fun _=>True) st1) I
  ⟨env,st,(fun ds st1=>match ds with | [d]=>∃ ds,d=.tup ds∧kk (enumD 0 ds.reverse) (fun _=>True) st1 | _=>False),hE,hS,ht,fun vs ds H' st' ev is hl rs q1=>?_⟩) fun us s1 hh=>?_) hst rfl))
 ·match ds,hl with
  | [d],_=>
   obtain ⟨v,ws,rfl,i1,i2⟩:=is.inv_cons
   rw [i2.inv_nil]
   obtain ⟨ds,rfl,q1⟩:=q1
   exact ⟨v,ds,st',rfl,ev,i1,rs,q1⟩
 obtain ⟨vs,H1,I1,r1,v,ds,st1,e1,ev,is,rs,q1⟩:=hh
 subst e1
 obtain ⟨u,rfl,ru⟩:=r1.one
 obtain ⟨l,vs,rfl,hsq,r⟩:=is.tup_inv
 cases ru
 obtain ⟨its,rv,pl,hz⟩:=I1.tuple hsq
 have hlen:its.toArray.size=vs.length:=by rw [List.size_toArray,← rv.length]
 have hfit:(its.toArray.size:Int) < 2 ^ 63:=by
  rw [hlen]
  have hsl:sizeLine < 2 ^ 62:=by decide +kernel
  omega
 refine call_revT pl hfit fun tk=>?_
 refine Calls.spliced_nil ?_
 rw [hlen]
 exact enumR_it I1 hsq (hq _ _ st1 H1 _ ev rs (it_enum fun st H tk rs _=>⟨vs.reverse,⟨vs,tk.1 _ _ hsq,rfl,rfl⟩,(r.mono tk).rev⟩) q1)
end
end Ek
set_option Elab.async false
set_option linter.all false
set_option maxRecDepth 100000
set_option maxHeartbeats 4000000
namespace Ek
open PySem PySem.Spec PyProof.Rows L2
variable [Tbs]
section
variable {X:Cx} {a b:Expr} {ta tb:DT} {pos p:Pos} {K:PySem.W.Frag}
theorem zipD_len (ds es:List D):(zipD ds es).length=min ds.length es.length:=by unfold zipD;rw [List.length_map,List.length_zip]
theorem zipD_get {ds es:List D} {i:Nat} {d e:D} (h1:ds[i]?=some d) (h2:es[i]?=some e):(zipD ds es)[i]?=some (.tup [d,e]):=by
 have h:(ds.zip es)[i]?=some (d,e):=List.getElem?_zip_eq_some.mpr ⟨h1,h2⟩
 unfold zipD;rw [List.getElem?_map,h];rfl
theorem it_zip {b1 b2:Bool} {l1 l2:Addr} {ds es:List D} {H1:Hp} {chk:Sto→Prop} (h:∀ st H,TK K H1 H→RelS K st H→chk st→(∃ vs,SqB b1 K H l1 vs∧IsDs K H ds vs)∧∃ us,SqB b2 K H l2 us∧IsDs K H es us):ItOk K H1 (Itz K b1 b2 l1 l2) (zipD ds es) chk where
 go:=fun i st H tk rs hc hi=>by
  obtain ⟨⟨vs,hs,r⟩,us,hu,r2⟩:=h st H tk rs hc
  rw [zipD_len] at hi
  obtain ⟨v,hv,_⟩:=r.get (List.getElem?_eq_getElem (show i < ds.length by omega))
  obtain ⟨u,hu',_⟩:=r2.get (List.getElem?_eq_getElem (show i < es.length by omega))
  exact ⟨vs,us,v,u,hs,hu,hv,hu'⟩
 yld:=fun i st H x H' tk rs hc hi y=>by
  obtain ⟨t,v,u,ht,rfl,rfl,y1,y2⟩:=y
  obtain ⟨⟨vs,hs,r⟩,us,hu,r2⟩:=h st H tk rs hc
  obtain ⟨d,hd,is⟩:=r.get' (y1 vs hs)
  obtain ⟨e,he,is2⟩:=r2.get' (y2 us hu)
  exact ⟨_,zipD_get hd he,IsD.mk (SqT.of upd_same) (.cons (is.mono (TK.new ht)) (.cons (is2.mono (TK.new ht)) .nil)),Ev.new ht,rs.new ht⟩
 stop:=fun st H tk rs hc=>by
  obtain ⟨⟨vs,hs,r⟩,us,hu,r2⟩:=h st H tk rs hc
  refine ⟨vs,us,hs,hu,?_⟩
  rw [zipD_len,r.len,r2.len]
  rcases Nat.le_total vs.length us.length with z | z
  ·exact .inl (by rw [Nat.min_eq_left z];exact List.getElem?_eq_none (Nat.le_refl _))
  ·exact .inr (by rw [Nat.min_eq_right z];exact List.getElem?_eq_none (Nat.le_refl _))
theorem seq_of {d:D} {xs:List D} {v:V} {st1:Sto} {H1:Hp} (is:IsD K H1 d v) (hi:itemsOf st1 d xs):∃ b l,v=.ref l∧∀ st H,TK K H1 H→RelS K st H→itemsOf st d xs→∃ vs,SqB b K H l vs∧IsDs K H xs vs:=by
 cases d <;> first | exact False.elim hi | skip
 ·have e:_=xs:=hi
  subst e
  obtain ⟨l,vs,rfl,hsq,r⟩:=is.tup_inv
  exact ⟨true,l,rfl,fun st H tk rs _=>⟨vs,tk.1 _ _ hsq,r.mono tk⟩⟩
 ·exact ⟨false,_,is.ref_inv,fun st H tk rs hc=>rs.rd hc⟩
theorem di_zip {elts:List Expr} {k0:Nat} {tp:Pos} (hg:Gl X "zip") (hm:X.mg "zip"=none) (ha:PE X a (up X.K ta)) (hb:PE X b (up X.K tb)) (hs:∀ e p,a ≠ .Starred e p) (hs':∀ e p,b ≠ .Starred e p):PI X (.Tuple elts k0 tp) (.Call (.Name "zip" p) [a,b] [] pos)
  (upI X.K fun env st k=>ta env st fun d st1=>tb env st1 fun e st2=>∃ xs ys,itemsOf st2 d xs∧itemsOf st2 e ys∧k (zipD xs ys) (fun st'=>itemsOf st' d xs∧itemsOf st' e ys) st2):=by
 have hst2:starEach [b] X.env=[(false,eval b X.env)]:=by rw [starEach_plain hs'];rfl
 have hst:starEach [a,b] X.env=(false,eval a X.env)::starEach [b] X.env:=by rw [starEach_plain hs]
 intro pins s σ H R I q
 obtain ⟨env,st,kk,hE,hS,ht,hq⟩:=q
 have hA:=da_two ha hb hs hs'
 refine Call_ (ld_blt I hg hm L2.boot_zip (PyProof.Rows.callWith_type1 (thn (hA pos pins s σ H (fun vs H1=>∃ v w d e st1,vs=[v,w]∧Ev st H st1 H1∧IsD X.K H1 d v∧IsD X.K H1 e w∧RelS X.K st1 H1∧∃ xs ys,itemsOf st1 d xs∧itemsOf st1 e ys∧kk (zipD xs ys) (fun st'=>itemsOf st' d xs∧itemsOf st' e ys) st1) I
  ⟨env,st,(fun ds st1=>match ds with | [d,e]=>∃ xs ys,itemsOf st1 d xs∧itemsOf st1 e ys∧kk (zipD xs ys) (fun st'=>itemsOf st' d xs∧itemsOf st' e ys) st1 | _=>False),hE,hS,ht,fun vs ds H' st' ev is hl rs q1=>by
   match ds,hl with
   | [d,e],_=>
    obtain ⟨v,ws,rfl,i1,i2⟩:=is.inv_cons
    obtain ⟨w,ws',rfl,i3,i4⟩:=i2.inv_cons
    rw [i4.inv_nil]
    exact ⟨v,w,d,e,st',rfl,ev,i1,i3,rs,q1⟩⟩) fun us s1 hh=>?_) hst (by rw [hst2];rfl)))
 obtain ⟨vs,H1,I1,r1,v,w,d,e,st1,e1,ev,is,is2,rs,xs,ys,hx,hy,q1⟩:=hh
 subst e1
 obtain ⟨u,u2,rfl,ru,ru2⟩:=r1.two
 obtain ⟨b1,l1,rfl,k1⟩:=seq_of is hx
 obtain ⟨b2,l2,rfl,k2⟩:=seq_of is2 hy
 cases ru
 cases ru2
 obtain ⟨vs,s1',_⟩:=k1 st1 H1 TK.refl rs hx
 obtain ⟨us,s2',_⟩:=k2 st1 H1 TK.refl rs hy
 exact zip_it I1 s1' s2' (hq _ _ st1 H1 _ ev rs (it_zip fun st H tk rs hc=>⟨k1 st H tk rs hc.1,k2 st H tk rs hc.2⟩) q1)
theorem de_min (hc:X.calm=true) (hg:Gl X "min") (hm:X.mg "min"=none) (ha:PE X a (up X.K ta)) (hb:PE X b (up X.K tb)) (hs:∀ e p,a ≠ .Starred e p) (hs':∀ e p,b ≠ .Starred e p) :
  PE X (.Call (.Name "min" p) [a,b] [] pos) (up X.K fun env st Q=>ta env st fun x st1=>tb env st1 fun y st2=>∃ i j,x=.int i∧y=.int j∧Q (.int (if j < i then j else i)) st2):=
 PE.imp (pe_callB (call_min2 hc) hg hm (by decide +kernel) (da_two ha hb hs hs') (by decide) (by decide) (starEach_plain hs) (by rw [starEach_plain hs'];rfl)) fun σ H Q q=>by
  obtain ⟨env,st,Qd,hE,hS,ht,hq⟩:=q
  refine ⟨env,st,(fun ds st1=>match ds with | [x,y]=>∃ i j,x=.int i∧y=.int j∧Qd (.int (if j < i then j else i)) st1 | _=>False),hE,hS,ht,fun vs ds H' st' ev is hl rs q1=>?_⟩
  match ds,hl with
  | [d,e],_=>
   obtain ⟨v,ws,rfl,i1,i2⟩:=is.inv_cons
   obtain ⟨w,ws',rfl,i3,i4⟩:=i2.inv_cons
   rw [i4.inv_nil]
   obtain ⟨i,j,rfl,rfl,q1⟩:=q1
   exact ⟨i,j,by rw [i1.int_inv,i3.int_inv],(hq.after ev).here (.int _) rs q1⟩
end
end Ek
set_option Elab.async false
set_option linter.all false
set_option maxRecDepth 100000
set_option maxHeartbeats 4000000
namespace PySem
theorem lri_no_len:typeLookup (.type "list_reverseiterator") "__len__"=pure none:=by rw [typeLookup_type,builtinLookup_eq_fast];kernel_rfl
theorem lri_hint:typeLookup (.type "list_reverseiterator") "__length_hint__"=pure (some (.builtin "list_reverseiterator.__length_hint__")):=by rw [typeLookup_type,builtinLookup_eq_fast];kernel_rfl
theorem lri_self:isSubtype (.type "list_reverseiterator") (.type "list_reverseiterator")=pure true:=by rw [isSubtype_type];kernel_rfl
theorem lri_split:splitId "list_reverseiterator.__length_hint__"=some ("list_reverseiterator","__length_hint__"):=by decide +kernel
section
variable {prog:Program} {w:World} {A:Around} {E:Value→Shared→Prop} {s:Shared}
theorem rl_loop {z l S:Addr} {xs:Array Value} {res:Value} {R:Result→Shared→Prop} (hh:A.handled=none) (zl:l ≠ z) (sz:S ≠ z) (sl:S ≠ l) (hz:xs.size≤1000000) :
  ∀ (m:Nat) (s:Shared) (acc:Array Value) (c:Nat),m≤xs.size→s.heap.IsRevIter z l ((m:Int) - 1)→s.heap.IsList l xs →
  s.heap.get? S=some { cls:=.type "list",dict:=none,data:=.seq acc c,slots:=#[] }→acc.toList=(xs.toList.drop m).reverse →
  (∀ h' acc' c',(∀ b o,b ∉ [S,z]→s.heap.get? b=some o→h'.get? b=some o)→h'.get? S=some { cls:=.type "list",dict:=none,data:=.seq acc' c',slots:=#[] }→acc'.toList=xs.toList.reverse→R (.ok (.ret res)) { s with heap:=h' }) →
  codeAny (model prog w) A (.builtin "list.extend.loop" ⟨[.ref S,.ref z,res],[]⟩) R s:=by
 intro m
 induction m with
 | zero=>
  intro s acc c hm Z L hS ha hR
  refine codeAny_builtin F.entry_extend_loop ?_
  rw [Around.under_plainId F.plain_extend_loop _]
  show wpAny _ A.in1 (pyNext (.ref z) >>= _) _ _ s
  refine wpAny_bind (wpAny_pyNext_rev_end hh Z fun h' up=>wpAny_pure (hR h' acc c (fun b o hb e=>?_) (up S _ sz hS) (by rw [ha];rfl)))
  simp only [List.mem_cons,List.not_mem_nil,or_false,not_or] at hb
  exact up b o hb.2 e
 | succ m ih=>
  intro s acc c hm Z L hS ha hR
  have e1:((m + 1:Nat):Int) - 1=(m:Int):=by omega
  rw [e1] at Z
  have hx:xs[m]?=some (xs[m]'(by omega)):=Array.getElem?_eq_getElem (by omega)
  refine codeAny_builtin F.entry_extend_loop ?_
  rw [Around.under_plainId F.plain_extend_loop _]
  show wpAny _ A.in1 (pyNext (.ref z) >>= _) _ _ s
  refine wpAny_bind (wpAny_pyNext_rev_item Z L hx fun h1 Z1 up1=>?_)
  have hS1:h1.get? S=some { cls:=.type "list",dict:=none,data:=.seq acc c,slots:=#[] }:=(up1.2 S sz).trans hS
  show wpAny _ A.in1 (updateSeq S (·.push xs[m]) >>= _) _ _ _
  refine wpAny_bind ?_
  have asz:acc.size=xs.size - (m + 1):=by
   have:=congrArg List.length ha
   simpa using this
  have oth:∀ b o,b ≠ S→h1.get? b=some o→(h1.update S (Obj.mapSeq (·.push xs[m]))).get? b=some o:=fun b o hb e=>(Heap.get?_update_other _ _ (Ne.symm hb)).trans e
  refine wpAny_updateSeq hS1 rfl (wpAny_pure ⟨plainId_quiet F.plain_extend_loop _,ih { s with heap:=_ } (acc.push xs[m]) _ (by omega) ?_ ?_ (Heap.get?_update_self _ hS1 rfl) ?_ fun h2 acc' c' up2 hS2 ha2=>?_⟩)
   (by rw [asz,sizeLine_eq];omega) (by show (acc.push _).size≤sizeLine + 1;rw [Array.size_push,asz,sizeLine_eq];omega)
  ·exact Z1.at fun o e=>oth _ o (Ne.symm sz) e
  ·exact (L.at fun o e=>(up1.2 l zl).trans e).at fun o e=>oth _ o (Ne.symm sl) e
  ·rw [Array.toList_push,ha,List.drop_eq_getElem_cons (i:=m) (by rw [Array.length_toList];omega),List.reverse_cons]
   simp
  ·refine hR h2 acc' c' (fun b o hb e=>up2 b o hb ?_) hS2 ha2
   simp only [List.mem_cons,List.not_mem_nil,or_false,not_or] at hb
   exact oth b o hb.1 ((up1.2 b hb.2).trans e)
theorem rl_extend {z l S:Addr} {xs:Array Value} {res:Value} {R:Result→Shared→Prop} {c0:Nat} (hh:A.handled=none) (zl:l ≠ z) (sz:S ≠ z) (sl:S ≠ l) (hz:xs.size≤1000000)
  (Z:s.heap.IsRevIter z l ((xs.size:Int) - 1)) (L:s.heap.IsList l xs) (hS:s.heap.get? S=some { cls:=.type "list",data:=.seq #[] c0 })
  (hR:∀ h' acc' c',(∀ b o,b ∉ [S,z]→s.heap.get? b=some o→h'.get? b=some o)→h'.get? S=some { cls:=.type "list",dict:=none,data:=.seq acc' c',slots:=#[] }→acc'.toList=xs.toList.reverse→R (.ok (.ret res)) { s with heap:=h' }) :
  wpAny (model prog w) A.in1 (Builtin.List.listExtendWith (.ref S) (.ref z) res)
   (fun fin s'=>match fin with | .done f=>R (.ok f) s' | .again c'=>c'.quiet=true∧codeAny (model prog w) A c' R s') (fun e s'=>R (.error e) s') s:=by
 unfold Builtin.List.listExtendWith
 refine wpAny_bind (wpAny_typeOf Z.typeIs ?_)
 have h1:Builtin.List.listSameRef (.ref S) (.ref z)=false:=by simp [Builtin.List.listSameRef,sz]
 have h2:(Value.type "list_reverseiterator" == Value.type "list")=false:=by decide
 have h3:(Value.type "list_reverseiterator" == Value.type "tuple")=false:=by decide
 simp only [h1,h2,h3,Bool.or_false,Bool.false_eq_true,if_false]
 refine wpAny_bind (wpAny_pyIter_revIter Z (wpAny_bind (wpAny_holding ?_)))
 unfold Builtin.List.listLengthHint
 refine wpAny_bind (wpAny_specialOf Z.typeIs lri_no_len ?_)
 show wpAny _ A.in1 (specialOf (Value.ref z) (Str.ofString "__length_hint__") >>= _) _ _ _
 refine wpAny_bind (wpAny_specialOf Z.typeIs lri_hint ?_)
 simp only [lri_split]
 refine wpAny_bind (wpAny_isInstance (T:="list_reverseiterator") (b:=true) Z.typeIs lri_self ?_)
 rw [if_neg (by decide)]
 rw [if_pos (by decide +kernel)]
 rw [if_neg (by decide)]
 refine wpAny_pure ?_
 rw [if_neg (by decide +kernel)]
 exact wpAny_pure ⟨plainId_quiet F.plain_extend_loop _,rl_loop hh zl sz sl hz xs.size s #[] c0 (Nat.le_refl _) Z L hS (by simp) hR⟩
theorem call_listrev {z l:Addr} {xs:Array Value} {Q:Value→Shared→Prop} (hh:A.handled=none) (zl:l ≠ z) (hzl:z < s.heap.objs.size) (hll:l < s.heap.objs.size) (hz:xs.size≤1000000)
  (Z:s.heap.IsRevIter z l ((xs.size:Int) - 1)) (L:s.heap.IsList l xs)
  (hQ:∀ h' acc' c',(∀ b o,b ≠ z→s.heap.get? b=some o→h'.get? b=some o)→h'.get? s.heap.objs.size=some { cls:=.type "list",dict:=none,data:=.seq acc' c',slots:=#[] }→acc'.toList=xs.toList.reverse→Q (.ref s.heap.objs.size) { s with heap:=h' }) :
  wpAny (model prog w) A (call (.type "list") [.ref z]) Q E s:=by
 refine callType_codes (Q₁:=fun obj u=>obj=.ref s.heap.objs.size∧u={ s with heap:=s.heap.push { cls:=.type "list",data:=.seq #[] } }) F.called_list (F.typeCall_list_1 _) F.entry_list_init (code_list_new _ ⟨rfl,rfl⟩) fun obj u hu=>?_
 obtain ⟨rfl,rfl⟩:=hu
 have hS:(s.heap.push { cls:=.type "list",data:=.seq #[] }).get? s.heap.objs.size=some { cls:=.type "list",data:=.seq #[] }:=Heap.get?_push_size _ rfl
 refine ⟨⟨_,hS,rfl⟩,F.args_list_init_2 _ _,?_⟩
 show wpAny _ A.in1.in1 (do let old ← Builtin.List.listItems (.ref s.heap.objs.size);Builtin.List.listUpdate (.ref s.heap.objs.size) (fun _=>#[]);letGo old.toList.reverse;Builtin.List.listExtendWith (.ref s.heap.objs.size) (.ref z) .none) _ _ _
 refine wpAny_bind ?_
 unfold Builtin.List.listItems
 refine wpAny_bind (wpAny_seqItems hS rfl (wpAny_pure ?_))
 show wpAny _ A.in1.in1 (updateSeq s.heap.objs.size (fun _=>#[]) >>= fun _=>letGo (#[]:Array Value).toList.reverse >>= fun _=>Builtin.List.listExtendWith (.ref s.heap.objs.size) (.ref z) .none) _ _ _
 refine wpAny_bind (wpAny_updateSeq hS rfl ?_)
 have k2:=Heap.get?_update_self (Obj.mapSeq (fun _=>(#[]:Array Value))) hS rfl
 have oth:∀ b o,s.heap.get? b=some o→((s.heap.push { cls:=.type "list",data:=.seq #[] }).update s.heap.objs.size (Obj.mapSeq (fun _=>(#[]:Array Value)))).get? b=some o:=fun b o e=>(Heap.get?_update_other _ _ (Nat.ne_of_gt (Heap.lt_size e))).trans (Heap.get?_push_of_some _ e)
 refine wpAny_bind (wpAny_letGo ?_)
 refine rl_extend (A:=A.in1) hh zl (Nat.ne_of_gt hzl) (Nat.ne_of_gt hll) hz (Z.at fun o e=>oth _ o e) (L.at fun o e=>oth _ o e) k2 fun h' acc' c' up hS' ha'=>?_
 refine ⟨rfl,hQ h' acc' c' (fun b o hb e=>up b o (fun v=>?_) (oth b o e)) hS' ha'⟩
 simp only [List.mem_cons,List.not_mem_nil,or_false] at v
 rcases v with v | v
 ·exact absurd (Heap.lt_size e) (by rw [v];exact Nat.lt_irrefl _)
 ·exact hb v
end
end PySem
set_option Elab.async false
set_option linter.all false
set_option maxRecDepth 100000
set_option maxHeartbeats 4000000
namespace Ek
open PySem PySem.Spec PyProof.Rows L2
variable [Tbs]
section
variable {X:Cx} {a:Expr} {ta:DT} {pos p p2 pos2:Pos}
theorem de_lrl (hc:X.calm=true) (hg:Gl X "list") (hm:X.mg "list"=none) (hg2:Gl X "reversed") (hm2:X.mg "reversed"=none) (ha:PE X a (up X.K ta)) (hs:∀ e p,a ≠ .Starred e p) :
  PE X (.Call (.Name "list" p) [.Call (.Name "reversed" p2) [a] [] pos2] [] pos) (up X.K fun env st Q=>ta env st fun x st1=>lrlR x st1 Q):=by
 have hst:starEach [a] X.env=[(false,eval a X.env)]:=by rw [starEach_plain hs];rfl
 intro pins s σ H Q I q
 obtain ⟨env,st,Qd,hE,hS,ht,hq⟩:=q
 refine Call_ (ld_blt I hg hm boot_listT (PyProof.Rows.callWith_type1 (Q:=_) (Calls.spliced_cons ?_) rfl rfl))
 refine Call_ (ld_blt I hg2 hm2 L2.boot_reversed (PyProof.Rows.callWith_type1 (thn (da_one ha hs pos2 pins s σ H (fun vs H1=>∃ q ds st1,vs=[.ref q]∧Ev st H st1 H1∧rdS st1 q ds∧RelS X.K st1 H1∧ds.length≤1000000∧∀ p,st1 p=none→Qd (.ref p) (updS st1 p (.lst ds.reverse))) I
  ⟨env,st,(fun ds st1=>match ds with | [d]=>lrlR d st1 Qd | _=>False),hE,hS,ht,fun vs ds H' st' ev is hl rs q1=>?_⟩) fun us s1 hh=>?_) hst rfl))
 ·match ds,hl with
  | [d],_=>
   obtain ⟨v,ws,rfl,i1,i2⟩:=is.inv_cons
   rw [i2.inv_nil]
   have q2:lrlR d st' Qd:=q1
   cases d <;> first | exact False.elim q2 | skip
   obtain ⟨ds,h1,h2,h3⟩:=q2
   exact ⟨_,ds,st',by rw [i1.ref_inv],ev,h1,rs,h2,h3⟩
 obtain ⟨vs,H1,I1,r1,l,ds,st1,e1,ev,hr,rs,hle,q1⟩:=hh
 subst e1
 obtain ⟨u,rfl,ru⟩:=r1.one
 cases ru
 obtain ⟨vs,hsq,r⟩:=rs.rd hr
 obtain ⟨its,rv,pl,hz⟩:=I1.list hsq
 have hlen:its.length=ds.length:=by rw [← rv.length,r.len]
 have hL:=pl.isList
 have hlt:l < s1.heap.objs.size:=let ⟨_,e,_⟩:=hL;Heap.lt_size e
 refine call_reversed_list hL ?_
 refine Calls.spliced_nil ?_
 refine call_listrev (s:={ s1 with heap:=s1.heap.push (revObj l ((its.toArray.size:Int) - 1)) }) (z:=s1.heap.objs.size) (I1.ok.hd hc) (Nat.ne_of_lt hlt) (by show _ < (s1.heap.push _).objs.size;rw [Heap.size_push];exact Nat.lt_succ_self _) (by show _ < (s1.heap.push _).objs.size;rw [Heap.size_push];exact Nat.lt_succ_of_lt hlt) (by rw [List.size_toArray,hlen];exact hle)
  ⟨_,Heap.get?_push_size _ rfl,rfl,rfl⟩ (hL.at fun o e=>Heap.get?_push_of_some _ e) fun h' acc' c' up hS' ha'=>?_
 have hsz:(s1.heap.push (revObj l ((its.toArray.size:Int) - 1))).objs.size=s1.heap.objs.size + 1:=Heap.size_push _ _
 have hn:s1.heap.objs.size≤(s1.heap.push (revObj l ((its.toArray.size:Int) - 1))).objs.size:=by rw [hsz];exact Nat.le_succ _
 have hacc:acc'=its.reverse.toArray:=by
  have:acc'.toList=its.reverse:=by simpa using ha'
  rw [← this]
 refine ⟨.ref _,_,I1.laid (t':=s1.toks) (a:=(s1.heap.push (revObj l ((its.toArray.size:Int) - 1))).objs.size) (o:=.lst vs.reverse) (fun b u e=>up b u (Nat.ne_of_lt (Heap.lt_size e)) (Heap.get?_push_of_some _ e)) hn ⟨by rw [List.length_reverse];exact hz,its.reverse,c',rv.reverse,by rw [← hacc];exact hS'⟩,rfl,?_⟩
 exact (hq.after ev).newL rs (ds:=ds.reverse) (vs:=vs.reverse) r.rev q1 _ (I1.hok.fresh hn)
end
end Ek
set_option Elab.async false
set_option linter.all false
set_option maxRecDepth 100000
set_option maxHeartbeats 4000000
namespace Ek
open PySem PySem.Spec PyProof.Rows L2
variable [Tbs]
section
variable {X:Cx} {a b c:Expr} {ta tb tc:DT} {pos p:Pos} {K:PySem.W.Frag}
noncomputable def upG (K:PySem.W.Frag) (t:Tg):TG:=fun v σ H Q=>∃ d env k,IsD K H d v∧RelE K H env σ∧bindT t d env k∧∀ env' σ',RelE K H env' σ'→k env'→Q σ' H
theorem _root_.L2.PG.imp {X:Cx} {x:Expr} {t t':TG} (h:PG X x t) (i:∀ v σ H Q,t' v σ H Q→t v σ H Q):PG X x t':=fun pins s σ H v u Q I r q=>h pins s σ H v u Q I r (i v σ H Q q)
theorem dg_name {i:Nat} {x:Str} (hN:X.N.Nodup) (hi:X.N[i]?=some x) (hx:Loc X.env.scope x) (hf:X.fn x=true ∨ X.env.scope.names.lookup x=some .local):PG X (.Name x pos) (upG X.K (.n i)):=
 PG.imp (pg_name hN hi hx hf) fun v σ H Q q=>by
  obtain ⟨d,env,k,is,hE,ht,hq⟩:=q
  exact hq _ _ (hE.set is i) ht
noncomputable def gsOf:List Nat→TGs
 | []=>gNil
 | i::is=>gCons (gName i) (gsOf is)
theorem gs_all {K:PySem.W.Frag} {H:Hp} {Q:L2.St→Hp→Prop} {k:DEnv→Prop}:∀ (is:List Nat) (ds:List D) (vs:List V) (env:DEnv) (σ:L2.St),ds.length=is.length→IsDs K H ds vs→RelE K H env σ→k (setAll env is ds)→(∀ env' σ',RelE K H env' σ'→k env'→Q σ' H)→gsOf is vs σ H Q
 | [],[],vs,env,σ,_,r,hE,ht,hq=>⟨r.inv_nil,hq _ _ hE ht⟩
 | i::is,d::ds,vs,env,σ,hl,r,hE,ht,hq=>by
  obtain ⟨v,ws,rfl,h1,h2⟩:=r.inv_cons
  exact ⟨v,ws,rfl,gs_all is ds ws _ _ (by simpa using hl) h2 (hE.set h1 i) ht hq⟩
 | [],d::ds,vs,env,σ,hl,_,_,_,_=>by simp at hl
 | i::is,[],vs,env,σ,hl,_,_,_,_=>by simp at hl
theorem dg_tup {es:List Expr} {k0:Nat} {is:List Nat} (hc:X.calm=true) (h:PGs X es (gsOf is)) (hn:(assignEach es X.env).length=is.length) (hst:(assignEach es X.env).findIdx? (·.1)=none):PG X (.Tuple es k0 pos) (upG X.K (.tup is)):=
 PG.imp (pg_tup hc h hn hst) fun v σ H Q q=>by
  obtain ⟨d,env,k,i1,hE,⟨ds,rfl,hl,ht⟩,hq⟩:=q
  obtain ⟨q,vs,rfl,hsq,r⟩:=i1.tup_inv
  exact ⟨q,vs,rfl,hsq,by rw [← r.len];exact hl,gs_all is ds vs env σ hl r hE ht hq⟩
structure EndsR (K:PySem.W.Frag) (st:Sto) (H:Hp) (Fd:DEnds) (F:Ends):Prop where
 nx:∀ env σ H' st',Ev st H st' H'→RelE K H' env σ→RelS K st' H'→Fd.nx env st'→F.nx σ H'
 bk:∀ env σ H' st',Ev st H st' H'→RelE K H' env σ→RelS K st' H'→Fd.bk env st'→F.bk σ H'
 ct:∀ env σ H' st',Ev st H st' H'→RelE K H' env σ→RelS K st' H'→Fd.ct env st'→F.ct σ H'
 rt:DPost K st H Fd.rt F.rt
theorem EndsR.after {st st1:Sto} {H H1:Hp} {Fd:DEnds} {F:Ends} (e:EndsR K st H Fd F) (ev:Ev st H st1 H1):EndsR K st1 H1 Fd F:=
 ⟨fun env σ H' st' ev'=>e.nx env σ H' st' (ev.trans ev'),fun env σ H' st' ev'=>e.bk env σ H' st' (ev.trans ev'),fun env σ H' st' ev'=>e.ct env σ H' st' (ev.trans ev'),e.rt.after ev⟩
noncomputable def upS (K:PySem.W.Frag) (t:DS):TS:=fun F σ H=>∃ env st Fd,RelE K H env σ∧RelS K st H∧t Fd env st∧EndsR K st H Fd F
variable {t u:DS} {s1:Stmt} {rest:List Stmt}
theorem ds_nil:PSs X [] (upS X.K fun F env st=>F.nx env st):=PSs.imp pss_nil fun F σ H ⟨env,st,Fd,hE,hS,ht,hq⟩=>hq.nx env σ H st Ev.refl hE hS ht
theorem ds_cons (h1:PS X s1 (upS X.K t)) (h2:PSs X rest (upS X.K u)):PSs X (s1::rest) (upS X.K fun F env st=>t { F with nx:=u F } env st):=
 PSs.imp (pss_cons h1 h2) fun F σ H ⟨env,st,Fd,hE,hS,ht,hq⟩=>⟨env,st,{ Fd with nx:=u Fd },hE,hS,ht,fun env' σ' H' st' ev hE' hS' q=>⟨env',st',Fd,hE',hS',q,hq.after ev⟩,hq.bk,hq.ct,hq.rt⟩
theorem ds_set {i:Nat} {x:Str} {pos':Pos} (hN:X.N.Nodup) (hi:X.N[i]?=some x) (hx:Loc X.env.scope x) (ha:PE X a (up X.K ta)) (hs:swapsWith a (some (.Name x pos')) pos.line X.env=pure false) (hf:X.fn x=true ∨ X.env.scope.names.lookup x=some .local) :
  PS X (.Assign [.Name x pos'] a pos) (upS X.K fun F env st=>ta env st fun d st1=>F.nx (env.set i (some d)) st1):=
 PS.imp (ps_set hN hi hx ha hs hf) fun F σ H ⟨env,st,Fd,hE,hS,ht,hq⟩=>⟨env,st,_,hE,hS,ht,fun v d H' st' ev is rs q=>hq.nx _ _ H' st' ev ((hE.mono (ev.tk hS)).set is i) rs q⟩
theorem ds_unp {tg:Expr} {is:List Nat} (ha:PE X a (up X.K ta)) (hg:PG X tg (upG X.K (.tup is))) (hs:swapsWithSole [tg] a pos.line X.env=pure false) (hw:swappedStores [tg] a X.env=pure none) (h1:(assignEach [tg] X.env).map (·.2)=[assign tg X.env]) :
  PS X (.Assign [tg] a pos) (upS X.K fun F env st=>ta env st fun d st1=>bindT (.tup is) d env fun env'=>F.nx env' st1):=
 PS.imp (ps_asg ha hg hs hw h1) fun F σ H ⟨env,st,Fd,hE,hS,ht,hq⟩=>⟨env,st,_,hE,hS,ht,fun v d H' st' ev is rs q=>⟨d,env,_,is,hE.mono (ev.tk hS),q,fun env' σ' hE' q'=>hq.nx _ _ H' st' ev hE' rs q'⟩⟩
theorem ds_put {o i v:Expr} {to ti tv:DT} {pos':Pos} (hv:PE X v (up X.K tv)) (ho:PE X o (up X.K to)) (hi:PE X i (up X.K ti))
  (hsub:∀ w,assign (.Subscript o i pos') X.env w=(do
   let ov ← holding [w] (eval o X.env)
   let iv ← holding [w,ov] (eval i X.env)
   standAt pos'
   holding [w,ov,iv] (setItem ov iv w)
   release [w,ov,iv] [])) (hs:swapsWithSole [.Subscript o i pos'] v pos.line X.env=pure false) (hw:swappedStores [.Subscript o i pos'] v X.env=pure none) :
  PS X (.Assign [.Subscript o i pos'] v pos) (upS X.K fun F env st=>tv env st fun d st1=>to env st1 fun x st2=>ti env st2 fun y st3=>∃ a j k ds,x=.ref a∧y=.int j∧st3 a=some (.lst ds)∧ixN ds.length j=some k∧F.nx env (updS st3 a (.lst (ds.set k d)))):=
 PS.imp (ps_asg hv (pg_sub ho hi set_list hsub) hs hw rfl) fun F σ H ⟨env,st,Fd,hE,hS,ht,hq⟩=>⟨env,st,_,hE,hS,ht,fun w d H1 st1 ev1 is1 rs1 q1=>
  ⟨env,st1,_,hE.mono (ev1.tk hS),rs1,q1,fun ov x H2 st2 ev2 is2 rs2 q2=>⟨env,st2,_,(hE.mono (ev1.tk hS)).mono (ev2.tk rs1),rs2,q2,fun iv y H3 st3 ev3 is3 rs3 q3=>by
   obtain ⟨q,j,k,ds,rfl,rfl,hr,hk,q3⟩:=q3
   obtain ⟨vs,hH,r⟩:=rs3.lst hr
   have is1':=(is1.mono (ev2.tk rs1)).mono (ev3.tk rs2)
   refine ⟨q,vs,j,k,(is2.mono (ev3.tk rs2)).ref_inv,is3.int_inv,hH,by rw [← r.len];exact hk,?_⟩
   exact hq.nx env σ _ _ (((ev1.trans ev2).trans ev3).trans (Ev.put hr)) ((((hE.mono (ev1.tk hS)).mono (ev2.tk rs1)).mono (ev3.tk rs2)).mono (TK.put hH)) (rs3.putOld hH (r.set is1' k)) q3⟩⟩⟩
theorem ds_ex (ha:PE X a (up X.K ta)) (hs:swapsWith a none pos.line X.env=pure false):PS X (.Expr a pos) (upS X.K fun F env st=>ta env st fun _ st1=>F.nx env st1):=
 PS.imp (ps_expr ha hs) fun F σ H ⟨env,st,Fd,hE,hS,ht,hq⟩=>⟨env,st,_,hE,hS,ht,fun v d H' st' ev is rs q=>hq.nx _ _ H' st' ev (hE.mono (ev.tk hS)) rs q⟩
theorem ds_ret (ha:PE X a (up X.K ta)):PS X (.Return (some a) pos) (upS X.K fun F env st=>ta env st F.rt):=
 PS.imp (ps_ret ha) fun F σ H ⟨env,st,Fd,hE,hS,ht,hq⟩=>⟨env,st,_,hE,hS,ht,hq.rt⟩
theorem ds_retN:PS X (.Return none pos) (upS X.K fun F _ st=>F.rt .non st):=PS.imp ps_retN fun F σ H ⟨env,st,Fd,hE,hS,ht,hq⟩=>hq.rt.here .non hS ht
theorem ds_pass:PS X (.Pass pos) (upS X.K fun F env st=>F.nx env st):=PS.imp ps_pass fun F σ H ⟨env,st,Fd,hE,hS,ht,hq⟩=>hq.nx env σ H st Ev.refl hE hS ht
theorem ds_cont:PS X (.Continue pos) (upS X.K fun F env st=>F.ct env st):=PS.imp ps_continue fun F σ H ⟨env,st,Fd,hE,hS,ht,hq⟩=>hq.ct env σ H st Ev.refl hE hS ht
theorem ds_if {tc:DB} {x y:List Stmt} (hc:PT X c (upB X.K tc)) (h1:PSs X x (upS X.K t)) (h2:PSs X y (upS X.K u)):PS X (.If c x y pos) (upS X.K fun F env st=>tc env st fun k st1=>if k=true then t F env st1 else u F env st1):=
 PS.imp (ps_if hc h1 h2) fun F σ H ⟨env,st,Fd,hE,hS,ht,hq⟩=>⟨env,st,_,hE,hS,ht,fun k H' st' ev rs q=>by
  cases k with
  | true=>exact ⟨env,st',Fd,hE.mono (ev.tk hS),rs,q,hq.after ev⟩
  | false=>exact ⟨env,st',Fd,hE.mono (ev.tk hS),rs,q,hq.after ev⟩⟩
theorem ds_while {tc:DB} {x:List Stmt} (hp:PassesOwn (model X.prog X.w) X.A X.env X.xe) (hc:PT X c (upB X.K tc)) (h1:PSs X x (upS X.K t)):PS X (.While c x [] pos) (upS X.K fun F env st=>∃ n,whileN tc t F n env st):=
 PS.imp (ps_while hp hc h1) fun F σ H ⟨env,st,Fd,hE,hS,⟨n,ht⟩,hq⟩=>by
  refine ⟨fun m σ' H'=>∃ env' st',RelE X.K H' env' σ'∧RelS X.K st' H'∧Ev st H st' H'∧whileN tc t Fd m env' st',⟨n,env,st,hE,hS,Ev.refl,ht⟩,?_⟩
  rintro m σ1 H1 ⟨env1,st1,hE1,hS1,ev1,w1⟩
  cases m with
  | zero=>exact w1.elim
  | succ m=>
   refine ⟨env1,st1,_,hE1,hS1,w1,fun k H2 st2 ev2 rs2 q2=>?_⟩
   cases k with
   | false=>
    simp only [Bool.false_eq_true,if_false] at q2 ⊢
    exact hq.nx env1 σ1 H2 st2 (ev1.trans ev2) (hE1.mono (ev2.tk hS1)) rs2 q2
   | true=>
    simp only [if_true] at q2 ⊢
    refine ⟨fun σ' H'=>∃ env' st',RelE X.K H' env' σ'∧RelS X.K st' H'∧Ev st H st' H'∧whileN tc t Fd m env' st',fun σ' H' h=>⟨m,Nat.lt_succ_self _,h⟩,?_⟩
    have hq2:=hq.after (ev1.trans ev2)
    have ev12:=ev1.trans ev2
    exact ⟨env1,st2,_,hE1.mono (ev2.tk hS1),rs2,q2,fun env' σ' H' st' ev hE' hS' q=>⟨env',st',hE',hS',ev12.trans ev,q⟩,hq2.nx,fun env' σ' H' st' ev hE' hS' q=>⟨env',st',hE',hS',ev12.trans ev,q⟩,hq2.rt⟩
theorem ds_for {tg iter:Expr} {x:List Stmt} {ti:DEnv→Sto→ItK→Prop} {g:Tg} (hp:PassesOwn (model X.prog X.w) X.A X.env X.xe) (hc:X.calm=true) (hi:PI X tg iter (upI X.K ti)) (hg:PG X tg (upG X.K g)) (h1:PSs X x (upS X.K t)) (hs:∀ v,foldedSetIterable iter X.env v=pure v) :
  PS X (.For tg iter x [] pos) (upS X.K fun F env st=>ti env st fun items chk st1=>forL chk g t F items env st1):=
 PS.imp (ps_for hp hc hi hg h1 hs) fun F σ H ⟨env,st,Fd,hE,hS,ht,hq⟩=>by
  refine ⟨env,st,_,hE,hS,ht,fun items chk st1 H1 J ev1 rs1 ok q1=>?_⟩
  refine ⟨fun i m σ' H'=>m=items.length - i∧i≤items.length∧∃ env' st',RelE X.K H' env' σ'∧RelS X.K st' H'∧Ev st H st' H'∧TK X.K H1 H'∧forL chk g t Fd (items.drop i) env' st',⟨items.length,by simp,Nat.zero_le _,env,st1,hE.mono (ev1.tk hS),rs1,ev1,TK.refl,q1⟩,?_⟩
  rintro i m σ2 H2 ⟨rfl,hi,env2,st2,hE2,hS2,ev2,tk2,w2⟩
  by_cases hlt:i < items.length
  ·right
   rw [List.drop_eq_getElem_cons hlt] at w2
   obtain ⟨hchk,w2⟩:=w2
   refine ⟨ok.go i st2 H2 tk2 hS2 hchk hlt,fun σ' H'=>i + 1≤items.length∧∃ env' st',RelE X.K H' env' σ'∧RelS X.K st' H'∧Ev st H st' H'∧TK X.K H1 H'∧forL chk g t Fd (items.drop (i + 1)) env' st',fun σ' H' h=>⟨items.length - (i + 1),by omega,rfl,h⟩,fun v H3 y=>?_⟩
   obtain ⟨d,hd,is3,ev3,rs3⟩:=ok.yld i st2 H2 v H3 tk2 hS2 hchk hlt y
   have ed:d=items[i]:=by rw [List.getElem?_eq_getElem hlt] at hd;exact (Option.some.inj hd).symm
   subst ed
   refine ⟨_,env2,_,is3,hE2.mono (ev3.tk hS2),w2,fun env4 σ4 hE4 q4=>?_⟩
   have ev23:=ev2.trans ev3
   have hq4:=hq.after ev23
   have tk3:TK X.K H1 H3:=tk2.trans (ev3.tk hS2)
   exact ⟨env4,st2,_,hE4,rs3,q4,fun env' σ' H' st' ev hE' hS' q=>⟨hlt,env',st',hE',hS',ev23.trans ev,tk3.trans (ev.tk rs3),q⟩,hq4.nx,fun env' σ' H' st' ev hE' hS' q=>⟨hlt,env',st',hE',hS',ev23.trans ev,tk3.trans (ev.tk rs3),q⟩,hq4.rt⟩
  ·left
   have e:i=items.length:=by omega
   subst e
   rw [List.drop_length] at w2
   exact ⟨ok.stop st2 H2 tk2 hS2 w2.1,hq.nx env2 σ2 H2 st2 ev2 hE2 hS2 w2.2⟩
theorem comp_env {H:Hp} {env:DEnv} {σ:L2.St} {fr:List Nat} {k:Nat} (r:RelE K H env σ):RelE K H (compEnv fr k env) (compSt fr k σ):=by
 refine ⟨by simp [compEnv,compSt],fun i d h=>?_⟩
 unfold compEnv at h
 unfold compSt
 by_cases hi:i < fr.length
 ·rw [List.getElem?_append_left (by simpa using hi),List.getElem?_map] at h ⊢
  rw [List.getElem?_eq_getElem hi] at h ⊢
  simp only [Option.map_some,Option.some.injEq] at h ⊢
  cases q:env[fr[i]]? with
  | none=>rw [q] at h;cases h
  | some o=>
   rw [q] at h
   have h':o=some d:=h
   subst h'
   obtain ⟨v,hv,is⟩:=r.at' _ d q
   exact ⟨v,by rw [hv];rfl,is⟩
 ·rw [List.getElem?_append_right (by simpa using hi),List.getElem?_replicate] at h
  split at h <;> cases h
theorem comp_core {ti:DEnv→Sto→ItK→Prop} {g:Tg} {tc:DB} {fr:List Nat} {k:Nat} {σ:L2.St} {H:Hp} {Q:VK}
  (h:up K (fun env st Q=>ti env st fun items chk st1=>items.length≤1000000∧compL chk g tc ta (fun acc st'=>∀ p,st' p=none→Q (.ref p) (updS st' p (.lst acc))) items [] (compEnv fr k env) st1) σ H Q) :
  tCompL fr k (upI K ti) (upG K g) (upB K tc) (up K ta) Q σ H:=by
 obtain ⟨env,st,Qd,hE,hS,ht,hq⟩:=h
 refine ⟨env,st,_,hE,hS,ht,fun items chk st1 H1 J ev1 rs1 ok q1 p hp=>?_⟩
 obtain ⟨hlen,q1⟩:=q1
 have hEc:RelE K H1 env σ:=hE.mono (ev1.tk hS)
 refine ⟨fun i m σ' H'=>m=items.length - i∧i≤items.length∧∃ env' st' acc ys,RelE K H' env' σ'∧RelS K st' H'∧st' p=none∧H' p=some (.lst ys)∧IsDs K H' acc ys∧acc.length≤i∧TK K H1 H'∧(∀ a o,H a=some o→st a=none→a ≠ p∧(∃ o',H' a=some o'∧TbE o o')∧st' a=none) ∧
  compL chk g tc ta (fun acc st'=>∀ p,st' p=none→Qd (.ref p) (updS st' p (.lst acc))) (items.drop i) acc env' st',⟨items.length,by simp,Nat.zero_le _,compEnv fr k env,st1,[],[],(comp_env hEc).mono (TK.new hp),rs1.new hp,rs1.free hp,upd_same,.nil,Nat.zero_le _,TK.new hp,fun a o h1 h2=>?_,q1⟩,?_⟩
 ·obtain ⟨⟨o',x,t⟩,y⟩:=ev1 a o h1 h2
  have ne:a ≠ p:=ne_of_none x hp
  exact ⟨ne,⟨o',by rw [upd_ne ne];exact x,t⟩,y⟩
 rintro i m σ2 H2 ⟨rfl,hi,env2,st2,acc,ys,hE2,hS2,sp2,hp2,ra,hal,tk2,old,w2⟩
 by_cases hlt:i < items.length
 ·right
  rw [List.drop_eq_getElem_cons hlt] at w2
  obtain ⟨hchk,w2⟩:=w2
  refine ⟨ok.go i st2 H2 tk2 hS2 hchk hlt,fun σ' H'=>i + 1≤items.length∧∃ env' st' acc ys,RelE K H' env' σ'∧RelS K st' H'∧st' p=none∧H' p=some (.lst ys)∧IsDs K H' acc ys∧acc.length≤i + 1∧TK K H1 H'∧(∀ a o,H a=some o→st a=none→a ≠ p∧(∃ o',H' a=some o'∧TbE o o')∧st' a=none) ∧
   compL chk g tc ta (fun acc st'=>∀ p,st' p=none→Qd (.ref p) (updS st' p (.lst acc))) (items.drop (i + 1)) acc env' st',fun σ' H' h=>⟨items.length - (i + 1),by omega,rfl,h⟩,fun v H3 y=>?_⟩
  obtain ⟨d,hd,is3,ev3,rs3⟩:=ok.yld i st2 H2 v H3 tk2 hS2 hchk hlt y
  have ed:d=items[i]:=by rw [List.getElem?_eq_getElem hlt] at hd;exact (Option.some.inj hd).symm
  subst ed
  refine ⟨_,env2,_,is3,hE2.mono (ev3.tk hS2),w2,fun env4 σ4 hE4 q4=>?_⟩
  have old3:∀ {H':Hp} {st':Sto},Ev st2 H2 st' H'→∀ a o,H a=some o→st a=none→a ≠ p∧(∃ o',H' a=some o'∧TbE o o')∧st' a=none:=fun ev a o h1 h2=>by
   obtain ⟨x,⟨o1,y,t1⟩,z⟩:=old a o h1 h2
   obtain ⟨⟨o2,y',t2⟩,z'⟩:=ev a o1 y z
   exact ⟨x,⟨o2,y',t1.trans t2⟩,z'⟩
  refine ⟨env4,st2,_,hE4,rs3,q4,fun bb H5 st5 ev5 rs5 q5=>?_⟩
  have ev25:Ev st2 H2 st5 H5:=ev3.trans ev5
  have tk25:TK K H2 H5:=ev25.tk hS2
  obtain ⟨hp5,sp5⟩:=ev25.get hp2 sp2 (fun _=>nofun)
  cases bb with
  | false=>
   simp only [Bool.false_eq_true,if_false] at q5 ⊢
   exact ⟨hlt,env4,st5,acc,ys,hE4.mono (ev5.tk rs3),rs5,sp5,hp5,ra.mono tk25,by omega,tk2.trans tk25,old3 ev25,q5⟩
  | true=>
   simp only [if_true] at q5 ⊢
   refine ⟨env4,st5,_,hE4.mono (ev5.tk rs3),rs5,q5,fun w e H6 st6 ev6 is6 rs6 q6=>?_⟩
   have ev26:Ev st2 H2 st6 H6:=ev25.trans ev6
   have tk26:TK K H2 H6:=ev26.tk hS2
   obtain ⟨hp6,sp6⟩:=ev26.get hp2 sp2 (fun _=>nofun)
   have ra6:=ra.mono tk26
   have hsz:ys.length < sizeLine:=by
    rw [← ra6.len]
    have:(1000001:Nat)≤sizeLine:=by decide
    omega
   refine ⟨ys,hp6,hsz,hlt,env4,st6,acc++[e],ys++[w],(hE4.mono ((ev5.trans ev6).tk rs3)).mono (TK.put hp6),rs6.stay (TK.put hp6) (fun a o h1=>upd_ne fun z=>by rw [z,sp6] at h1;cases h1) (tbl_upd (by rw [hp6];exact fun _ z=>by cases z)),sp6,upd_same,(ra6.append (.cons is6 .nil)).mono (TK.put hp6),by simp;omega,(tk2.trans tk26).trans (TK.put hp6),fun a o h1 h2=>?_,q6⟩
   obtain ⟨x,⟨o',y,t⟩,z⟩:=old3 ev26 a o h1 h2
   exact ⟨x,⟨o',by rw [upd_ne x];exact y,t⟩,z⟩
 ·left
  have e:i=items.length:=by omega
  subst e
  rw [List.drop_length] at w2
  refine ⟨ok.stop st2 H2 tk2 hS2 w2.1,hq _ (.ref p) H2 (updS st2 p (.lst acc)) (fun a o h1 h2=>?_) (.ref p) ⟨fun a o h1=>?_,hS2.tb⟩ (w2.2 p sp2)⟩
  ·obtain ⟨x,y,z⟩:=old a o h1 h2
   exact ⟨y,by rw [updS_ne x];exact z⟩
  ·by_cases ha:a=p
   ·subst ha;rw [updS_same] at h1;cases h1;exact ⟨ys,hp2,ra⟩
   ·rw [updS_ne ha] at h1;exact hS2.ob a o h1
end
end Ek
set_option Elab.async false
set_option linter.all false
set_option maxRecDepth 100000
set_option maxHeartbeats 4000000
namespace Ek
open PySem PySem.Spec PyProof.Rows L2
variable [Tbs]
noncomputable abbrev Fz:HO:=.ext fun _=>True
theorem fz_ne:∀ vs,Fz ≠ .lst vs:=fun _=>nofun
theorem fz_ok {P:Program} {w:World} {H:Hp} {h:Heap} {a:Addr} {o:Obj} (e:h.get? a=some o):ObjOk P w H h a (.frz o Fz):=⟨e,trivial,⟨o,e⟩,fun _ _ _ _=>trivial⟩
section
variable {X:Cx} {pins:List (Addr × Obj)} {σ:L2.St} {H H':Hp} {s:Shared}
theorem inv_freeze {x:Str} {c:Addr} {o:Obj} {v:Option Value} (I:L2.Inv X pins σ H s) (hl:X.env.cells.lookup x=some c) (hfn:X.fn x=false) (hab:X.s₀.heap.objs.size≤c) (hn:H c=none) (ho:s.heap.get? c=some o) (hd:o.data=.cell v) :
  L2.Inv X pins σ (upd H c (.frz o Fz)) s:=by
 have nn:∀ {b:Addr} {u:HO},H b=some u→b ≠ c:=fun e=>ne_of_none e hn
 refine ⟨I.ok,I.os,I.bare,⟨I.base.keep,I.base.slot,fun b ob e n hx=>?_,I.base.there,fun b xs e=>?_,fun b ob u e=>?_,fun b ps e=>?_⟩,I.loc,I.cell,?_,fun x' c' e=>?_,fun p hp=>?_,fun b u e=>?_,I.len⟩
 ·rw [upd_ne (Nat.ne_of_lt (Nat.lt_of_lt_of_le (Heap.lt_size e) hab))];exact I.base.free b ob e n hx
 ·have:=I.base.tups b xs e;rw [upd_ne (nn this)];exact this
 ·have:=I.base.frzs b ob u e;rw [upd_ne (nn this)];exact this
 ·obtain ⟨m,q⟩:=I.base.tbls b ps e;exact ⟨m,by rw [upd_ne (nn q)];exact q⟩
 ·rw [upd_ne (Ne.symm (I.cne x c hl))];exact I.free
 ·by_cases hc:c'=c
  ·subst hc
   have:=I.ok.inj x' x c' e hl
   subst this
   exact .inr ⟨hfn,o,Fz,upd_same⟩
  ·rw [upd_ne hc];exact I.freeC x' c' e
 ·obtain ⟨e,n,ne,nf,d⟩:=I.pin p hp
  refine ⟨e,?_,ne,nf,d⟩
  rw [upd_ne fun z=>?_]
  ·exact n
  ·rw [z,ho] at e
   exact d v (by rw [← Option.some.inj e];exact hd)
 ·by_cases hb:b=c
  ·subst hb
   rw [upd_same] at e
   cases e
   exact fz_ok ho
  ·rw [upd_ne hb] at e
   exact (I.hok b u e).stay (fun _ _ _ q=>q) (fun a r=>by rw [upd_ne (nn r)];exact r) fun a xs r=>by rw [upd_ne (nn r)];exact r
theorem same_tk {K:PySem.W.Frag} (e:Same H H'):TK K H H':=⟨fun a xs q=>by
 rcases q with (q | ⟨o',q⟩) | q
 ·exact .inl (.inl (e _ _ q))
 ·exact .inl (.inr ⟨o',e _ _ q⟩)
 ·exact .inr q,fun a o u q _=>e _ _ q⟩
theorem obr_some {K:PySem.W.Frag} {a:Addr} {o:Ob} (z:ObR K H a o):∃ u,H a=some u∧∀ ps,u ≠ .tbl ps:=by
 cases o with
 | lst ds=>obtain ⟨vs,w1,_⟩:=z;exact ⟨_,w1,fun _=>nofun⟩
 | fro ds=>
  obtain ⟨vs,w1 | ⟨u,w1⟩,_⟩:=z
  ·exact ⟨_,w1,fun _=>nofun⟩
  ·exact ⟨_,w1,fun _=>nofun⟩
 | dct kvs=>obtain ⟨vs,w1,_⟩:=z;exact ⟨_,w1,fun _=>nofun⟩
 | ins c fs=>obtain ⟨C,dx,vs,w1,_⟩:=z;exact ⟨_,w1,fun _=>nofun⟩
theorem same_rel {K:PySem.W.Frag} {st:Sto} (r:RelS K st H) (e:Same H H'):RelS K st H':=r.stay (same_tk e) (fun a o h=>by
 obtain ⟨u,hu,_⟩:=obr_some (r.ob a o h)
 rw [hu,e _ _ hu]) fun a ps h=>e _ _ h
theorem same_ev {st:Sto} (e:Same H H'):Ev st H st H':=fun a o h k=>⟨⟨o,e _ _ h,.inl rfl⟩,k⟩
theorem freeze_all (I:L2.Inv X pins σ H s):∀ (xs:List Str),(∀ x ∈ xs,X.fn x=false∧X.ow x=true∧∃ c,X.env.cells.lookup x=some c) →
  ∃ H',L2.Inv X pins σ H' s∧Same H H'∧∀ x ∈ xs,∃ c o u,X.env.cells.lookup x=some c∧H' c=some (.frz o u)∧(∀ vs,u ≠ .lst vs)∧s.heap.get? c=some o
 | [],_=>⟨H,I,Same.refl H,fun x h=>absurd h List.not_mem_nil⟩
 | x::xs,h=>by
  obtain ⟨H1,I1,e1,f1⟩:=freeze_all I xs fun y hy=>h y (List.mem_cons_of_mem _ hy)
  obtain ⟨hfn,how,c,hc⟩:=h x List.mem_cons_self
  obtain ⟨v,o,ho,hd⟩:=I1.cell x c hc
  rcases I1.freeC x c hc with hn | ⟨_,o',u,hz⟩
  ·have I2:=inv_freeze I1 hc hfn (I1.ok.cab x c (.inr how) hc) hn ho hd
   have e2:Same H1 (upd H1 c (.frz o Fz)):=fun b u q=>by rw [upd_ne (ne_of_none q hn)];exact q
   refine ⟨_,I2,e1.trans e2,fun y hy=>?_⟩
   rcases List.mem_cons.mp hy with rfl | hy
   ·exact ⟨c,o,Fz,hc,upd_same,fz_ne,ho⟩
   ·obtain ⟨c',o',u',a1,a2,a3,a4⟩:=f1 y hy
    exact ⟨c',o',u',a1,e2 _ _ a2,a3,a4⟩
  ·refine ⟨H1,I1,e1,fun y hy=>?_⟩
   rcases List.mem_cons.mp hy with rfl | hy
   ·obtain ⟨z1,z2⟩:=I1.hok c _ hz
    refine ⟨c,o',u,hc,hz,fun vs w=>?_,z1⟩
    subst w
    obtain ⟨_,its,n,_,z3⟩:=z2
    rw [ho] at z3
    cases z3
    cases hd
   ·exact f1 y hy
end
theorem triples_inv {l:List Value} (h:TriplesOk l):l=[] ∨ ∃ i s j t v r,l=.int i s::.int j t::v::r∧TriplesOk r:=by
 unfold TriplesOk at h
 split at h
 ·exact .inl rfl
 ·exact .inr ⟨_,_,_,_,_,_,rfl,h⟩
 ·exact h.elim
theorem triples_snoc {a b:Int} {s t:Tok} {c:Value}:∀ (n:Nat) (l:List Value),l.length≤n→TriplesOk l→TriplesOk (l++[.int a s,.int b t,c])
 | 0,l,hn,_=>by
  have:l=[]:=List.eq_nil_of_length_eq_zero (by omega)
  subst this;exact trivial
 | n + 1,l,hn,h=>by
  rcases triples_inv h with rfl | ⟨i,s',j,t',v,r,rfl,hr⟩
  ·exact trivial
  ·simp only [List.length_cons] at hn
   exact (triples_snoc n r (by omega) hr:TriplesOk (r++_))
theorem among_snoc {pos:Pos} {cv:Value} {a b:Int} {s t:Tok} {c:Value}:∀ (n:Nat) (l:List Value),l.length≤n→TriplesOk l→codeAmong pos (l++[.int a s,.int b t,c])=some cv→codeAmong pos l=some cv ∨ cv=c
 | n,l,hn,h,q=>by
  rcases triples_inv h with rfl | ⟨i,s',j,t',v,r,rfl,hr⟩
  ·have h':(if a == pos.line && b == pos.col then some c else none)=some cv:=q
   split at h'
   ·exact .inr (Option.some.inj h').symm
   ·cases h'
  ·cases n with
   | zero=>simp at hn
   | succ n=>
    simp only [List.length_cons] at hn
    have q':(if i == pos.line && j == pos.col then some v else codeAmong pos (r++[.int a s,.int b t,c]))=some cv:=q
    show (if i == pos.line && j == pos.col then some v else codeAmong pos r)=some cv ∨ cv=c
    split at q'
    ·rename_i hc;rw [if_pos hc];exact .inl q'
    ·rename_i hc;rw [if_neg hc];exact among_snoc n r (by omega) hr q'
end Ek
set_option Elab.async false
set_option linter.all false
set_option maxRecDepth 100000
set_option maxHeartbeats 4000000
namespace Ek
open PySem PySem.Spec PyProof.Rows L2
variable [Tbs]
noncomputable def mkFd (name qual:Str) (params:Arguments) (fb:FuncBody) (scope:Scope) (cl:List (Str × Addr)) (doc pm cv ct:Value):FuncData:=
 { name,qualname:=qual,params,body:=fb,scope,globals:=mainGlobals,closure:=cl,defaults:=.none,kwdefaults:=.none,doc:=doc,pyModule:=pm,annotations:=none,code:=cv,closureTuple:=ct,builtins:=builtinsNs }
noncomputable def fnObj (fd:FuncData):Obj:={ cls:=.type "function",data:=.func fd }
noncomputable def BMain (mg:Str→Option Value) (h:Heap):Prop:=∃ bm ob,mg "__builtins__"=some (.ref bm)∧bm ≠ builtinsNs∧h.get? bm=some ob∧ob.cls=.type "module"∧ob.dict=some builtinsNs∧ob.data=.plain
structure LamOk (X:Cx):Prop where
 tab:∃ c P,X.env.code=.ref c∧PySem.W.CodeHd X.base c P∧P ∈ Tbs.ps
 bm:BMain X.mg X.base
section
variable {X:Cx} {pins:List (Addr × Obj)} {σ:L2.St} {H:Hp} {s:Shared} {st:Sto}
structure Made (X:Cx) (pins:List (Addr × Obj)) (σ:L2.St) (H:Hp) (st:Sto) (f:Addr) (fd:FuncData) (H':Hp) (s':Shared):Prop where
 inv:L2.Inv X pins σ H' s'
 tk:TK X.K H H'
 ev:Ev st H st H'
 rs:RelS X.K st H'
 fn:H' f=some (.frz (fnObj fd) Fz)
 cd:CodeF H' fd.code
theorem made_hit {fd:FuncData} {h':Heap} {tk:Nat} (I:L2.Inv X pins σ H s) (rs:RelS X.K st H) (hk:∀ b o,s.heap.get? b=some o→h'.get? b=some o) (hsz:s.heap.objs.size≤h'.objs.size) (cd:CodeF H fd.code) :
  Made X pins σ H st h'.objs.size fd (upd H h'.objs.size (.frz (fnObj fd) Fz)) { s with heap:=h'.push (fnObj fd),toks:=tk }:=by
 have hn:H h'.objs.size=none:=I.hok.fresh hsz
 exact ⟨I.laid (fun b o e=>Heap.get?_push_of_some _ (hk b o e)) hsz (fz_ok (Heap.get?_push_size _ rfl)),TK.new hn,Ev.new hn,rs.new hn,upd_same,cd.mono (K:=X.K) (TK.new hn)⟩
theorem made_new {P c':Addr} {ps:Array Value} {fd:FuncData} {h':Heap} {tk:Nat} {i j:Int} {t1 t2:Tok} {q:Str} (I:L2.Inv X pins σ H s) (rs:RelS X.K st H) (hP:H P=some (.tbl ps)) (hT:TabOk H ps)
  (hx:Heap.ExtBut P s.heap h') (hc:s.heap.objs.size≤c') (hlt:c' < h'.objs.size) (hr:h'.CodeRec (.ref c') q) (ht:h'.get? P=some (PySem.W.tabObj (ps++#[.int i t1,.int j t2,.ref c']))) (hcd:fd.code=.ref c') :
  ∃ H',Made X pins σ H st h'.objs.size fd H' { s with heap:=h'.push (fnObj fd),toks:=tk }:=by
 obtain ⟨c2,oc,vs,t,e2,hoc,hd,hv⟩:=hr
 cases e2
 have hPs:s.heap.get? P=some (PySem.W.tabObj ps):=I.hok P _ hP
 have hsz:s.heap.objs.size≤h'.objs.size:=Nat.le_of_lt (Nat.lt_of_le_of_lt hc hlt)
 have n1:H c'=none:=I.hok.fresh hc
 have n2:H h'.objs.size=none:=I.hok.fresh hsz
 have cf:c' ≠ h'.objs.size:=Nat.ne_of_lt hlt
 have cP:P ≠ c':=fun z=>by rw [z,n1] at hP;cases hP
 have fP:P ≠ h'.objs.size:=fun z=>by rw [z,n2] at hP;cases hP
 let H':Hp:=upd (upd (upd H c' (.frz oc Fz)) h'.objs.size (.frz (fnObj fd) Fz)) P (.tbl (ps++#[.int i t1,.int j t2,.ref c']))
 have gP:H' P=some (.tbl (ps++#[.int i t1,.int j t2,.ref c'])):=upd_same
 have gf:H' h'.objs.size=some (.frz (fnObj fd) Fz):=by show upd _ _ _ _=_;rw [upd_ne (Ne.symm fP)];exact upd_same
 have gc:H' c'=some (.frz oc Fz):=by show upd _ _ _ _=_;rw [upd_ne (Ne.symm cP),upd_ne cf];exact upd_same
 have ge:∀ b,b ≠ P→b ≠ h'.objs.size→b ≠ c'→H' b=H b:=fun b b1 b2 b3=>by show upd _ _ _ _=_;rw [upd_ne b1,upd_ne b2,upd_ne b3]
 have go:∀ b u,H b=some u→b ≠ P→H' b=some u:=fun b u e b1=>by rw [ge b b1 (ne_of_none e n2) (ne_of_none e n1)];exact e
 have nt:∀ b u,H b=some u→(∀ ps,u ≠ .tbl ps)→b ≠ P:=fun b u e n z=>by rw [z,hP] at e;cases e;exact n _ rfl
 have hk:∀ b o,b ≠ P→s.heap.get? b=some o→(h'.push (fnObj fd)).get? b=some o:=fun b o n e=>Heap.get?_push_of_some _ (hx b o n e)
 have TKH:TK X.K H H':=⟨fun a xs z=>by
  rcases z with (z | ⟨o',z⟩) | z
  ·exact .inl (.inl (go _ _ z (nt _ _ z fun _=>nofun)))
  ·exact .inl (.inr ⟨o',go _ _ z (nt _ _ z fun _=>nofun)⟩)
  ·exact .inr z,fun a o u z _=>go _ _ z (nt _ _ z fun _=>nofun)⟩
 have CF:CodeF H' (.ref c'):=⟨c',oc,Fz,vs,q,t,rfl,gc,fz_ne,hd,hv⟩
 refine ⟨H',I.un (h':=h'.push (fnObj fd)) ⟨fun b o e n _ _=>?_,fun b o e n _ _=>?_,fun b o e n _=>?_,fun b o e _=>?_,fun b xs e=>?_,fun b o u e=>?_,fun b qs e=>?_⟩ (fun b u e=>?_),TKH,fun a o e k=>?_,⟨fun a o e=>?_,fun P0 hP0=>?_⟩,gf,by rw [hcd];exact CF⟩
 ·exact hk b o (fun z=>by rw [z,hP] at n;cases n) e
 ·exact ⟨o.slots,hk b o (fun z=>by rw [z,hP] at n;cases n) e⟩
 ·have lb:=Heap.lt_size e
  rw [ge b (fun z=>by rw [z,hP] at n;cases n) (Nat.ne_of_lt (Nat.lt_of_lt_of_le lb hsz)) (Nat.ne_of_lt (Nat.lt_of_lt_of_le lb hc))]
  exact n
 ·by_cases hb:b=P
  ·subst hb;exact ⟨_,Heap.get?_push_of_some _ ht⟩
  ·exact ⟨o,hk b o hb e⟩
 ·exact go _ _ e (nt _ _ e fun _=>nofun)
 ·exact go _ _ e (nt _ _ e fun _=>nofun)
 ·by_cases hb:b=P
  ·subst hb;rw [hP] at e;cases e;exact ⟨_,gP⟩
  ·exact ⟨#[],by rw [go _ _ e hb];simp⟩
 ·by_cases b1:b=P
  ·subst b1;rw [gP] at e;cases e
   exact Heap.get?_push_of_some _ ht
  by_cases b2:b=h'.objs.size
  ·subst b2;rw [gf] at e;cases e
   exact fz_ok (Heap.get?_push_size _ rfl)
  by_cases b3:b=c'
  ·subst b3;rw [gc] at e;cases e
   exact fz_ok (Heap.get?_push_of_some _ hoc)
  rw [ge b b1 b2 b3] at e
  refine (I.hok b u e).stay (fun c v hc' z=>hk c v ?_ z) (fun a z=>go _ _ z (nt _ _ z fun _=>nofun)) fun a xs z=>go _ _ z (nt _ _ z fun _=>nofun)
  rcases hc' with rfl | hc'
  ·exact b1
  ·exact nt _ _ hc' fun _=>nofun
 ·by_cases ha:a=P
  ·subst ha;rw [hP] at e;cases e;exact ⟨⟨_,gP,.inr ⟨_,_,rfl,rfl⟩⟩,k⟩
  ·exact ⟨⟨o,go _ _ e ha,.inl rfl⟩,k⟩
 ·have z:=rs.ob a o e
  obtain ⟨u,hu,hn⟩:=obr_some z
  have ea:H' a=H a:=by rw [hu];exact go _ _ hu (nt _ _ hu hn)
  cases o with
  | lst ds=>obtain ⟨vs,q,w⟩:=z;exact ⟨vs,by rw [ea];exact q,w.mono TKH⟩
  | fro ds=>
   obtain ⟨vs,q | ⟨o',q⟩,w⟩:=z
   ·exact ⟨vs,.inl (by rw [ea];exact q),w.mono TKH⟩
   ·exact ⟨vs,.inr ⟨o',by rw [ea];exact q⟩,w.mono TKH⟩
  | dct kvs=>obtain ⟨vs,q,w⟩:=z;exact ⟨vs,by rw [ea];exact q,w.mono TKH⟩
  | ins c fs=>obtain ⟨C,dx,vs,q,n,w⟩:=z;exact ⟨C,dx,vs,by rw [ea];exact q,n,w.mono TKH⟩
 ·by_cases hb:P0=P
  ·subst hb
   refine ⟨_,gP,?_,fun pos cv hcv=>?_⟩
   ·rw [Array.toList_append];exact triples_snoc _ _ (Nat.le_refl _) hT.tr
   ·rw [Array.toList_append] at hcv
    rcases among_snoc _ _ (Nat.le_refl _) hT.tr hcv with z | z
    ·exact (hT.co pos cv z).mono TKH
    ·rw [z];exact CF
  ·obtain ⟨qs,e,o⟩:=rs.tb P0 hP0
   exact ⟨qs,go _ _ e hb,o.tr,fun pos cv hcv=>(o.co pos cv hcv).mono TKH⟩
theorem make_ok {name qual:Str} {params:Arguments} {fb:FuncBody} {scope:Scope} {pos:Pos} {line:Nat} {cl:List (Str × Addr)} {Q:Value→Shared→Prop} (I:L2.Inv X pins σ H s) (rs:RelS X.K st H) (L:LamOk X) (hcl:closureFor scope X.env=pure cl)
  (h:∀ f doc pm cv ct H' s',Made X pins σ H st f (mkFd name qual params fb scope cl doc pm cv ct) H' s'→Q (.ref f) s') :
  wpAny (model X.prog X.w) X.A (makeFunction name qual params fb scope X.env [] [] [] pos line) Q X.xe s:=by
 obtain ⟨c,P,hcode,C,hPs⟩:=L.tab
 obtain ⟨ps,hP,hT⟩:=rs.tb P hPs
 have hPh:s.heap.get? P=some (PySem.W.tabObj ps):=I.hok P _ hP
 have hg:s.heap.Ns mainGlobals X.mg:=I.mod.glob.keeps I.bk
 have hgP:mainGlobals ≠ P:=fun z=>by
  obtain ⟨o,es,ep,e,hd,_⟩:=hg
  rw [z,hPh] at e;cases e;cases hd
 have hB:s.heap.BuiltinsAt X.mg P:=by
  obtain ⟨bm,ob,b1,b2,b3,b4,b5,b6⟩:=L.bm
  have b3':=I.bk _ _ b3
  refine ⟨bm,ob,b1,b2,fun z=>?_,fun z=>?_,b3',b4,b5,b6⟩
  ·obtain ⟨o,es,ep,e,hd,_⟩:=hg
   rw [← z,b3'] at e;cases e;rw [b6] at hd;cases hd
  ·rw [z,hPh] at b3';cases b3';cases b4
 have C':=C.keeps I.bk
 cases hh:codeAmong pos ps.toList with
 | none=>
  cases fb with
  | stmts body=>
   refine PySem.W.makeFunction_K (mg:=X.mg) hcl I.ok.glob hg hcode C' hPh hT.tr hh hgP hB fun c' ct doc h' tk hx hc hlt hr ht=>?_
   obtain ⟨H',M⟩:=made_new (fd:=mkFd name qual params (.stmts body) scope cl doc ((X.mg "__name__").getD .none) (.ref c') ct) (tk:=tk) I rs hP hT hx hc hlt hr ht rfl
   exact h _ _ _ _ _ _ _ M
  | expr body=>
   refine PySem.W.kla_makeFunction (mg:=X.mg) hcl I.ok.glob hg hcode C' hPh hT.tr hh hgP hB fun c' ct h' tk hx hc hlt hr ht=>?_
   obtain ⟨H',M⟩:=made_new (fd:=mkFd name qual params (.expr body) scope cl .none ((X.mg "__name__").getD .none) (.ref c') ct) (tk:=tk) I rs hP hT hx hc hlt hr ht rfl
   exact h _ _ _ _ _ _ _ M
 | some cv=>
  have cd:=hT.co pos cv hh
  cases fb with
  | stmts body=>
   refine PySem.W.makeFunction_hit (mg:=X.mg) hcl I.ok.glob hg hcode C' hPh hT.tr hh hB fun ct doc h' tk hk hsz=>?_
   exact h _ doc ((X.mg "__name__").getD .none) cv ct _ _ (made_hit (fd:=mkFd name qual params (.stmts body) scope cl doc ((X.mg "__name__").getD .none) cv ct) (tk:=tk) I rs hk hsz cd)
  | expr body=>
   refine PySem.W.kla_makeFunctionHit (mg:=X.mg) hcl I.ok.glob hg hcode C' hPh hT.tr hh hB fun ct h' tk hk hsz=>?_
   exact h _ .none ((X.mg "__name__").getD .none) cv ct _ _ (made_hit (fd:=mkFd name qual params (.expr body) scope cl .none ((X.mg "__name__").getD .none) cv ct) (tk:=tk) I rs hk hsz cd)
end
end Ek
set_option Elab.async false
set_option linter.all false
set_option maxRecDepth 100000
set_option maxHeartbeats 4000000
namespace Ek
open PySem PySem.Spec PyProof.Rows L2
variable [Tbs]
theorem cap_vals {K:PySem.W.Frag} {H:Hp} {env:DEnv} {σ:L2.St} (hE:RelE K H env σ):∀ {cp:List Nat} {cs:List D},capD env cp=some cs →
  ∃ us:List V,IsDs K H cs us∧us.length=cp.length∧∀ (i:Nat) v,us[i]?=some v→∃ j,cp[i]?=some j∧σ[j]?=some (some v)
 | [],cs,h=>by
  cases h
  exact ⟨[],.nil,rfl,fun i v z=>by simp at z⟩
 | j::cp,cs,h=>by
  unfold capD at h
  split at h
  ·rename_i d ds h1 h2
   cases h
   obtain ⟨us,r,l,a⟩:=cap_vals hE h2
   obtain ⟨v,hv,is⟩:=hE.at' j d h1
   refine ⟨v::us,.cons is r,by simp [l],fun i w z=>?_⟩
   cases i with
   | zero=>simp at z;subst z;exact ⟨j,rfl,hv⟩
   | succ i=>exact a i w (by simpa using z)
  ·cases h
structure NestOk (X:Cx) (params:Arguments) (fb:FuncBody) (scope:Scope) (np:Nat) (N ps:List Str) (cp:List Nat) (b:Ss):Prop where
 sc:FnScC N ps scope
 lp:ps.length=np
 mt:Tbs.mt b scope N fb
 bind:∀ (name qual:Str) (cl:List (Str × Addr)) (doc pm cv ct:Value) (us:List Value),us.length=ps.length→bindArgs (mkFd name qual params fb scope cl doc pm cv ct) ⟨us,[]⟩=pure (ps.zip us)
 cap:∀ (i j:Nat),cp[i]?=some j→∃ x,X.N[j]?=some x∧N[np + i]?=some x∧(x,NameKind.free) ∈ scope.names
 fre:∀ x,(x,NameKind.free) ∈ scope.names→(∃ i:Nat,∃ j:Nat,cp[i]?=some j∧X.N[j]?=some x)∧X.env.scope.names.lookup x=some .cell∧X.fn x=false∧X.ow x=true
section
variable {X:Cx} {pins:List (Addr × Obj)} {σ:L2.St} {H:Hp} {s:Shared} {st:Sto}
theorem nest_ok {name qual:Str} {params:Arguments} {fb:FuncBody} {scope:Scope} {pos:Pos} {line:Nat} {np:Nat} {N ps:List Str} {cp:List Nat} {b:Ss} {env:DEnv} {cs:List D} {Q:Value→Shared→Prop}
  (I:L2.Inv X pins σ H s) (rs:RelS X.K st H) (hE:RelE X.K H env σ) (L:LamOk X) (S:NestOk X params fb scope np N ps cp b) (hc:capD env cp=some cs)
  (h:∀ f H' s',L2.Inv X pins σ H' s'→TK X.K H H'→Ev st H st H'→RelS X.K st H'→IsD X.K H' (.clo np N b cs) (.ref f)→Q (.ref f) s') :
  wpAny (model X.prog X.w) X.A (makeFunction name qual params fb scope X.env [] [] [] pos line) Q X.xe s:=by
 obtain ⟨us,ius,lus,aus⟩:=cap_vals hE hc
 let fs:List Str:=(scope.names.filter fun y=>y.2 == .free).map (·.1)
 have mfs:∀ x,x ∈ fs ↔ (x,NameKind.free) ∈ scope.names:=fun x=>by
  simp only [fs,List.mem_map,List.mem_filter,beq_iff_eq]
  constructor
  ·rintro ⟨⟨y,k⟩,⟨h1,h2⟩,rfl⟩
   simp only at h2;subst h2;exact h1
  ·intro h1;exact ⟨(x,.free),⟨h1,rfl⟩,rfl⟩
 have hcel:∀ x,(x,NameKind.free) ∈ scope.names→∃ c,X.env.cells.lookup x=some c:=fun x hx=>I.ok.has x (.inl (S.fre x hx).2.1)
 obtain ⟨H1,I1,e1,f1⟩:=freeze_all I fs fun x hx=>⟨(S.fre x ((mfs x).mp hx)).2.2.1,(S.fre x ((mfs x).mp hx)).2.2.2,hcel x ((mfs x).mp hx)⟩
 have hcl:closureFor scope X.env=pure (clOf X.env.cells scope.names []):=closure_of fun y hy hk=>by
  obtain ⟨y,k⟩:=y
  simp only at hk;subst hk
  obtain ⟨c,hc⟩:=hcel y hy
  simp only [hc,Option.isSome_some]
 refine make_ok I1 (same_rel rs e1) L hcl fun f doc pm cv ct H2 s2 M=>?_
 have tk:TK X.K H H2:=(same_tk e1).trans M.tk
 have val:∀ (j:Nat) x v,X.N[j]?=some x→σ[j]?=some (some v)→(x,NameKind.free) ∈ scope.names→∃ c o u w,(clOf X.env.cells scope.names []).lookup x=some c∧H2 c=some (.frz o u)∧(∀ vs,u ≠ .lst vs)∧o.data=.cell (some w)∧RelV v w:=fun j x v hN hs hx=>by
  obtain ⟨m,hn,hl⟩:=I1.loc
  obtain ⟨w,r,l⟩:=hl j x v hN hs (.inr (.inl (S.fre x hx).2.1))
  obtain ⟨c,o,u,a1,a2,a3,a4⟩:=f1 x ((mfs x).mpr hx)
  rcases l with ⟨k1,_⟩ | ⟨_,c2,l1,o2,l2,l3⟩
  ·have k1':X.env.scope.names.lookup x=some .local:=k1
   rw [(S.fre x hx).2.1] at k1';cases k1'
  ·rw [a1] at l1;cases l1
   rw [a4] at l2;cases l2
   exact ⟨c,o,u,w,clOf_get a1 hx,M.tk.2 _ _ _ a2 a3,a3,l3,r⟩
 have un:∀ x c,(clOf X.env.cells scope.names []).lookup x=some c→X.env.cells.lookup x=some c∧(x,NameKind.free) ∈ scope.names:=fun x c hx=>clOf_lookup hx
 refine h f H2 s2 M.inv tk ((same_ev e1).trans M.ev) M.rs (.clo (us:=us) ⟨mkFd name qual params fb scope (clOf X.env.cells scope.names []) doc pm cv ct,ps,⟨S.sc,S.lp,S.mt,S.bind name qual _ doc pm cv ct,rfl,rfl,fun x hx=>?_,fun x c hx=>(un x c hx).2,fun x y c hx hy=>I.ok.inj x y c (un x c hx).1 (un y c hy).1⟩,⟨⟨_,_,M.fn,fz_ne,rfl⟩,M.cd,fun x c hx=>?_,fun i v hv=>?_⟩⟩ (by rw [ius.len]) (ius.mono tk).at')
 ·obtain ⟨c,hc⟩:=hcel x hx
  exact ⟨c,clOf_get hc hx⟩
 ·obtain ⟨⟨i,j,hi,hj⟩,_⟩:=S.fre x (un x c hx).2
  have hil:i < us.length:=by rw [lus];exact (List.getElem?_eq_some_iff.mp hi).1
  obtain ⟨j',hj',hs'⟩:=aus i _ (List.getElem?_eq_getElem hil)
  rw [hi] at hj';cases hj'
  obtain ⟨c',o,u,w,b1,b2,b3,b4,b5⟩:=val j x _ hj hs' (un x c hx).2
  have hx':(clOf X.env.cells scope.names []).lookup x=some c:=hx
  rw [b1] at hx';cases hx'
  exact ⟨o,u,w,b2,b3,b4⟩
 ·obtain ⟨j,hj,hs⟩:=aus i v hv
  obtain ⟨x,n1,n2,n3⟩:=S.cap i j hj
  obtain ⟨c,o,u,w,b1,b2,b3,b4,b5⟩:=val j x v n1 hs n3
  exact ⟨x,c,o,u,w,n2,b1,b2,b3,b4,b5⟩
theorem de_lam {params:Arguments} {body:Expr} {scope:Scope} {pos:Pos} {np:Nat} {N ps:List Str} {cp:List Nat} {b:Ss} (hd:∀ env,defaultsOf params env=([],[])) (L:LamOk X) (S:NestOk X params (.expr body) scope np N ps cp b) :
  PE X (.Lambda params body scope pos) (up X.K fun env st Q=>∃ cs,capD env cp=some cs∧Q (.clo np N b cs) st):=by
 intro pins s σ H Q I q
 obtain ⟨env,st,Qd,hE,hS,⟨cs,hc,ht⟩,hq⟩:=q
 refine PySem.W.kla_eval (hd _) (nest_ok I hS hE L S hc fun f H' s' I' tk ev rs is=>?_)
 exact ⟨.ref f,H',I',rfl,hq _ _ H' st ev is rs ht⟩
theorem ds_dfn {name:Str} {params:Arguments} {body:List Stmt} {scope:Scope} {pos:Pos} {i np:Nat} {N ps:List Str} {cp:List Nat} {b:Ss} (hN:X.N.Nodup) (hi:X.N[i]?=some name) (hx:Loc X.env.scope name) (hf:X.fn name=true ∨ X.env.scope.names.lookup name=some .local)
  (h1:params.defaults=[]) (h2:params.kw_defaults=[]) (h3:∀ env,annTrees params none env=[]) (L:LamOk X) (S:NestOk X params (.stmts body) scope np N ps cp b) :
  PS X (.FunctionDef name params body [] none [] scope none name pos) (upS X.K fun F env st=>∃ cs,capD env cp=some cs∧F.nx (env.set i (some (.clo np N b cs))) st):=by
 intro pins s σ H F I q
 obtain ⟨env,st,Fd,hE,hS,⟨cs,hc,ht⟩,hq⟩:=q
 refine PySem.W.nestDef_K h1 h2 (h3 _) (nest_ok I hS hE L S hc fun f H' s' I' tk ev rs is=>?_)
 refine store_ok I' hN hi hx (v:=.ref f) rfl (fun s2 I2=>?_) hf
 exact ⟨_,H',I2,hq.nx _ _ H' st ev ((hE.mono tk).set is i) rs ht⟩
end
end Ek
set_option Elab.async false
set_option linter.all false
set_option maxRecDepth 100000
set_option maxHeartbeats 4000000
namespace Ek
open PySem PySem.Spec PyProof.Rows L2
variable [Tbs]
noncomputable def bodyCode (fb:FuncBody) (env:Env):Code:=match fb with
 | .stmts b=>.func b env
 | .expr e=>.expr e env
theorem call_any {prog:Program} {w:World} {A:Around} {R:Result→Shared→Prop} {s:Shared} {a c:Addr} {args:Args} {o oc:Obj} {fd:FuncData} {vs:Array Value} {q:Str} {t:Tok} (hroom:A.depth < recursionLimit) (ho:s.heap.get? a=some o) (hd':o.data=.func fd)
  (hco:fd.scope.isCoroutine=false) (hgen:fd.scope.isGenerator=false) (hc:fd.code=.ref c) (hoc:s.heap.get? c=some oc) (hdc:oc.data=.fields vs) (hq:vs[1]?=some (.str q t))
  (h:wpAny (model prog w) A.in1 (bindArgs fd args) (fun binds s₁=>
   wpAny (model prog w) A.in1 (newFunctionEnv fd.scope fd.globals fd.closure binds (q++".<locals>.") (some a) fd.code none fd.builtins)
    (fun env s₂=>s₂.heap.NoLimit∧codeAny (model prog w) A (bodyCode fd.body env) R s₂) (fun e s'=>R (.error e) s') s₁) (fun e s'=>R (.error e) s') s) :
  codeAny (model prog w) A (.call (.ref a) args) R s:=by
 refine codeAny_of_tree ?_
 show wpAny _ A.in1 (callAny (.ref a) args) _ _ s
 simp only [callAny]
 refine wpAny_bind (wpAny_load ho ?_)
 simp only [hd',callFunction,hco,hgen,hc]
 rw [hc] at h
 refine wpAny_bind (m:=field (.ref c) 1) (wpAny_field hoc hdc hq (wpAny_bind (wpAny_pure ?_)))
 refine wpAny_bind (wpAny_mono h (fun binds s₁ h₁=>wpAny_bind (wpAny_mono h₁ (fun env s₂ h₂=>wpAny_bind (wpAny_enterFrame h₂.1 hroom
  ?_)) fun _ _ h'=>h')) fun _ _ h'=>h')
 have h3:=h₂.2
 cases hb:fd.body with
 | stmts b=>rw [hb] at h3;exact wpAny_pure (And.intro rfl h3)
 | expr e=>rw [hb] at h3;exact wpAny_pure (And.intro rfl h3)
theorem rev_lookup {x:Str} {u:Value}:∀ {ps:List Str} {us:List Value} {i:Nat},ps.Nodup→ps[i]?=some x→us[i]?=some u→(ps.zip us).reverse.lookup x=some u
 | [],_,_,_,h,_=>by simp at h
 | _::_,[],_,_,_,h=>by simp at h
 | p::ps,w::us,i,nd,h1,h2=>by
  rw [List.zip_cons_cons,List.reverse_cons,List.lookup_append]
  cases i with
  | zero=>
   simp at h1 h2
   subst h1 h2
   have:(ps.zip us).reverse.lookup p=none:=by
    rw [List.lookup_eq_none_iff]
    intro y hy
    have:=(List.of_mem_zip (List.mem_reverse.mp hy)).1
    have ne:p ≠ y.1:=fun z=>(List.nodup_cons.mp nd).1 (z ▸ this)
    simpa using ne
   rw [this]
   simp [List.lookup]
  | succ i=>
   rw [rev_lookup (i:=i) (List.nodup_cons.mp nd).2 (by simpa using h1) (by simpa using h2)]
   rfl
noncomputable def cxC (P:Program) (w:World) (K:PySem.W.Frag) (mg:Str→Option Value) (base:Heap) (N:List Str) (scope:Scope) (cl:List (Str × Addr)) (q:Str) (f:Addr) (cd:Value) (A:Around) (outer:List Env) (s:Shared) (H:Hp):Cx where
 prog:=P
 w:=w
 K:=K
 mg:=mg
 base:=base
 A:=A.deeper (newEnv scope s.heap.objs.size mainGlobals cl (q++".<locals>.") (some f) cd none builtinsNs)
 N:=N
 s₀:=s
 H₀:=H
 env:=newEnv scope s.heap.objs.size mainGlobals cl (q++".<locals>.") (some f) cd none builtinsNs
 outer:=outer
 stack:=newEnv scope s.heap.objs.size mainGlobals cl (q++".<locals>.") (some f) cd none builtinsNs::outer
 ex:=[]
 calm:=true
 fn:=fun y=>!(scope.names.any fun z=>z.1 == y && z.2 == .free)
 pn:=[]
 xe:=fun _ _=>False
theorem inv_startC {P:Program} {w:World} {K:PySem.W.Frag} {mg:Str→Option Value} {base:Heap} {N ps:List Str} {np:Nat} {b:Ss} {q:Str} {f:Addr} {fd:FuncData} {A:Around} {outer:List Env} {s:Shared} {h1:Heap} {tk:Nat} {H:Hp} {us:List Value} {vs us0:List V}
  (cf:CloF fd np N ps b) (cr:CloR H f fd np N us0) (hd:A.handled=none) (e0:Env0 P w K mg base A outer s H) (hl:vs.length=ps.length) (r:Vals vs us)
  (hns:h1.Ns s.heap.objs.size (fun x=>(ps.zip us).reverse.lookup x)) (hk:∀ b o,s.heap.get? b=some o→h1.get? b=some o) :
  Inv (cxC P w K mg base N fd.scope fd.closure q f fd.code A outer s H) [] (start N (vs++us0)) H { s with heap:=h1,toks:=tk }:=by
 have S:=cf.sc
 have noA:∀ b:Addr,b ∉ (cxC P w K mg base N fd.scope fd.closure q f fd.code A outer s H).ex:=fun b z=>absurd (show b ∈ ([]:List Addr) from z) (by simp)
 have hpl:ps.length≤N.length:=by have:=congrArg List.length S.pre;rw [List.length_take] at this;omega
 have hful:(vs++us0).length≤N.length:=by
  rw [List.length_append,hl]
  cases hu:us0.length with
  | zero=>omega
  | succ m=>
   have hm:m < us0.length:=by omega
   obtain ⟨x,_,_,_,_,n1,_⟩:=cr.at' m _ (List.getElem?_eq_getElem hm)
   have:=(List.getElem?_eq_some_iff.mp n1).1
   have:=cf.np
   omega
 have fnF:∀ x c,fd.closure.lookup x=some c→(!(fd.scope.names.any fun z=>z.1 == x && z.2 == .free))=false:=fun x c h=>by
  have hm:=cf.fre x c h
  have:(fd.scope.names.any fun z=>z.1 == x && z.2 == .free)=true:=List.any_eq_true.mpr ⟨(x,.free),hm,by simp⟩
  rw [this];rfl
 have celH:∀ {c:Addr} {o:Obj} {u:HO},H c=some (.frz o u)→h1.get? c=some o:=fun {c o u} e=>by
  obtain ⟨z,_⟩:=e0.hok c _ e
  exact hk _ _ z
 refine ⟨⟨e0.mod,S.kind,rfl,rfl,Nat.le_refl _,fun y z c h1 h2=>cf.inj y z c h1 h2,fun y hy=>?_,fun y c h hc=>?_,fun _=>hd,Around.frames_deeper e0.frames,.inr ⟨rfl,rfl⟩,fun b z=>absurd z (noA b),e0.bs,e0.bsz,fun b _ _=>noA b,fun b z=>absurd z (noA b),e0.funs,e0.frf⟩,
  rfl,e0.bare,Un.kept hk,⟨_,hns,fun i y v h1 h2 h3=>?_⟩,fun y c h=>?_,e0.hok.fresh (Nat.le_refl _),fun y c h=>?_,fun p hp=>absurd (show p ∈ ([]:List (Addr × Obj)) from hp) (by simp),e0.hok.kept hk,?_⟩
 ·have hy:fd.scope.names.lookup y=some .cell ∨ fd.scope.names.lookup y=some .free:=hy
  rcases hy with hy | hy
  ·exact absurd rfl (S.nocell _ (PySem.mem_of_lookup hy))
  ·exact cf.has y (PySem.mem_of_lookup hy)
 ·have hc':fd.closure.lookup y=some c:=hc
  rcases h with h | h
  ·have h':(!(fd.scope.names.any fun z=>z.1 == y && z.2 == .free))=true:=h
   rw [fnF y c hc'] at h';cases h'
  ·cases h
 ·have hi:i < (vs++us0).length:=by
   unfold L2.start at h2
   by_cases hi:i < (vs++us0).length
   ·exact hi
   ·rw [List.getElem?_append_right (by simpa using hi)] at h2
    rw [List.getElem?_replicate] at h2
    split at h2 <;> cases h2
  have ha:(vs++us0)[i]?=some v:=by
   unfold L2.start at h2
   rw [List.getElem?_append_left (by simpa using hi),List.getElem?_map] at h2
   cases e:(vs++us0)[i]? with
   | none=>rw [e] at h2;cases h2
   | some a=>rw [e] at h2;cases h2;rfl
  have h1':N[i]?=some y:=h1
  by_cases hv:i < vs.length
  ·rw [List.getElem?_append_left hv] at ha
   obtain ⟨u,hu,rv⟩:=r.get ha
   have hp:ps[i]?=some y:=by
    rw [← S.pre,List.getElem?_take_of_lt (by omega)];exact h1'
   have ndP:ps.Nodup:=by rw [← S.pre];exact S.nd.sublist (List.take_sublist _ _)
   exact ⟨u,rv,.inl ⟨S.par y (List.mem_of_getElem? hp),rev_lookup ndP hp hu⟩⟩
  ·rw [List.getElem?_append_right (by omega)] at ha
   obtain ⟨x,c,o',u',ww,n1,n2,n3,n4,n5,n6⟩:=cr.at' _ v ha
   have e:np + (i - vs.length)=i:=by have:=cf.np;omega
   rw [e,h1'] at n1
   cases n1
   exact ⟨ww,n6,.inr ⟨.inr (S.fre _ (cf.fre y c n2) rfl),c,n2,o',celH n3,n5⟩⟩
 ·obtain ⟨o',u',ww,n3,n4,n5⟩:=cr.cl y c h
  exact ⟨some ww,o',celH n3,n5⟩
 ·obtain ⟨o',u',ww,n3,n4,n5⟩:=cr.cl y c h
  exact .inr ⟨fnF y c h,o',u',n3⟩
 ·unfold L2.start
  show _=N.length
  rw [List.length_append,List.length_map,List.length_replicate]
  omega
noncomputable def BodyOk (X:Cx) (fb:FuncBody) (Z:Sg) (b:Ss):Prop:=match fb with
 | .stmts l=>PSs X l (upS X.K (wpSs Z b))
 | .expr x=>∃ e,b=.cons (.ret e) .nil∧PE X x (up X.K (wpE Z e))
theorem start_envG {K:PySem.W.Frag} {H:Hp} {N:List Str} {ds:List D} {vs:List V} (r:IsDs K H ds vs):RelE K H (ds.map some++List.replicate (N.length - ds.length) none) (L2.start N vs):=by
 refine ⟨by simp [L2.start,r.len],fun i x h=>?_⟩
 unfold L2.start
 by_cases hi:i < ds.length
 ·rw [List.getElem?_append_left (by simpa using hi),List.getElem?_map,List.getElem?_eq_getElem hi] at h
  simp only [Option.map_some,Option.some.injEq] at h
  obtain ⟨v,hv,is⟩:=r.get (List.getElem?_eq_getElem hi)
  refine ⟨v,?_,by rw [← h];exact is⟩
  rw [List.getElem?_append_left (by rw [List.length_map,← r.len];exact hi),List.getElem?_map,hv]
  rfl
 ·rw [List.getElem?_append_right (by simpa using hi),List.getElem?_replicate] at h
  split at h <;> cases h
theorem start_envC {K:PySem.W.Frag} {H:Hp} {N:List Str} {ds cs:List D} {vs us:List V} (r:IsDs K H ds vs) (r2:IsDs K H cs us):RelE K H (startC N ds cs) (L2.start N (vs++us)):=start_envG (r.append r2)
theorem clo_fn {P:Program} {w:World} {K:PySem.W.Frag} {mg:Str→Option Value} {base:Heap} {n np:Nat} {fa:Addr} {fd:FuncData} {N ps:List Str} {b:Ss} {cs:List D} {Z:Sg} (cf:CloF fd np N ps b)
  (hbody:∀ (q:Str) (A:Around) (outer:List Env) (s:Shared) (H:Hp),Room n (cxC P w K mg base N fd.scope fd.closure q fa fd.code A outer s H).A→BodyOk (cxC P w K mg base N fd.scope fd.closure q fa fd.code A outer s H) fd.body Z b) :
  FnOk P w K mg base CX0 (n + 1) fa fd ps (cloSp K fa fd np N cs fun ds st Q=>ds.length=np∧wpSs Z b { nx:=fun _ st'=>∃ s2,Sub s2 st'∧Q .non s2,rt:=fun d st'=>∃ s2,Sub s2 st'∧Q d s2 } (startC N ds cs) st):=by
 refine ⟨fun vs H Q E hsp=>?_,fun A outer s H args us vs Q E hr e0 hb r hsp=>?_⟩
 ·obtain ⟨us0,ds,st,Qd,cr,ics,is,rs,hs,hq⟩:=hsp
  rw [← is.len,hs.1,cf.np]
 ·obtain ⟨us0,ds,st,Qd,cr,ics,is,rs,⟨hlen,hs⟩,hq⟩:=hsp
  have S:=cf.sc
  have hl:vs.length=ps.length:=by rw [← is.len,hlen,cf.np]
  have lim:s.heap.NoLimit:=e0.mod.nolimit.keeps fun b o e=>(e0.bs b o e).1
  obtain ⟨o,u,f1,f2,f3⟩:=cr.ex
  obtain ⟨c,oc,uc,vc,q,t,c1,c2,c3,c4,c5⟩:=cr.cd
  obtain ⟨ho,_⟩:=e0.hok fa _ f1
  obtain ⟨hoc,_⟩:=e0.hok c _ c2
  have hloc:∀ y ∈ ps.zip us,fd.scope.names.lookup y.1=some .local:=fun ⟨x,v⟩ hy=>S.par x (List.of_mem_zip hy).1
  refine call_any hr.depth ho f3 S.co S.gen c1 hoc c4 c5 (hb _ _ _ _ ?_)
  rw [cf.gl,cf.bl]
  refine wpAny_newFunctionEnv S.nocell hloc (fun h1 hns hsb=>?_) S.kind
  have hk:∀ b o,s.heap.get? b=some o→h1.get? b=some o:=fun b o e=>hsb.extBut b o (Nat.ne_of_lt (Heap.lt_size e)) (Heap.get?_push_of_some _ e)
  refine ⟨lim.keeps hk,?_⟩
  have I:=inv_startC (q:=q) (tk:=s.toks + (ps.zip us).length) cf cr hr.hd e0 hl r hns hk
  have hB:=hbody q A outer s H (hr.deeper _)
  have hE:RelE K H (startC N ds cs) (start N (vs++us0)):=start_envC is ics
  have fin:∀ {σ':L2.St} {H':Hp} {v:V} {u:Value} {s':Shared},Inv (cxC P w K mg base N fd.scope fd.closure q fa fd.code A outer s H) [] σ' H' s'→RelV v u→Q v H'→CE outer P w H s Q u s':=
   fun {σ' H' v u s'} J rv q=>⟨v,H',J.os,J.bare,J.base,J.hok,rv,q⟩
  have rt:∀ v d H' st',Ev st H st' H'→IsD K H' d v→RelS K st' H'→(∃ s2,Sub s2 st'∧Qd d s2)→Q v H':=fun v d H' st' ev is' rs' ⟨s2,sub,q⟩=>hq v d H' s2 (ev.drop sub) is' (rs'.sub sub) q
  cases hfb:fd.body with
  | stmts l=>
   rw [hfb] at hB
   refine codeAny_func (wpAny_mono (hB [] _ _ H { nx:=fun _ H'=>Q .non H',rt:=Q } I ⟨startC N ds cs,st,_,hE,rs,hs,fun env σ H' st' ev hE hS q=>rt _ .non H' st' ev .non hS q,fun env σ H' st' ev hE hS q=>q.elim,fun env σ H' st' ev hE hS q=>q.elim,fun v e H' st' ev is' rs' q=>rt v e H' st' ev is' rs' q⟩) (fun fl s' hs=>?_) fun e s' z=>z.elim)
   cases fl with
   | ret u=>
    obtain ⟨v,σ',H',J,rv,q⟩:=hs
    exact fin J rv q
   | next=>
    obtain ⟨σ',H',J,q⟩:=hs
    exact fin (v:=V.non) (u:=Value.none) J rfl q
   | brk=>
    obtain ⟨_,_,_,q⟩:=hs
    exact False.elim q
   | cont=>
    obtain ⟨_,_,_,q⟩:=hs
    exact False.elim q
  | expr x=>
   rw [hfb] at hB
   obtain ⟨e,rfl,hB⟩:=hB
   refine PySem.W.kla_codeExpr (wpAny_mono (hB [] _ _ H Q I ⟨startC N ds cs,st,_,hE,rs,(show wpE Z e (startC N ds cs) st _ from hs),fun v d H' st' ev is' rs' q=>rt v d H' st' ev is' rs' q⟩) (fun u s' hs=>?_) fun e s' z=>z.elim)
   obtain ⟨v,H',J,rv,q⟩:=hs
   exact fin J rv q
end Ek
set_option Elab.async false
set_option linter.all false
set_option maxRecDepth 100000
set_option maxHeartbeats 4000000
namespace Ek
open PySem PySem.Spec PyProof.Rows L2
variable [Tbs]
noncomputable def bltNames:List Str:=["len","abs","int","sum","list","tuple","isinstance","max","range","enumerate","reversed","str","bool","min","sorted","zip"]
noncomputable def isM (f:Str):Bool:=f.cps.contains 46
structure FOk (X:Cx) (f:Str) (sp:Spec):Prop where
 ex:∃ k a fd ps,FnOk X.prog X.w X.K X.mg X.base CX0 k a fd ps (upSp X.K sp)∧Room k X.A∧X.mg f=some (.ref a)∧PySem.W.keepIn X.K (.ref a)=true∧Binds X.K fd ps []∧PySem.W.nsIn X.K mainGlobals f=some (some (.ref a))
noncomputable def lamMark:Str:=⟨#[33]⟩
noncomputable def capMark (x:Str):Str:=⟨#[33]++x.cps⟩
noncomputable def plainArgs:Arguments→Option (List Str)
 | ⟨[],[⟨a,none,_⟩],none,[],[],none,[]⟩=>some [a]
 | ⟨[],[⟨a,none,_⟩,⟨b,none,_⟩],none,[],[],none,[]⟩=>if b == a then none else some [a,b]
 | _=>none
noncomputable def nestB (sc:Scope) (N:List Str) (scope:Scope) (Nl ps:List Str) (np:Nat) (cp:List Nat):Bool:=
 (ps.length == np) && (scope.kind == .function) && !scope.isCoroutine && !scope.isGenerator && decide Nl.Nodup && (Nl.take ps.length == ps) && ps.all (fun x=>scope.names.lookup x == some .local) && scope.names.all (fun y=>!(y.2 == .cell)) &&
 scope.names.all (fun y=>!(y.2 == .free) || (scope.names.lookup y.1 == some .free && sc.names.lookup y.1 == some .cell && N.contains (capMark y.1) && (List.range cp.length).any fun i=>match cp[i]? with | some j=>N[j]? == some y.1 | none=>false)) &&
 (List.range cp.length).all (fun i=>match cp[i]? with | some j=>(match N[j]? with | some x=>(Nl[np + i]? == some x) && scope.names.any (fun z=>z.1 == x && z.2 == .free) | none=>false) | none=>false)
noncomputable def glb (sc:Scope) (f:Str):Bool:=sc.names.lookup f == some .globalImplicit
noncomputable def visb (sc:Scope) (x:Str):Bool:=match sc.names.lookup x with
 | some .local=>true | some .cell=>true | some .free=>true | _=>false
noncomputable def locb (sc:Scope) (x:Str):Bool:=match sc.names.lookup x with
 | some .local=>true | some .cell=>true | _=>false
noncomputable def lcl (sc:Scope) (x:Str):Bool:=sc.names.lookup x == some .local
noncomputable def okN (x:Str):Bool:=!(x == ("__debug__":Str)) && !(x == ("__classdict__":Str))
noncomputable def unstar:Expr→Bool
 | .Starred ..=>false | .Slice ..=>false | .Set ..=>false | _=>true
noncomputable def noSup:Expr→Bool
 | .Call (.Name _ _) [] [] _=>false | _=>true
noncomputable def noIf:Expr→Bool
 | .IfExp ..=>false | _=>true
noncomputable def noCmp:Expr→Bool
 | .ListComp ..=>false | .SetComp ..=>false | .DictComp ..=>false | _=>true
noncomputable def relS (scope sc:Scope):Scope:=
 { scope with names:=scope.names.map fun (n,k)=>if (k == .free && sc.kind == .function && sc.names.lookup n == some .cell) then (n,.cell) else (n,k) }
noncomputable def compOk (sc scope:Scope) (N Nc:List Str) (fr:List Nat) (k:Nat):Bool:=
 (scope.kind == .function) && scope.names.all (fun y=>!(y.2 == .cell)) && scope.names.all (fun y=>!(y.2 == .local) || scope.names.lookup y.1 == some .local) &&
 scope.names.all (fun y=>!(y.2 == .free) || sc.names.lookup y.1 == some .cell || sc.names.lookup y.1 == some .free) && scope.names.all (fun y=>!(y.2 == .free) || !(scope.names.any fun z=>z.1 == y.1 && z.2 == .local)) &&
 decide Nc.Nodup && !(Nc.contains lamMark) && (Nc.length == fr.length + k) && ((List.range fr.length).all fun i=>match Nc[i]?,fr[i]? with
  | some x,some j=>(N[j]? == some x) && scope.names.any (fun z=>z.1 == x && z.2 == .free) | _,_=>false)
noncomputable def mTg (ow:Bool) (t:Tg) (sc:Scope) (N:List Str) (x:Expr):Bool:=match t with
 | .n i=>(match x with
  | .Name y _=>(N[i]? == some y) && locb sc y && ((ow && !(N.contains (capMark y))) || lcl sc y)
  | _=>false)
 | .tup is=>(match x with
  | .Tuple es _ _=>(is.length == es.length) && ((is.zip es).all fun p=>match p.2 with
   | .Name y _=>(N[p.1]? == some y) && locb sc y && ((ow && !(N.contains (capMark y))) || lcl sc y) | _=>false)
  | _=>false)
noncomputable def mKs:List Str→List (Option Expr)→Bool
 | [],[]=>true
 | k::ks,some (.Constant (.str c) _ _)::r=>(k == c) && mKs ks r
 | _,_=>false
mutual
noncomputable def mE:E→Scope→List Str→Expr→Bool
 | .non,_,_,x=>match x with | .Constant .none _ _=>true | _=>false
 | .bl b,_,_,x=>match x with | .Constant (.bool c) _ _=>b == c | _=>false
 | .int i,_,_,x=>match x with | .Constant (.int c) _ _=>i == c | _=>false
 | .str y,_,_,x=>match x with | .Constant (.str c) _ _=>y == c | _=>false
 | .v i,sc,N,x=>match x with | .Name y _=>(N[i]? == some y) && visb sc y && okN y | _=>false
 | .tup es,sc,N,x=>match x with | .Tuple xs _ _=>mEs es sc N xs && decide (es.len≤1000) | _=>false
 | .lst es,sc,N,x=>match x with | .List xs _=>mEs es sc N xs && decide (es.len≤1000) | _=>false
 | .bin o a b,sc,N,x=>match x with | .BinOp p q r _=>(o == q) && mE a sc N p && mE b sc N r | _=>false
 | .neg a,sc,N,x=>match x with | .UnaryOp .USub p _=>mE a sc N p | _=>false
 | .cmp o a b,sc,N,x=>match x with | .Compare p [q] [r] _=>(o == q) && mE a sc N p && mE b sc N r | _=>false
 | .isN a,sc,N,x=>match x with | .Compare p [.Is] [.Constant .none _ _] _=>mE a sc N p | _=>false
 | .notN a,sc,N,x=>match x with | .Compare p [.IsNot] [.Constant .none _ _] _=>mE a sc N p | _=>false
 | .and a b,sc,N,x=>match x with
  | .BoolOp .And [p,q] _=>mE a sc N p && mE b sc N q && noIf p && noIf q
  | .BoolOp .And (p::q::r::rest) ps=>mE a sc N p && mE b sc N (.BoolOp .And (q::r::rest) ps) && noIf p
  | _=>false
 | .or a b,sc,N,x=>match x with
  | .BoolOp .Or [p,q] _=>mE a sc N p && mE b sc N q && noIf p && noIf q
  | .BoolOp .Or (p::q::r::rest) ps=>mE a sc N p && mE b sc N (.BoolOp .Or (q::r::rest) ps) && noIf p
  | _=>false
 | .not a,sc,N,x=>match x with | .UnaryOp .Not p _=>mE a sc N p && noIf p | _=>false
 | .ite c a b,sc,N,x=>match x with | .IfExp p q r _=>mE c sc N p && mE a sc N q && mE b sc N r && noIf p | _=>false
 | .ix a b,sc,N,x=>match x with | .Subscript p q _=>mE a sc N p && mE b sc N q | _=>false
 | .sl a lo hi,sc,N,x=>match x with
  | .Subscript p (.Slice l h none _) _=>mE a sc N p && (match l with | none=>lo.isNon | some l=>!lo.isNon && mE lo sc N l) && (match h with | none=>hi.isNon | some h=>!hi.isNon && mE hi sc N h)
  | _=>false
 | .dsel ks vs k,sc,N,x=>match x with
  | .Subscript (.Dict keys xs _) q _=>mKs ks keys && mEs vs sc N xs && mE k sc N q && (ks.length == vs.len) && decide ks.Nodup && decide (ks.length≤15) && !ks.isEmpty
  | _=>false
 | .len a,sc,N,x=>match x with | .Call (.Name f _) [p] [] _=>(f == ("len":Str)) && glb sc "len" && mE a sc N p | _=>false
 | .abs a,sc,N,x=>match x with | .Call (.Name f _) [p] [] _=>(f == ("abs":Str)) && glb sc "abs" && mE a sc N p | _=>false
 | .toInt a,sc,N,x=>match x with | .Call (.Name f _) [p] [] _=>(f == ("int":Str)) && glb sc "int" && mE a sc N p | _=>false
 | .sum a,sc,N,x=>match x with | .Call (.Name f _) [p] [] _=>(f == ("sum":Str)) && glb sc "sum" && mE a sc N p | _=>false
 | .list a,sc,N,x=>match x with | .Call (.Name f _) [p] [] _=>(f == ("list":Str)) && glb sc "list" && mE a sc N p | _=>false
 | .tuple a,sc,N,x=>match x with | .Call (.Name f _) [p] [] _=>(f == ("tuple":Str)) && glb sc "tuple" && mE a sc N p | _=>false
 | .max a b,sc,N,x=>match x with | .Call (.Name f _) [p,q] [] _=>(f == ("max":Str)) && glb sc "max" && mE a sc N p && mE b sc N q | _=>false
 | .min a b,sc,N,x=>match x with | .Call (.Name f _) [p,q] [] _=>(f == ("min":Str)) && glb sc "min" && mE a sc N p && mE b sc N q | _=>false
 | .call f es,sc,N,x=>match x with | .Call (.Name g _) (y::ys) [] _=>(f == g) && glb sc f && okN f && mEs es sc N (y::ys) && !isM f | _=>false
 | .gf f,sc,_,x=>match x with | .Name g _=>(f == g) && glb sc f && okN f && !isM f | _=>false
 | .callv i es,sc,N,x=>match x with | .Call (.Name y _) (z::zs) [] _=>(N[i]? == some y) && visb sc y && okN y && mEs es sc N (z::zs) | _=>false
 | .dict ks vs,sc,N,x=>match x with
  | .Dict keys xs _=>mKs ks keys && mEs vs sc N xs && (ks.length == vs.len) && decide ks.Nodup && decide (ks.length≤15) && !ks.isEmpty
  | _=>false
 | .cmpl ne a b,sc,N,x=>match x with | .Compare p [q] [r] _=>(q == (if ne then CmpOp.NotEq else .Eq)) && mE a sc N p && mE b sc N r | _=>false
 | .app a b,sc,N,x=>match x with | .Call (.Attribute o m ap) [p] [] cp=>(m == ("append":Str)) && (ap.endLine == cp.line) && noSup o && mE a sc N o && mE b sc N p | _=>false
 | .ext a b,sc,N,x=>match x with | .Call (.Attribute o m ap) [p] [] cp=>(m == ("extend":Str)) && (ap.endLine == cp.line) && noSup o && mE a sc N o && mE b sc N p | _=>false
 | .popAt a b,sc,N,x=>match x with | .Call (.Attribute o m ap) [p] [] cp=>(m == ("pop":Str)) && (ap.endLine == cp.line) && noSup o && mE a sc N o && mE b sc N p | _=>false
 | .pop a,sc,N,x=>match x with | .Call (.Attribute o m ap) [] [] cp=>(m == ("pop":Str)) && (ap.endLine == cp.line) && noSup o && mE a sc N o | _=>false
 | .lrl a,sc,N,x=>match x with | .Call (.Name f _) [.Call (.Name g _) [p] [] _] [] _=>(f == ("list":Str)) && (g == ("reversed":Str)) && glb sc "list" && glb sc "reversed" && mE a sc N p | _=>false
 | .lrev a,sc,N,x=>match x with | .Call (.Attribute o m ap) [] [] cp=>(m == ("reverse":Str)) && (ap.endLine == cp.line) && noSup o && mE a sc N o | _=>false
 | .lclr a,sc,N,x=>match x with | .Call (.Attribute o m ap) [] [] cp=>(m == ("clear":Str)) && (ap.endLine == cp.line) && noSup o && mE a sc N o | _=>false
 | .gc g,sc,_,x=>match x with | .Name y _=>(g == y) && glb sc g && okN g | _=>false
 | .lam np Nl cp e,sc,N,x=>match x with
  | .Lambda args body scope _=>(match plainArgs args with | some ps=>N.contains lamMark && nestB sc N scope Nl ps np cp && !(Nl.contains lamMark) && mE e scope Nl body | none=>false)
  | _=>false
 | .index a b,sc,N,x=>match x with | .Call (.Attribute o m ap) [p] [] cp=>(m == ("index":Str)) && (ap.endLine == cp.line) && noSup o && mE a sc N o && mE b sc N p | _=>false
 | .comp Nc fr k t it c e,sc,N,x=>match x with
  | .ListComp el [⟨tg,itx,ifs,0⟩] scope _=>compOk sc scope N Nc fr k && mIt it sc N tg itx && mTg false t (relS scope sc) Nc tg && mE e (relS scope sc) Nc el &&
    (match ifs with | []=>c.isNon | [cx]=>!c.isNon && noIf cx && mE c (relS scope sc) Nc cx | _=>false)
  | _=>false
noncomputable def mEs:Es→Scope→List Str→List Expr→Bool
 | .nil,_,_,xs=>xs.isEmpty
 | .cons e r,sc,N,xs=>match xs with | x::xs=>mE e sc N x && mEs r sc N xs | []=>false
noncomputable def mIt:It→Scope→List Str→Expr→Expr→Bool
 | .seq e,sc,N,_,x=>mE e sc N x
 | .rng a,sc,N,_,x=>match x with | .Call (.Name f _) [p] [] _=>(f == ("range":Str)) && glb sc "range" && mE a sc N p | _=>false
 | .rng2 a b,sc,N,_,x=>match x with | .Call (.Name f _) [p,q] [] _=>(f == ("range":Str)) && glb sc "range" && mE a sc N p && mE b sc N q | _=>false
 | .enumr e,sc,N,tg,x=>(match tg with | .Tuple ..=>true | _=>false) && (match x with | .Call (.Name f _) [.Call (.Name g _) [p] [] _] [] _=>(f == ("enumerate":Str)) && (g == ("reversed":Str)) && glb sc "enumerate" && glb sc "reversed" && mE e sc N p | _=>false)
 | .enum e,sc,N,tg,x=>(match tg with | .Tuple ..=>true | _=>false) && (match x with | .Call (.Name f _) [p] [] _=>(f == ("enumerate":Str)) && glb sc "enumerate" && mE e sc N p | _=>false)
 | .zip a b,sc,N,tg,x=>(match tg with | .Tuple ..=>true | _=>false) && (match x with | .Call (.Name f _) [p,q] [] _=>(f == ("zip":Str)) && glb sc "zip" && mE a sc N p && mE b sc N q | _=>false)
 | .rev e,sc,N,_,x=>match x with | .Call (.Name f _) [p] [] _=>(f == ("reversed":Str)) && glb sc "reversed" && mE e sc N p | _=>false
end
structure XOk (Z:Sg) (X:Cx):Prop where
 calm:X.calm=true
 xe:X.xe=fun _ _=>False
 units:X.A.units + 200 < cLine
 nd:X.N.Nodup
 blt:∀ b ∈ bltNames,X.mg b=none
 fns:∀ f,isM f=false→Z.F f=true→FOk X f (Z.Phi f)
 nom:∀ f fa,Z.F f=true→PySem.W.nsIn X.K mainGlobals f=some (some (.ref fa))→isM f=false
 cls:∀ f c Ca,PySem.W.nsIn X.K mainGlobals c=some (some (.ref Ca))→f ∈ Z.C c→Cls X.K Ca∧NoAttr X.K Ca f
 mth:∀ m c Ca,PySem.W.nsIn X.K mainGlobals c=some (some (.ref Ca))→Z.F (mkey c m)=true→∃ k f fd ps,Cls X.K Ca∧Meth X.K Ca m f∧FnOk X.prog X.w X.K X.mg X.base CX0 k f fd ps (upSp X.K (Z.Phi (mkey c m)))∧Room k X.A∧Binds X.K fd ps []
 mks:∀ c,Z.MF (mkey c "__init__")=true→∃ Ca k f fd ps,PySem.W.nsIn X.K mainGlobals c=some (some (.ref Ca))∧Mk X.K Ca f∧FnOk X.prog X.w X.K X.mg X.base CX0 k f fd ps (upSp X.K (Z.Mk (mkey c "__init__")))∧Room (k + 1) X.A∧X.mg c=some (.ref Ca)∧Binds X.K fd ps []
 tabs:∀ g,Z.G g ≠ []→GTab X.prog X.w X.K X.mg g (Z.G g)
 cst:∀ g i,Z.Kc g=some i→∃ t,X.mg g=some (.int i t)
 lam:X.N.contains lamMark=true→LamOk X∧∀ x,X.N.contains (capMark x)=true→X.fn x=false∧X.ow x=true
 mtE:∀ (e:E) (sc:Scope) (N:List Str) (x:Expr),mE e sc N x=true→N.contains lamMark=false→Tbs.mt (.cons (.ret e) .nil) sc N (.expr x)
 clo:∀ np N b cs fa fd ps,CloF fd np N ps b→∃ k,FnOk X.prog X.w X.K X.mg X.base CX0 k fa fd ps (cloSp X.K fa fd np N cs (Z.PhiC np N b cs))∧Room k X.A
end Ek
set_option Elab.async false
set_option linter.all false
set_option maxRecDepth 100000
set_option maxHeartbeats 4000000
namespace Ek
open PySem PySem.Spec PyProof.Rows L2
variable [Tbs]
structure Snd (Z:Sg) (X:Cx) (e:E) (x:Expr):Prop where
 v:PE X x (up X.K (wpE Z e))
 t:noIf x=true→PT X x (upB X.K (wpT Z e))
 w:∀ op vs p,x=.BoolOp op vs p→PW X x (upB X.K (wpT Z e))
 st:∀ y p,x ≠ .Starred y p
 sl:∀ l u s p,x ≠ .Slice l u s p
 se:∀ l k p,x ≠ .Set l k p
theorem unst {x:Expr} (h:unstar x=true):(∀ y p,x ≠ .Starred y p)∧(∀ l u s p,x ≠ .Slice l u s p)∧(∀ l k p,x ≠ .Set l k p):=
 ⟨fun _ _ z=>(by rw [z] at h;cases h),fun _ _ _ _ z=>(by rw [z] at h;cases h),fun _ _ _ z=>(by rw [z] at h;cases h)⟩
theorem Snd.plain {Z:Sg} {X:Cx} {e:E} {x:Expr} (he:PE X x (up X.K (wpE Z e))) (hi:∀ whole,isTrue x X.env whole=(do let v ← whole;standAt x.pos;holding [v] (truthy v))) (hu:unstar x=true) (hb:∀ op vs p,x ≠ .BoolOp op vs p):Snd Z X e x:=
 ⟨he,fun _=>pt_of he hi,fun op vs p z=>absurd z (hb op vs p),(unst hu).1,(unst hu).2.1,(unst hu).2.2⟩
theorem gl_of {X:Cx} {f:Str} (h:glb X.env.scope f=true):Gl X f:=by
 have:X.env.scope.names.lookup f=some .globalImplicit:=by simpa [glb] using h
 exact this
theorem vis_of {sc:Scope} {f:Str} (h:visb sc f=true):Vis sc f:=by
 unfold visb at h
 split at h
 ·exact .inl (by assumption)
 ·exact .inr (.inl (by assumption))
 ·exact .inr (.inr (by assumption))
 ·cases h
theorem loc_of {sc:Scope} {f:Str} (h:locb sc f=true):Loc sc f:=by
 unfold locb at h
 split at h
 ·exact .inl (by assumption)
 ·exact .inr (by assumption)
 ·cases h
theorem okN_of {x:Str} (h:okN x=true):(x == ("__debug__":Str))=false∧(x == ("__classdict__":Str))=false:=by
 simpa [okN] using h
theorem nosup {o:Expr} (h:noSup o=true):∀ i p p',o ≠ .Call (.Name i p) [] [] p':=fun _ _ _ z=>by rw [z] at h;cases h
theorem XOk.blt' {Z:Sg} {X:Cx} (h:XOk Z X) (b:Str) (hb:bltNames.contains b=true:=by decide):X.mg b=none:=h.blt b (by simpa using hb)
theorem XOk.pass {Z:Sg} {X:Cx} (h:XOk Z X):PassesOwn (model X.prog X.w) X.A X.env X.xe:=by rw [h.xe];exact PassesOwn.never
theorem sndTg {X:Cx} {ow:Bool} {t:Tg} {x:Expr} (hc:X.calm=true) (hN:X.N.Nodup) (how:ow=true→∀ y,Loc X.env.scope y→X.N.contains (capMark y)=false→X.fn y=true ∨ X.env.scope.names.lookup y=some .local) (h:mTg ow t X.env.scope X.N x=true):PG X x (upG X.K t):=by
 have one:∀ (i:Nat) (y:Str) (p:Pos),((X.N[i]? == some y) && locb X.env.scope y && ((ow && !(X.N.contains (capMark y))) || lcl X.env.scope y))=true→X.N[i]?=some y∧Loc X.env.scope y∧(X.fn y=true ∨ X.env.scope.names.lookup y=some .local):=fun i y p h=>by
  simp only [Bool.and_eq_true,beq_iff_eq,Bool.or_eq_true,Bool.not_eq_true'] at h
  refine ⟨h.1.1,loc_of h.1.2,?_⟩
  rcases h.2 with z | z
  ·exact how z.1 y (loc_of h.1.2) z.2
  ·exact .inr (by simpa [lcl] using z)
 cases t with
 | n i=>
  unfold mTg at h
  simp only at h
  split at h
  ·obtain ⟨a,b,c⟩:=one _ _ ⟨0,0,0,0⟩ h
   exact dg_name hN a b c
  ·cases h
 | tup is=>
  unfold mTg at h
  simp only at h
  split at h
  ·rename_i es k p
   simp only [Bool.and_eq_true,beq_iff_eq] at h
   obtain ⟨hl,ha⟩:=h
   have all:∀ (is:List Nat) (es:List Expr),is.length=es.length→((is.zip es).all fun p=>match p.2 with
     | .Name y _=>(X.N[p.1]? == some y) && locb X.env.scope y && ((ow && !(X.N.contains (capMark y))) || lcl X.env.scope y) | _=>false)=true→PGs X es (gsOf is)∧(assignEach es X.env).length=is.length∧(assignEach es X.env).findIdx? (·.1)=none:=by
    intro is
    induction is with
    | nil=>
     intro es hl _
     cases es with
     | nil=>exact ⟨pgs_nil,rfl,rfl⟩
     | cons a b=>simp at hl
    | cons i is ih=>
     intro es hl h
     cases es with
     | nil=>simp at hl
     | cons e es=>
      simp only [List.zip_cons_cons,List.all_cons,Bool.and_eq_true] at h
      obtain ⟨h1,h2⟩:=h
      obtain ⟨g1,g2,g3⟩:=ih es (by simpa using hl) h2
      cases e <;> first | cases h1 | skip
      rename_i y py
      obtain ⟨a,b,c⟩:=one i y py h1
      refine ⟨pgs_cons (pg_name hN a b c) g1 rfl,?_,?_⟩
      ·show (assignEach es X.env).length + 1=_
       rw [g2];rfl
      ·show List.findIdx? _ ((false,assign (.Name y py) X.env)::assignEach es X.env)=none
       rw [List.findIdx?_cons]
       simp only [Bool.false_eq_true,if_false]
       rw [g3];rfl
   obtain ⟨g1,g2,g3⟩:=all is es hl ha
   exact dg_tup hc g1 g2 g3
  ·cases h
theorem compScope {X:Cx} {scope:Scope} {Nc:List Str} {fr:List Nat} {k:Nat} (h:compOk X.env.scope scope X.N Nc fr k=true):CompScope X scope Nc fr k:=by
 unfold compOk at h
 simp only [Bool.and_eq_true,beq_iff_eq,decide_eq_true_eq,List.all_eq_true] at h
 obtain ⟨⟨⟨⟨⟨⟨⟨⟨h1,h2⟩,h3⟩,h4⟩,h5⟩,h6⟩,_⟩,h7⟩,h8⟩:=h
 refine ⟨h1,fun y hy=>?_,fun y hy hl=>?_,fun y hy hf=>?_,fun y hy hf hm=>?_,h6,h7,fun i x hx hi=>?_⟩
 ·simpa using h2 y hy
 ·have:=h3 y hy
  rw [hl] at this
  simpa using this
 ·have:=h4 y hy
  rw [hf] at this
  simpa using this
 ·have:=h5 y hy
  rw [hf] at this
  have:(scope.names.any fun z=>z.1 == y.1 && z.2 == .local)=false:=by simpa using this
  rw [List.any_eq_false] at this
  exact absurd (by simp) (this _ hm)
 ·have:=h8 i (by simpa using hi)
  rw [hx] at this
  cases q:fr[i]? with
  | none=>rw [q] at this;cases this
  | some j=>
   rw [q] at this
   simp only [Bool.and_eq_true,beq_iff_eq,List.any_eq_true] at this
   obtain ⟨a,⟨n,kd⟩,hm,e1,e2⟩:=this
   simp only at e1 e2
   subst e1 e2
   exact ⟨j,rfl,a,hm⟩
theorem comp_nolam {X:Cx} {scope:Scope} {Nc:List Str} {fr:List Nat} {k:Nat} (h:compOk X.env.scope scope X.N Nc fr k=true):Nc.contains lamMark=false:=by
 unfold compOk at h
 simp only [Bool.and_eq_true,Bool.not_eq_true'] at h
 exact h.1.1.2
theorem XOk.comp {Z:Sg} {X:Cx} {scope:Scope} {Nc:List Str} {fr:List Nat} {k:Nat} (h:XOk Z X) (nl:Nc.contains lamMark=false) (S:CompScope X scope Nc fr k) (C:Addr) (fp:List Addr) (pins:List (Addr × Obj)) (s:Shared) (H:Hp):XOk Z (X.comp scope Nc C fp pins s H) where
 calm:=h.calm
 xe:=rfl
 units:=h.units
 nd:=S.nd
 blt:=h.blt
 fns:=fun f hm hf=>let ⟨k,a,fd,ps,x⟩:=(h.fns f hm hf).ex;⟨k,a,fd,ps,x⟩
 nom:=fun f fa a b=>h.nom f fa a b
 cls:=fun f c Ca a b=>h.cls f c Ca a b
 mth:=fun m c Ca a b=>h.mth m c Ca a b
 mks:=fun c a=>h.mks c a
 tabs:=fun g hg=>⟨(h.tabs g hg).ex⟩
 lam:=fun z=>by
  have z':Nc.contains lamMark=true:=z
  rw [nl] at z';cases z'
 cst:=h.cst
 mtE:=h.mtE
 clo:=fun np N b cs fa fd ps cf=>h.clo np N b cs fa fd ps cf
theorem bind1 (name qual:Str) (a:Str) (pos:Pos) (fb:FuncBody) (scope:Scope) (cl:List (Str × Addr)) (doc pm cv ct:Value) (u:Value):bindArgs (mkFd name qual ⟨[],[⟨a,none,pos⟩],none,[],[],none,[]⟩ fb scope cl doc pm cv ct) ⟨[u],[]⟩=pure [(a,u)]:=by
 have e:seqItems? Value.none=pure none:=rfl
 simp [bindArgs,mkFd,e,List.lookup]
theorem bind2 (name qual:Str) (a b:Str) (hab:(b == a)=false) (pos pos2:Pos) (fb:FuncBody) (scope:Scope) (cl:List (Str × Addr)) (doc pm cv ct:Value) (u v:Value):bindArgs (mkFd name qual ⟨[],[⟨a,none,pos⟩,⟨b,none,pos2⟩],none,[],[],none,[]⟩ fb scope cl doc pm cv ct) ⟨[u,v],[]⟩=pure [(a,u),(b,v)]:=by
 have e:seqItems? Value.none=pure none:=rfl
 simp [bindArgs,mkFd,e,List.lookup,hab]
theorem plain_args {p:Arguments} {ps:List Str} (h:plainArgs p=some ps):p.defaults=[]∧p.kw_defaults=[]∧(∀ env,defaultsOf p env=([],[]))∧(∀ env,annTrees p none env=[]) ∧
  ∀ (name qual:Str) (fb:FuncBody) (scope:Scope) (cl:List (Str × Addr)) (doc pm cv ct:Value) (us:List Value),us.length=ps.length→bindArgs (mkFd name qual p fb scope cl doc pm cv ct) ⟨us,[]⟩=pure (ps.zip us):=by
 unfold plainArgs at h
 split at h
 ·cases h
  exact ⟨rfl,rfl,fun _=>rfl,fun _=>rfl,fun _ _ _ _ _ _ _ _ _ us hl=>match us,hl with | [_],_=>bind1 ..⟩
 ·split at h
  ·cases h
  ·rename_i hab
   cases h
   exact ⟨rfl,rfl,fun _=>rfl,fun _=>rfl,fun _ _ _ _ _ _ _ _ _ us hl=>match us,hl with | [_,_],_=>bind2 _ _ _ _ (by simpa using hab) ..⟩
 ·cases h
theorem nest_of {X:Cx} {params:Arguments} {fb:FuncBody} {scope:Scope} {np:Nat} {Nl ps:List Str} {cp:List Nat} {b:Ss} (h:nestB X.env.scope X.N scope Nl ps np cp=true) (hc:∀ x,X.N.contains (capMark x)=true→X.fn x=false∧X.ow x=true) (mt:Tbs.mt b scope Nl fb)
  (bind:∀ (name qual:Str) (cl:List (Str × Addr)) (doc pm cv ct:Value) (us:List Value),us.length=ps.length→bindArgs (mkFd name qual params fb scope cl doc pm cv ct) ⟨us,[]⟩=pure (ps.zip us)):NestOk X params fb scope np Nl ps cp b:=by
 unfold nestB at h
 simp only [Bool.and_eq_true,beq_iff_eq,Bool.not_eq_true',decide_eq_true_eq,List.all_eq_true] at h
 obtain ⟨⟨⟨⟨⟨⟨⟨⟨⟨h1,h2⟩,h3⟩,h4⟩,h5⟩,h6⟩,h7⟩,h8⟩,h9⟩,h10⟩:=h
 have key:∀ x,(x,NameKind.free) ∈ scope.names→scope.names.lookup x=some .free∧X.env.scope.names.lookup x=some .cell∧X.N.contains (capMark x)=true∧∃ i:Nat,∃ j:Nat,cp[i]?=some j∧X.N[j]?=some x:=fun x hx=>by
  have:=h9 _ hx
  simp only [beq_self_eq_true,Bool.not_true,Bool.false_or,Bool.and_eq_true,beq_iff_eq,List.any_eq_true] at this
  obtain ⟨⟨⟨a,b⟩,c⟩,i,_,d⟩:=this
  refine ⟨a,b,c,i,?_⟩
  split at d
  ·rename_i j hj;exact ⟨j,hj,by simpa using d⟩
  ·cases d
 refine ⟨⟨h2,h3,h4,h5,h6,h7,fun y hy=>by simpa using h8 y hy,fun y hy hk=>?_⟩,h1,mt,bind,fun i j hj=>?_,fun x hx=>?_⟩
 ·obtain ⟨y,k⟩:=y
  simp only at hk;subst hk
  exact (key y hy).1
 ·have hi:=(List.getElem?_eq_some_iff.mp hj).1
  have:=h10 i (by simpa using hi)
  rw [hj] at this
  simp only at this
  split at this
  ·rename_i x hx
   simp only [Bool.and_eq_true,beq_iff_eq,List.any_eq_true] at this
   obtain ⟨a,⟨y,k⟩,hm,e1,e2⟩:=this
   simp only at e1 e2
   subst e1 e2
   exact ⟨_,hx,a,hm⟩
  ·cases this
 ·obtain ⟨a,b,c,i,j,d1,d2⟩:=key x hx
  exact ⟨⟨i,j,d1,d2⟩,b,hc x c⟩
end Ek
set_option Elab.async false
set_option linter.all false
set_option maxRecDepth 100000
set_option maxHeartbeats 4000000
namespace Ek
open PySem PySem.Spec PyProof.Rows L2
variable [Tbs]
structure SndA (Z:Sg) (X:Cx) (es:Es) (xs:List Expr):Prop where
 a:PA X xs (upA X.K es.len (wpEs Z es))
 pl:∀ pos:Pos,(backTo pos (starEach xs X.env)).any (·.1)=false
theorem pw_of2 {X:Cx} {o:BoolOp} {q:Expr} {pos:Pos} {t:DT} (h:PT X q (upB X.K (tst t))):PW X (.BoolOp o [q] pos) (upB X.K (tst t)):=by
 cases o with
 | And=>exact pw_and1 h
 | Or=>exact pw_or1 h
theorem mE_noset:∀ (e:E) (sc:Scope) (N:List Str) (l:List Expr) (k:Nat) (p:Pos),mE e sc N (.Set l k p)=false:=by
 intro e sc N l k p
 cases e <;> rfl
theorem foldS {env:Env} {it:It} {sc:Scope} {N:List Str} {tg x:Expr} (h:mIt it sc N tg x=true):∀ v,foldedSetIterable x env v=pure v:=by
 have hx:∀ l k p,x ≠ .Set l k p:=fun l k p z=>by
  subst z
  cases it with
  | seq e=>unfold mIt at h;rw [mE_noset] at h;cases h
  | rng a=>cases h
  | rng2 a b=>cases h
  | enum e=>unfold mIt at h;simp at h
  | enumr e=>unfold mIt at h;simp at h
  | zip a b=>unfold mIt at h;simp at h
  | rev e=>cases h
 intro v
 cases x <;> first | rfl | exact absurd rfl (hx _ _ _)
mutual
theorem sndE (Z:Sg):∀ (e:E) (X:Cx) (x:Expr),XOk Z X→mE e X.env.scope X.N x=true→Snd Z X e x
 | .non,X,x,hX,h=>by
  unfold mE at h
  split at h
  ·exact Snd.plain (by exact de_c pe_non fun _=>.non) (fun _=>rfl) rfl (by intros;exact nofun)
  ·cases h
 | .bl b,X,x,hX,h=>by
  unfold mE at h
  split at h
  ·have e:=beq_iff_eq.mp h
   subst e
   exact Snd.plain (by exact de_c pe_bl fun _=>.bl _) (fun _=>rfl) rfl (by intros;exact nofun)
  ·cases h
 | .int i,X,x,hX,h=>by
  unfold mE at h
  split at h
  ·have e:=beq_iff_eq.mp h
   subst e
   exact Snd.plain (by exact de_c pe_int fun _=>.int _) (fun _=>rfl) rfl (by intros;exact nofun)
  ·cases h
 | .str y,X,x,hX,h=>by
  unfold mE at h
  split at h
  ·have e:=beq_iff_eq.mp h
   subst e
   exact Snd.plain (by exact de_c pe_str fun _=>.str _) (fun _=>rfl) rfl (by intros;exact nofun)
  ·cases h
 | .v i,X,x,hX,h=>by
  unfold mE at h
  split at h
  ·simp only [Bool.and_eq_true,beq_iff_eq] at h
   exact Snd.plain (by exact de_var h.1.1 (vis_of h.1.2) (okN_of h.2).1 (okN_of h.2).2) (fun _=>rfl) rfl (by intros;exact nofun)
  ·cases h
 | .tup es,X,x,hX,h=>by
  unfold mE at h
  split at h
  ·simp only [Bool.and_eq_true,decide_eq_true_eq] at h
   exact Snd.plain (by exact de_tup (sndEs Z es X _ hX h.1).a h.2) (fun _=>rfl) rfl (by intros;exact nofun)
  ·cases h
 | .lst es,X,x,hX,h=>by
  unfold mE at h
  split at h
  ·simp only [Bool.and_eq_true,decide_eq_true_eq] at h
   exact Snd.plain (by exact de_lst (sndEs Z es X _ hX h.1).a h.2) (fun _=>rfl) rfl (by intros;exact nofun)
  ·cases h
 | .bin o a b,X,x,hX,h=>by
  unfold mE at h
  split at h
  ·simp only [Bool.and_eq_true,beq_iff_eq] at h
   obtain ⟨⟨e,h1⟩,h2⟩:=h
   subst e
   exact Snd.plain (by exact de_bin (sndE Z a X _ hX h1).v (sndE Z b X _ hX h2).v) (fun _=>rfl) rfl (by intros;exact nofun)
  ·cases h
 | .neg a,X,x,hX,h=>by
  unfold mE at h
  split at h
  ·exact Snd.plain (by exact de_neg (sndE Z a X _ hX h).v) (fun _=>rfl) rfl (by intros;exact nofun)
  ·cases h
 | .cmp o a b,X,x,hX,h=>by
  unfold mE at h
  split at h
  ·simp only [Bool.and_eq_true,beq_iff_eq] at h
   obtain ⟨⟨e,h1⟩,h2⟩:=h
   subst e
   have ia:=sndE Z a X _ hX h1
   have ib:=sndE Z b X _ hX h2
   refine ⟨by exact de_cmp hX.units ia.v ib.v ib.se,fun _=>?_,(fun _ _ _ z=>nomatch z),nofun,nofun,nofun⟩
   unfold wpT
   exact dt_cmp hX.units ia.v ib.v ib.se
  ·cases h
 | .isN a,X,x,hX,h=>by
  unfold mE at h
  split at h
  ·have ia:=sndE Z a X _ hX h
   refine ⟨by exact de_isN ia.v,fun _=>?_,(fun _ _ _ z=>nomatch z),nofun,nofun,nofun⟩
   unfold wpT
   exact dt_isN ia.v
  ·cases h
 | .notN a,X,x,hX,h=>by
  unfold mE at h
  split at h
  ·have ia:=sndE Z a X _ hX h
   refine ⟨by exact de_notN ia.v,fun _=>?_,(fun _ _ _ z=>nomatch z),nofun,nofun,nofun⟩
   unfold wpT
   exact dt_notN ia.v
  ·cases h
 | .and a b,X,x,hX,h=>by
  unfold mE at h
  split at h
  ·rename_i p q ps
   simp only [Bool.and_eq_true] at h
   obtain ⟨⟨⟨h1,h2⟩,h3⟩,h4⟩:=h
   have ia:=sndE Z a X _ hX h1
   have ib:=sndE Z b X _ hX h2
   have w:PW X (.BoolOp .And [p,q] ps) (upB X.K (wpT Z (.and a b))):=by unfold wpT;exact dw_and (ia.t h3) (pw_of2 (ib.t h4))
   exact ⟨by exact de_and ia.v (pe_one ib.v),fun _=>w.pt,fun _ _ _ _=>w,nofun,nofun,nofun⟩
  ·rename_i p q r rest ps
   simp only [Bool.and_eq_true] at h
   obtain ⟨⟨h1,h2⟩,h3⟩:=h
   have ia:=sndE Z a X _ hX h1
   have ib:=sndE Z b X _ hX h2
   have w:PW X (.BoolOp .And (p::q::r::rest) ps) (upB X.K (wpT Z (.and a b))):=by unfold wpT;exact dw_and (ia.t h3) (ib.w _ _ _ rfl)
   exact ⟨by exact de_and ia.v ib.v,fun _=>w.pt,fun _ _ _ _=>w,nofun,nofun,nofun⟩
  ·cases h
 | .or a b,X,x,hX,h=>by
  unfold mE at h
  split at h
  ·rename_i p q ps
   simp only [Bool.and_eq_true] at h
   obtain ⟨⟨⟨h1,h2⟩,h3⟩,h4⟩:=h
   have ia:=sndE Z a X _ hX h1
   have ib:=sndE Z b X _ hX h2
   have w:PW X (.BoolOp .Or [p,q] ps) (upB X.K (wpT Z (.or a b))):=by unfold wpT;exact dw_or (ia.t h3) (pw_of2 (ib.t h4))
   exact ⟨by exact de_or ia.v (pe_one ib.v),fun _=>w.pt,fun _ _ _ _=>w,nofun,nofun,nofun⟩
  ·rename_i p q r rest ps
   simp only [Bool.and_eq_true] at h
   obtain ⟨⟨h1,h2⟩,h3⟩:=h
   have ia:=sndE Z a X _ hX h1
   have ib:=sndE Z b X _ hX h2
   have w:PW X (.BoolOp .Or (p::q::r::rest) ps) (upB X.K (wpT Z (.or a b))):=by unfold wpT;exact dw_or (ia.t h3) (ib.w _ _ _ rfl)
   exact ⟨by exact de_or ia.v ib.v,fun _=>w.pt,fun _ _ _ _=>w,nofun,nofun,nofun⟩
  ·cases h
 | .not a,X,x,hX,h=>by
  unfold mE at h
  split at h
  ·simp only [Bool.and_eq_true] at h
   have ia:=sndE Z a X _ hX h.1
   refine ⟨by exact de_not ia.v,fun _=>?_,(fun _ _ _ z=>nomatch z),nofun,nofun,nofun⟩
   unfold wpT
   exact dt_not (ia.t h.2)
  ·cases h
 | .ite c a b,X,x,hX,h=>by
  unfold mE at h
  split at h
  ·simp only [Bool.and_eq_true] at h
   obtain ⟨⟨⟨h1,h2⟩,h3⟩,h4⟩:=h
   exact ⟨by exact de_ite ((sndE Z c X _ hX h1).t h4) (sndE Z a X _ hX h2).v (sndE Z b X _ hX h3).v,(fun z=>nomatch z),(fun _ _ _ z=>nomatch z),nofun,nofun,nofun⟩
  ·cases h
 | .ix a b,X,x,hX,h=>by
  unfold mE at h
  split at h
  ·simp only [Bool.and_eq_true] at h
   have ib:=sndE Z b X _ hX h.2
   exact Snd.plain (by exact de_ix hX.units (sndE Z a X _ hX h.1).v ib.v ib.sl) (fun _=>rfl) rfl (by intros;exact nofun)
  ·cases h
 | .sl a lo hi,X,x,hX,h=>by
  unfold mE at h
  split at h
  ·rename_i p l hh p1 p2
   simp only [Bool.and_eq_true] at h
   obtain ⟨⟨h1,h2⟩,h3⟩:=h
   have ia:=sndE Z a X _ hX h1
   have hl:PO X l (upO X.K fun env st k=>(if lo.isNon=true then fun k=>k none st else fun (k:Option Int→Sto→Prop)=>wpE Z lo env st fun d st'=>∃ i,d=.int i∧k (some i) st') k):=by
    cases l with
    | none=>simp only at h2;rw [h2];simp only [if_true];exact do_none
    | some l=>
     simp only [Bool.and_eq_true,Bool.not_eq_true'] at h2
     rw [h2.1]
     simp only [Bool.false_eq_true,if_false]
     exact do_some (sndE Z lo X _ hX h2.2).v
   have hh:PO X hh (upO X.K fun env st k=>(if hi.isNon=true then fun k=>k none st else fun (k:Option Int→Sto→Prop)=>wpE Z hi env st fun d st'=>∃ i,d=.int i∧k (some i) st') k):=by
    cases hh with
    | none=>simp only at h3;rw [h3];simp only [if_true];exact do_none
    | some l=>
     simp only [Bool.and_eq_true,Bool.not_eq_true'] at h3
     rw [h3.1]
     simp only [Bool.false_eq_true,if_false]
     exact do_some (sndE Z hi X _ hX h3.2).v
   exact Snd.plain (by exact de_sl ia.v hl hh) (fun _=>rfl) rfl (by intros;exact nofun)
  ·cases h
 | .dsel ks vs k,X,x,hX,h=>by
  unfold mE at h
  split at h
  ·rename_i keys xs dp q pos
   simp only [Bool.and_eq_true,beq_iff_eq,decide_eq_true_eq,Bool.not_eq_true'] at h
   obtain ⟨⟨⟨⟨⟨⟨h1,h2⟩,h3⟩,h4⟩,h5⟩,h6⟩,h7⟩:=h
   have ik:=sndE Z k X _ hX h3
   obtain ⟨d,e1,e2,e3⟩:=sndKs Z vs X ks _ _ dp hX h1 h2 h4
   have hne:∀ {l:List (Option Expr)},l.length=ks.length→l ≠ []:=fun e3 z=>by
    rw [z] at e3
    simp only [List.length_nil] at e3
    have:ks=[]:=List.eq_nil_of_length_eq_zero e3.symm
    rw [this] at h7
    cases h7
   exact Snd.plain (by exact de_dsel hX.units d e1 e2 (hne e3) e3 (by omega) h5 ik.v ik.sl) (fun _=>rfl) rfl (by intros;exact nofun)
  ·cases h
 | .len a,X,x,hX,h=>by
  unfold mE at h
  split at h
  ·simp only [Bool.and_eq_true,beq_iff_eq] at h
   obtain ⟨⟨e,h1⟩,h2⟩:=h
   subst e
   have ia:=sndE Z a X _ hX h2
   exact Snd.plain (by exact de_len (gl_of h1) (hX.blt' _) ia.v ia.st) (fun _=>rfl) rfl (by intros;exact nofun)
  ·cases h
 | .abs a,X,x,hX,h=>by
  unfold mE at h
  split at h
  ·simp only [Bool.and_eq_true,beq_iff_eq] at h
   obtain ⟨⟨e,h1⟩,h2⟩:=h
   subst e
   have ia:=sndE Z a X _ hX h2
   exact Snd.plain (by exact de_abs (gl_of h1) (hX.blt' _) ia.v ia.st) (fun _=>rfl) rfl (by intros;exact nofun)
  ·cases h
 | .toInt a,X,x,hX,h=>by
  unfold mE at h
  split at h
  ·simp only [Bool.and_eq_true,beq_iff_eq] at h
   obtain ⟨⟨e,h1⟩,h2⟩:=h
   subst e
   have ia:=sndE Z a X _ hX h2
   exact Snd.plain (by exact de_toInt (gl_of h1) (hX.blt' _) ia.v ia.st) (fun _=>rfl) rfl (by intros;exact nofun)
  ·cases h
 | .sum a,X,x,hX,h=>by
  unfold mE at h
  split at h
  ·simp only [Bool.and_eq_true,beq_iff_eq] at h
   obtain ⟨⟨e,h1⟩,h2⟩:=h
   subst e
   have ia:=sndE Z a X _ hX h2
   exact Snd.plain (by exact de_sum hX.calm (gl_of h1) (hX.blt' _) ia.v ia.st) (fun _=>rfl) rfl (by intros;exact nofun)
  ·cases h
 | .list a,X,x,hX,h=>by
  unfold mE at h
  split at h
  ·simp only [Bool.and_eq_true,beq_iff_eq] at h
   obtain ⟨⟨e,h1⟩,h2⟩:=h
   subst e
   have ia:=sndE Z a X _ hX h2
   exact Snd.plain (by exact de_list (gl_of h1) (hX.blt' _) ia.v ia.st) (fun _=>rfl) rfl (by intros;exact nofun)
  ·cases h
 | .tuple a,X,x,hX,h=>by
  unfold mE at h
  split at h
  ·simp only [Bool.and_eq_true,beq_iff_eq] at h
   obtain ⟨⟨e,h1⟩,h2⟩:=h
   subst e
   have ia:=sndE Z a X _ hX h2
   exact Snd.plain (by exact de_tuple (gl_of h1) (hX.blt' _) ia.v ia.st) (fun _=>rfl) rfl (by intros;exact nofun)
  ·cases h
 | .max a b,X,x,hX,h=>by
  unfold mE at h
  split at h
  ·simp only [Bool.and_eq_true,beq_iff_eq] at h
   obtain ⟨⟨⟨e,h1⟩,h2⟩,h3⟩:=h
   subst e
   have ia:=sndE Z a X _ hX h2
   have ib:=sndE Z b X _ hX h3
   exact Snd.plain (by exact de_max hX.calm (gl_of h1) (hX.blt' _) ia.v ib.v ia.st ib.st) (fun _=>rfl) rfl (by intros;exact nofun)
  ·cases h
 | .min a b,X,x,hX,h=>by
  unfold mE at h
  split at h
  ·simp only [Bool.and_eq_true,beq_iff_eq] at h
   obtain ⟨⟨⟨e,h1⟩,h2⟩,h3⟩:=h
   subst e
   have ia:=sndE Z a X _ hX h2
   have ib:=sndE Z b X _ hX h3
   exact Snd.plain (by exact de_min hX.calm (gl_of h1) (hX.blt' _) ia.v ib.v ia.st ib.st) (fun _=>rfl) rfl (by intros;exact nofun)
  ·cases h
 | .call f es,X,x,hX,h=>by
  unfold mE at h
  split at h
  ·rename_i g p y ys pos
   simp only [Bool.and_eq_true,beq_iff_eq] at h
   obtain ⟨⟨⟨⟨e,h1⟩,h2⟩,h3⟩,hnm⟩:=h
   have hnm:isM f=false:=by simpa using hnm
   subst e
   cases es with
   | nil=>simp [mEs] at h3
   | cons e0 er=>
    have h3':=h3
    unfold mEs at h3'
    simp only [Bool.and_eq_true] at h3'
    have i0:=sndE Z e0 X _ hX h3'.1
    have ir:=sndEs Z er X _ hX h3'.2
    have ia:PA X (y::ys) (upA X.K (Es.cons e0 er).len (wpEs Z (.cons e0 er))):=by exact da_cons i0.v ir.a i0.st
    refine Snd.plain ?_ (fun _=>rfl) rfl (by intros;exact nofun)
    by_cases hF:Z.F f=true
    ·obtain ⟨k,a,fd,ps,F,hr,hm,hk,hb,_⟩:=(hX.fns f hnm hF).ex
     exact PE.imp (de_call F hr (gl_of h1) hm hk hb ia (okN_of h2).1 i0.st (ir.pl _)) fun σ H Q ⟨env,st,Qd,hE,hS,ht,hq⟩=>⟨env,st,Qd,hE,hS,ht.2,hq⟩
    ·intro pins s σ H Q I q
     obtain ⟨env,st,Qd,hE,hS,ht,hq⟩:=q
     exact absurd ht.1 hF
  ·cases h
 | .gf f,X,x,hX,h=>by
  unfold mE at h
  split at h
  ·rename_i g p
   simp only [Bool.and_eq_true,beq_iff_eq] at h
   obtain ⟨⟨⟨e,h1⟩,h2⟩,hnm⟩:=h
   have hnm:isM f=false:=by simpa using hnm
   subst e
   refine Snd.plain ?_ (fun _=>rfl) rfl (by intros;exact nofun)
   by_cases hF:Z.F f=true
   ·obtain ⟨k,a,fd,ps,F,hr,hm,hk,hb,hn⟩:=(hX.fns f hnm hF).ex
    exact PE.imp (de_gf (gl_of h1) hm hn (okN_of h2).1) fun σ H Q ⟨env,st,Qd,hE,hS,ht,hq⟩=>⟨env,st,Qd,hE,hS,ht.2,hq⟩
   ·intro pins s σ H Q I q
    obtain ⟨env,st,Qd,hE,hS,ht,hq⟩:=q
    exact absurd ht.1 hF
  ·cases h
 | .gc g,X,x,hX,h=>by
  unfold mE at h
  split at h
  ·simp only [Bool.and_eq_true,beq_iff_eq] at h
   obtain ⟨⟨e,h1⟩,h2⟩:=h
   subst e
   refine Snd.plain ?_ (fun _=>rfl) rfl (by intros;exact nofun)
   cases hk:Z.Kc g with
   | none=>
    intro pins s σ H Q I q
    obtain ⟨env,st,Qd,hE,hS,⟨i,hi,_⟩,hq⟩:=q
    rw [hk] at hi;cases hi
   | some i=>
    obtain ⟨t,hm⟩:=hX.cst g i hk
    exact PE.imp (pe_glob (v:=.int i) (gl_of h1) hm ⟨t,rfl⟩ (okN_of h2).1) fun σ H Q q=>by
     obtain ⟨env,st,Qd,hE,hS,⟨i',hi,ht⟩,hq⟩:=q
     rw [hk] at hi;cases hi
     exact hq.here (.int _) hS ht
  ·cases h
 | .lam np Nl cp e,X,x,hX,h=>by
  unfold mE at h
  split at h
  ·split at h
   ·rename_i args body scope pos _ ps hp
    simp only [Bool.and_eq_true,Bool.not_eq_true'] at h
    obtain ⟨⟨⟨h1,h2⟩,h3⟩,h4⟩:=h
    obtain ⟨L,hc⟩:=hX.lam h1
    obtain ⟨a1,a2,a3,a4,a5⟩:=plain_args hp
    exact Snd.plain (by exact de_lam a3 L (nest_of h2 hc (hX.mtE e scope Nl body h4 h3) (fun name qual cl doc pm cv ct us hl=>a5 name qual _ scope cl doc pm cv ct us hl))) (fun _=>rfl) rfl (by intros;exact nofun)
   ·cases h
  ·cases h
 | .callv i es,X,x,hX,h=>by
  unfold mE at h
  split at h
  ·rename_i y p z zs pos
   simp only [Bool.and_eq_true,beq_iff_eq] at h
   obtain ⟨⟨⟨h0,h1⟩,h2⟩,h3⟩:=h
   cases es with
   | nil=>simp [mEs] at h3
   | cons e0 er=>
    have h3':=h3
    unfold mEs at h3'
    simp only [Bool.and_eq_true] at h3'
    have i0:=sndE Z e0 X _ hX h3'.1
    have ir:=sndEs Z er X _ hX h3'.2
    have ia:PA X (z::zs) (upA X.K (Es.cons e0 er).len (wpEs Z (.cons e0 er))):=by exact da_cons i0.v ir.a i0.st
    refine Snd.plain ?_ (fun _=>rfl) rfl (by intros;exact nofun)
    refine de_callv (Z:=Z) h0 (vis_of h1) (okN_of h2).1 (okN_of h2).2 (fun f fa hF hns=>?_) hX.clo ia i0.st (ir.pl _)
    obtain ⟨k,a,fd,ps,F,hr,hm,hk,hb,hn⟩:=(hX.fns f (hX.nom f fa hF hns) hF).ex
    rw [hn] at hns
    cases hns
    exact ⟨k,fd,ps,F,hr,hk,hb⟩
  ·cases h
 | .dict ks vs,X,x,hX,h=>by
  unfold mE at h
  split at h
  ·rename_i keys xs dp
   simp only [Bool.and_eq_true,beq_iff_eq,decide_eq_true_eq,Bool.not_eq_true'] at h
   obtain ⟨⟨⟨⟨⟨h1,h2⟩,h4⟩,h5⟩,h6⟩,h7⟩:=h
   obtain ⟨d,e1,e2,e3⟩:=sndKs Z vs X ks _ _ dp hX h1 h2 h4
   have hne:∀ {l:List (Option Expr)},l.length=ks.length→l ≠ []:=fun e3 z=>by
    rw [z] at e3
    simp only [List.length_nil] at e3
    have:ks=[]:=List.eq_nil_of_length_eq_zero e3.symm
    rw [this] at h7
    cases h7
   exact Snd.plain (by exact de_dict d e1 e2 (hne e3) e3 (by omega) h5) (fun _=>rfl) rfl (by intros;exact nofun)
  ·cases h
 | .cmpl ne a b,X,x,hX,h=>by
  unfold mE at h
  split at h
  ·simp only [Bool.and_eq_true,beq_iff_eq] at h
   obtain ⟨⟨e,h1⟩,h2⟩:=h
   have ia:=sndE Z a X _ hX h1
   have ib:=sndE Z b X _ hX h2
   refine ⟨by exact de_cmpl e hX.units ia.v ib.v ib.se,fun _=>?_,(fun _ _ _ z=>nomatch z),nofun,nofun,nofun⟩
   unfold wpT
   exact dt_cmpl e hX.units ia.v ib.v ib.se
  ·cases h
 | .app a b,X,x,hX,h=>by
  unfold mE at h
  split at h
  ·simp only [Bool.and_eq_true,beq_iff_eq] at h
   obtain ⟨⟨⟨⟨e,h1⟩,h2⟩,h3⟩,h4⟩:=h
   subst e
   have ib:=sndE Z b X _ hX h4
   exact Snd.plain (by exact de_app (sndE Z a X _ hX h3).v ib.v (nosup h2) ib.st (by simpa using h1)) (fun _=>rfl) rfl (by intros;exact nofun)
  ·cases h
 | .ext a b,X,x,hX,h=>by
  unfold mE at h
  split at h
  ·simp only [Bool.and_eq_true,beq_iff_eq] at h
   obtain ⟨⟨⟨⟨e,h1⟩,h2⟩,h3⟩,h4⟩:=h
   subst e
   have ib:=sndE Z b X _ hX h4
   exact Snd.plain (by exact de_ext (sndE Z a X _ hX h3).v ib.v (nosup h2) ib.st (by simpa using h1)) (fun _=>rfl) rfl (by intros;exact nofun)
  ·cases h
 | .popAt a b,X,x,hX,h=>by
  unfold mE at h
  split at h
  ·simp only [Bool.and_eq_true,beq_iff_eq] at h
   obtain ⟨⟨⟨⟨e,h1⟩,h2⟩,h3⟩,h4⟩:=h
   subst e
   have ib:=sndE Z b X _ hX h4
   exact Snd.plain (by exact de_popAt (sndE Z a X _ hX h3).v ib.v (nosup h2) ib.st (by simpa using h1)) (fun _=>rfl) rfl (by intros;exact nofun)
  ·cases h
 | .pop a,X,x,hX,h=>by
  unfold mE at h
  split at h
  ·simp only [Bool.and_eq_true,beq_iff_eq] at h
   obtain ⟨⟨⟨e,h1⟩,h2⟩,h3⟩:=h
   subst e
   exact Snd.plain (by exact de_pop (sndE Z a X _ hX h3).v (nosup h2) (by simpa using h1)) (fun _=>rfl) rfl (by intros;exact nofun)
  ·cases h
 | .lrl a,X,x,hX,h=>by
  unfold mE at h
  split at h
  ·simp only [Bool.and_eq_true,beq_iff_eq] at h
   obtain ⟨⟨⟨⟨e,e2⟩,h1⟩,h2⟩,h3⟩:=h
   subst e e2
   have ia:=sndE Z a X _ hX h3
   exact Snd.plain (by exact de_lrl hX.calm (gl_of h1) (hX.blt' _) (gl_of h2) (hX.blt' _) ia.v ia.st) (fun _=>rfl) rfl (by intros;exact nofun)
  ·cases h
 | .lrev a,X,x,hX,h=>by
  unfold mE at h
  split at h
  ·simp only [Bool.and_eq_true,beq_iff_eq] at h
   obtain ⟨⟨⟨e,h1⟩,h2⟩,h3⟩:=h
   subst e
   exact Snd.plain (by exact de_lrev (sndE Z a X _ hX h3).v (nosup h2) (by simpa using h1)) (fun _=>rfl) rfl (by intros;exact nofun)
  ·cases h
 | .lclr a,X,x,hX,h=>by
  unfold mE at h
  split at h
  ·simp only [Bool.and_eq_true,beq_iff_eq] at h
   obtain ⟨⟨⟨e,h1⟩,h2⟩,h3⟩:=h
   subst e
   exact Snd.plain (by exact de_lclr (sndE Z a X _ hX h3).v (nosup h2) (by simpa using h1)) (fun _=>rfl) rfl (by intros;exact nofun)
  ·cases h
 | .index a b,X,x,hX,h=>by
  unfold mE at h
  split at h
  ·simp only [Bool.and_eq_true,beq_iff_eq] at h
   obtain ⟨⟨⟨⟨e,h1⟩,h2⟩,h3⟩,h4⟩:=h
   subst e
   have ib:=sndE Z b X _ hX h4
   exact Snd.plain (by exact de_index hX.units (sndE Z a X _ hX h3).v ib.v (nosup h2) ib.st (by simpa using h1)) (fun _=>rfl) rfl (by intros;exact nofun)
  ·cases h
 | .comp Nc fr k t it c e,X,x,hX,h=>by
  unfold mE at h
  split at h
  ·rename_i el tg itx ifs scope pos
   simp only [Bool.and_eq_true] at h
   obtain ⟨⟨⟨⟨h1,h2⟩,h3⟩,h4⟩,h5⟩:=h
   have Sc:=compScope h1
   have hi:=sndIt Z it X tg itx hX h2
   have hg:∀ C fp pins s H,PG (X.comp scope Nc C fp pins s H) tg (upG X.K t):=fun C fp pins s H=>sndTg (X:=X.comp scope Nc C fp pins s H) (ow:=false) hX.calm Sc.nd (fun z=>nomatch z) h3
   have he:∀ C fp pins s H,PE (X.comp scope Nc C fp pins s H) el (up X.K (wpE Z e)):=fun C fp pins s H=>(sndE Z e (X.comp scope Nc C fp pins s H) el (hX.comp (comp_nolam h1) Sc C fp pins s H) h4).v
   have ht:∀ C fp pins s H,PCs (X.comp scope Nc C fp pins s H) ifs (upB X.K (if c.isNon=true then fun _ st Q=>Q true st else fun env st Q=>wpE Z c env st fun d st'=>∃ b,d=.bl b∧Q b st')):=fun C fp pins s H=>by
    cases ifs with
    | nil=>
     simp only at h5
     rw [h5]
     simp only [if_true]
     intro pins' s' σ' H' Q' I' q
     obtain ⟨env,st,Qd,hE,hS,ht,hq⟩:=q
     exact pcs_nil pins' s' σ' H' Q' I' (hq true H' st Ev.refl hS ht)
    | cons cx rest=>
     cases rest with
     | cons _ _=>cases h5
     | nil=>
      simp only [Bool.and_eq_true,Bool.not_eq_true'] at h5
      rw [h5.1.1]
      simp only [Bool.false_eq_true,if_false]
      exact pcs_one ((sndE Z c (X.comp scope Nc C fp pins s H) cx (hX.comp (comp_nolam h1) Sc C fp pins s H) h5.2).t h5.1.2)
   refine Snd.plain ?_ (fun _=>rfl) rfl (by intros;exact nofun)
   exact PE.imp (pe_comp hX.calm Sc hi hg ht he (foldS h2)) fun σ H Q q=>comp_core q
  ·cases h
theorem sndEs (Z:Sg):∀ (es:Es) (X:Cx) (xs:List Expr),XOk Z X→mEs es X.env.scope X.N xs=true→SndA Z X es xs
 | .nil,X,xs,hX,h=>by
  unfold mEs at h
  have e:xs=[]:=by simpa using h
  subst e
  exact ⟨by exact da_nil,fun _=>rfl⟩
 | .cons e r,X,xs,hX,h=>by
  unfold mEs at h
  split at h
  ·simp only [Bool.and_eq_true] at h
   have i0:=sndE Z e X _ hX h.1
   have ir:=sndEs Z r X _ hX h.2
   refine ⟨by exact da_cons i0.v ir.a i0.st,fun pos=>?_⟩
   rw [starEach_plain i0.st]
   show (false || (backTo pos (starEach _ X.env)).any (·.1))=false
   rw [ir.pl pos];rfl
  ·cases h
theorem sndKs (Z:Sg):∀ (vs:Es) (X:Cx) (ks:List Str) (keys:List (Option Expr)) (xs:List Expr) (dp:Pos),XOk Z X→mKs ks keys=true→mEs vs X.env.scope X.N xs=true→ks.length=vs.len →
  DPs X dp keys xs ks (wpEs Z vs)∧keys.all (·.isSome)=true∧keys.length=xs.length∧keys.length=ks.length
 | .nil,X,ks,keys,xs,dp,hX,h1,h2,h3=>by
  unfold mEs at h2
  have e:xs=[]:=by simpa using h2
  subst e
  have e2:ks=[]:=List.eq_nil_of_length_eq_zero h3
  subst e2
  cases keys with
  | nil=>exact ⟨by exact dp_nil,rfl,rfl,rfl⟩
  | cons _ _=>cases h1
 | .cons e r,X,ks,keys,xs,dp,hX,h1,h2,h3=>by
  unfold mEs at h2
  split at h2
  ·simp only [Bool.and_eq_true] at h2
   cases ks with
   | nil=>simp [Es.len] at h3
   | cons k ks=>
    cases keys with
    | nil=>cases h1
    | cons kx keys=>
     cases kx with
     | none=>cases h1
     | some kx=>
      cases kx <;> first | cases h1 | skip
      rename_i c _ _
      cases c <;> first | cases h1 | skip
      simp only [mKs,Bool.and_eq_true,beq_iff_eq] at h1
      obtain ⟨e1,h1⟩:=h1
      subst e1
      obtain ⟨d,a1,a2,a3⟩:=sndKs Z r X ks keys _ dp hX h1 h2.2 (by simpa [Es.len] using h3)
      exact ⟨by exact dp_cons (sndE Z e X _ hX h2.1).v d,by simpa using a1,by simp [a2],by simp [a3]⟩
  ·cases h2
theorem sndIt (Z:Sg):∀ (it:It) (X:Cx) (tg x:Expr),XOk Z X→mIt it X.env.scope X.N tg x=true→PI X tg x (upI X.K (wpIt Z it))
 | .seq e,X,tg,x,hX,h=>by
  unfold mIt at h
  exact di_seq (sndE Z e X x hX h).v
 | .rng a,X,tg,x,hX,h=>by
  unfold mIt at h
  split at h
  ·simp only [Bool.and_eq_true,beq_iff_eq] at h
   obtain ⟨⟨e,h1⟩,h2⟩:=h
   subst e
   have ia:=sndE Z a X _ hX h2
   exact di_rng (gl_of h1) (hX.blt' _) ia.v ia.st
  ·cases h
 | .rng2 a b,X,tg,x,hX,h=>by
  unfold mIt at h
  split at h
  ·simp only [Bool.and_eq_true,beq_iff_eq] at h
   obtain ⟨⟨⟨e,h1⟩,h2⟩,h3⟩:=h
   subst e
   have ia:=sndE Z a X _ hX h2
   have ib:=sndE Z b X _ hX h3
   exact di_rng2 (gl_of h1) (hX.blt' _) ia.v ib.v ia.st ib.st
  ·cases h
 | .enumr e,X,tg,x,hX,h=>by
  unfold mIt at h
  simp only [Bool.and_eq_true] at h
  obtain ⟨h0,h⟩:=h
  split at h
  ·simp only [Bool.and_eq_true,beq_iff_eq] at h
   obtain ⟨⟨⟨⟨e',e2⟩,h1⟩,h3⟩,h2⟩:=h
   subst e'
   subst e2
   have ia:=sndE Z e X _ hX h2
   cases tg <;> first | cases h0 | skip
   exact di_enumr (gl_of h1) (hX.blt' _) (gl_of h3) (hX.blt' _) ia.v ia.st
  ·cases h
 | .enum e,X,tg,x,hX,h=>by
  unfold mIt at h
  simp only [Bool.and_eq_true] at h
  obtain ⟨h0,h⟩:=h
  split at h
  ·simp only [Bool.and_eq_true,beq_iff_eq] at h
   obtain ⟨⟨e',h1⟩,h2⟩:=h
   subst e'
   have ia:=sndE Z e X _ hX h2
   cases tg <;> first | cases h0 | skip
   exact di_enum (gl_of h1) (hX.blt' _) ia.v ia.st
  ·cases h
 | .zip a b,X,tg,x,hX,h=>by
  unfold mIt at h
  simp only [Bool.and_eq_true] at h
  obtain ⟨h0,h⟩:=h
  split at h
  ·simp only [Bool.and_eq_true,beq_iff_eq] at h
   obtain ⟨⟨⟨e',h1⟩,h2⟩,h3⟩:=h
   subst e'
   have ia:=sndE Z a X _ hX h2
   have ib:=sndE Z b X _ hX h3
   cases tg <;> first | cases h0 | skip
   exact di_zip (gl_of h1) (hX.blt' _) ia.v ib.v ia.st ib.st
  ·cases h
 | .rev e,X,tg,x,hX,h=>by
  unfold mIt at h
  split at h
  ·simp only [Bool.and_eq_true,beq_iff_eq] at h
   obtain ⟨⟨e',h1⟩,h2⟩:=h
   subst e'
   have ia:=sndE Z e X _ hX h2
   exact di_rev (gl_of h1) (hX.blt' _) ia.v ia.st
  ·cases h
end
end Ek
set_option Elab.async false
set_option linter.all false
set_option maxRecDepth 100000
set_option maxHeartbeats 4000000
namespace Ek
open PySem PySem.Spec PyProof.Rows L2
variable [Tbs]
noncomputable def noTup:Expr→Bool
 | .Tuple ..=>false | _=>true
mutual
noncomputable def mS:S→Scope→List Str→Stmt→Bool
 | .set i e,sc,N,s=>match s with | .Assign [.Name y _] x _=>(N[i]? == some y) && locb sc y && mE e sc N x && !(N.contains (capMark y)) | _=>false
 | .put o i v,sc,N,s=>match s with | .Assign [.Subscript p q _] x _=>mE o sc N p && mE i sc N q && mE v sc N x && noCmp x | _=>false
 | .unp is e,sc,N,s=>match s with | .Assign [.Tuple es k p] x _=>mTg true (.tup is) sc N (.Tuple es k p) && mE e sc N x && noCmp x && noTup x | _=>false
 | .ex e,sc,N,s=>match s with | .Expr x _=>mE e sc N x && noCmp x | _=>false
 | .iff c a b,sc,N,s=>match s with | .If x p q _=>mE c sc N x && noIf x && mSs a sc N p && mSs b sc N q | _=>false
 | .ret e,sc,N,s=>match s with | .Return (some x) _=>mE e sc N x | _=>false
 | .retN,_,_,s=>match s with | .Return none _=>true | _=>false
 | .for t it b,sc,N,s=>match s with | .For tg x p [] _=>mTg true t sc N tg && mIt it sc N tg x && mSs b sc N p | _=>false
 | .while c b,sc,N,s=>match s with | .While x p [] _=>mE c sc N x && noIf x && mSs b sc N p | _=>false
 | .cont,_,_,s=>match s with | .Continue _=>true | _=>false
 | .dead,_,_,_=>true
 | .dfn i np Nl cp b,sc,N,s=>match s with
  | .FunctionDef name args body [] none [] scope none bind _=>(match plainArgs args with | some ps=>(name == bind) && (N[i]? == some name) && locb sc name && !(N.contains (capMark name)) && N.contains lamMark && nestB sc N scope Nl ps np cp && !(Nl.contains lamMark) && mSs b scope Nl body | none=>false)
  | _=>false
 | .pass,_,_,s=>match s with | .Pass _=>true | _=>false
noncomputable def mSs:Ss→Scope→List Str→List Stmt→Bool
 | .nil,_,_,l=>l.isEmpty
 | .cons s r,sc,N,l=>match l with | x::xs=>mS s sc N x && mSs r sc N xs | []=>false
end
noncomputable def mFB (b:Ss) (sc:Scope) (N:List Str) (fb:FuncBody):Prop:=N.contains lamMark=false∧match fb with
 | .stmts l=>mSs b sc N l=true
 | .expr x=>∃ e,b=.cons (.ret e) .nil∧mE e sc N x=true
noncomputable abbrev HF (X:Cx):Prop:=∀ y,Loc X.env.scope y→X.N.contains (capMark y)=false→X.fn y=true ∨ X.env.scope.names.lookup y=some .local
theorem mE_sc {e:E} {sc:Scope} {N:List Str} {el:Expr} {gs:List Comprehension} {scope:Scope} {p:Pos}:mE e sc N (.SetComp el gs scope p)=false:=by cases e <;> rfl
theorem mE_dc {e:E} {sc:Scope} {N:List Str} {a b:Expr} {gs:List Comprehension} {scope:Scope} {p:Pos}:mE e sc N (.DictComp a b gs scope p)=false:=by cases e <;> rfl
theorem mE_lc {e:E} {sc:Scope} {N:List Str} {el:Expr} {gs:List Comprehension} {scope:Scope} {p:Pos} (h:mE e sc N (.ListComp el gs scope p)=true):∃ Nc fr k t it c e',e=.comp Nc fr k t it c e':=by
 cases e <;> first | exact ⟨_,_,_,_,_,_,_,rfl⟩ | exact absurd h Bool.false_ne_true
theorem swaps_no {x:Expr} {t:Option Expr} {n:Nat} {env:Env} (h:noCmp x=true):swapsWith x t n env=pure false:=by
 cases x <;> first | rfl | cases h
theorem sole_no {x t:Expr} {n:Nat} {env:Env} (h:noCmp x=true):swapsWithSole [t] x n env=pure false:=by
 rw [swapsWithSole];exact swaps_no h
theorem swaps_comp {el:Expr} {gs:List Comprehension} {scope:Scope} {p py:Pos} {y:Str} {n:Nat} {env:Env}:∃ b,swapsWith (.ListComp el gs scope p) (some (.Name y py)) n env=pure b:=⟨_,rfl⟩
mutual
theorem sndS (Z:Sg) (hm:∀ (b:Ss) (sc:Scope) (N:List Str) (l:List Stmt),mSs b sc N l=true→N.contains lamMark=false→Tbs.mt b sc N (.stmts l)):∀ (s:S) (X:Cx) (x:Stmt),XOk Z X→HF X→mS s X.env.scope X.N x=true→PS X x (upS X.K (wpS Z s))
 | .set i e,X,x,hX,hf,h=>by
  unfold mS at h
  split at h
  ·rename_i y py v pos
   simp only [Bool.and_eq_true,beq_iff_eq,Bool.not_eq_true'] at h
   obtain ⟨⟨⟨h1,h2⟩,h3⟩,h9⟩:=h
   have ie:=sndE Z e X v hX h3
   by_cases hc:noCmp v=true
   ·exact ds_set hX.nd h1 (loc_of h2) ie.v (swaps_no hc) (hf y (loc_of h2) h9)
   ·cases v with
    | ListComp el gs scope p=>
     obtain ⟨b,hb⟩:=swaps_comp (el:=el) (gs:=gs) (scope:=scope) (p:=p) (py:=py) (y:=y) (n:=pos.line) (env:=X.env)
     cases b with
     | false=>exact ds_set hX.nd h1 (loc_of h2) ie.v hb (hf y (loc_of h2) h9)
     | true=>
      obtain ⟨Nc,fr,k,t,it,c,e,rfl⟩:=mE_lc h3
      unfold mE at h3
      split at h3
      ·rename_i heq
       cases heq
       rename_i tg itx ifs
       have h4:=h3
       simp only [Bool.and_eq_true] at h4
       obtain ⟨⟨⟨⟨g1,g2⟩,g3⟩,g4⟩,g5⟩:=h4
       have Sc:=compScope g1
       have hi:=sndIt Z it X tg itx hX g2
       have hg:∀ C fp pins s H,PG (X.comp scope Nc C fp pins s H) tg (upG X.K t):=fun C fp pins s H=>sndTg (X:=X.comp scope Nc C fp pins s H) (ow:=false) hX.calm Sc.nd (fun z=>nomatch z) g3
       have he:∀ C fp pins s H,PE (X.comp scope Nc C fp pins s H) el (up X.K (wpE Z e)):=fun C fp pins s H=>(sndE Z e (X.comp scope Nc C fp pins s H) el (hX.comp (comp_nolam g1) Sc C fp pins s H) g4).v
       have ht:∀ C fp pins s H,PCs (X.comp scope Nc C fp pins s H) ifs (upB X.K (if c.isNon=true then fun _ st Q=>Q true st else fun env st Q=>wpE Z c env st fun d st'=>∃ b,d=.bl b∧Q b st')):=fun C fp pins s H=>by
        cases ifs with
        | nil=>
         simp only at g5
         rw [g5]
         simp only [if_true]
         intro pins' s' σ' H' Q' I' q
         obtain ⟨env,st,Qd,hE,hS,ht,hq⟩:=q
         exact pcs_nil pins' s' σ' H' Q' I' (hq true H' st Ev.refl hS ht)
        | cons cx rest=>
         cases rest with
         | cons _ _=>cases g5
         | nil=>
          simp only [Bool.and_eq_true,Bool.not_eq_true'] at g5
          rw [g5.1.1]
          simp only [Bool.false_eq_true,if_false]
          exact pcs_one ((sndE Z c (X.comp scope Nc C fp pins s H) cx (hX.comp (comp_nolam g1) Sc C fp pins s H) g5.2).t g5.1.2)
       refine PS.imp (ps_setComp hX.calm hX.nd h1 (loc_of h2) (hf y (loc_of h2) h9) Sc hi hg ht he hb (foldS g2)) fun F σ H q=>?_
       obtain ⟨env,st,Fd,hE,hS,ht',hq⟩:=q
       exact comp_core ⟨env,st,(fun d st'=>Fd.nx (env.set i (some d)) st'),hE,hS,ht',fun v d H' st' ev is rs q=>hq.nx _ _ H' st' ev ((hE.mono (ev.tk hS)).set is i) rs q⟩
      ·cases h3
    | SetComp el gs scope p=>rw [mE_sc] at h3;cases h3
    | DictComp a b gs scope p=>rw [mE_dc] at h3;cases h3
    | _=>exact absurd rfl hc
  ·cases h
 | .put o i v,X,x,hX,hf,h=>by
  unfold mS at h
  split at h
  ·rename_i p q ps y pos
   simp only [Bool.and_eq_true] at h
   obtain ⟨⟨⟨h1,h2⟩,h3⟩,h4⟩:=h
   have iq:=sndE Z i X q hX h2
   refine ds_put (sndE Z v X y hX h3).v (sndE Z o X p hX h1).v iq.v (fun w=>?_) (sole_no h4) ?_
   ·cases q <;> first | rfl | exact absurd rfl (iq.sl _ _ _ _)
   ·rfl
  ·cases h
 | .unp is e,X,x,hX,hf,h=>by
  unfold mS at h
  split at h
  ·rename_i es k p y pos
   simp only [Bool.and_eq_true] at h
   obtain ⟨⟨⟨h1,h2⟩,h3⟩,h4⟩:=h
   refine ds_unp (sndE Z e X y hX h2).v (sndTg hX.calm hX.nd (fun _=>hf) h1) (sole_no h3) ?_ rfl
   cases y <;> first | rfl | cases h4
  ·cases h
 | .ex e,X,x,hX,hf,h=>by
  unfold mS at h
  split at h
  ·simp only [Bool.and_eq_true] at h
   exact ds_ex (sndE Z e X _ hX h.1).v (swaps_no h.2)
  ·cases h
 | .iff c a b,X,x,hX,hf,h=>by
  unfold mS at h
  split at h
  ·simp only [Bool.and_eq_true] at h
   obtain ⟨⟨⟨h1,h2⟩,h3⟩,h4⟩:=h
   exact ds_if ((sndE Z c X _ hX h1).t h2) (sndSs Z hm a X _ hX hf h3) (sndSs Z hm b X _ hX hf h4)
  ·cases h
 | .ret e,X,x,hX,hf,h=>by
  unfold mS at h
  split at h
  ·exact ds_ret (sndE Z e X _ hX h).v
  ·cases h
 | .retN,X,x,hX,hf,h=>by
  unfold mS at h
  split at h
  ·exact ds_retN
  ·cases h
 | .for t it b,X,x,hX,hf,h=>by
  unfold mS at h
  split at h
  ·simp only [Bool.and_eq_true] at h
   obtain ⟨⟨h1,h2⟩,h3⟩:=h
   exact ds_for hX.pass hX.calm (sndIt Z it X _ _ hX h2) (sndTg hX.calm hX.nd (fun _=>hf) h1) (sndSs Z hm b X _ hX hf h3) (foldS h2)
  ·cases h
 | .while c b,X,x,hX,hf,h=>by
  unfold mS at h
  split at h
  ·simp only [Bool.and_eq_true] at h
   obtain ⟨⟨h1,h2⟩,h3⟩:=h
   exact ds_while hX.pass ((sndE Z c X _ hX h1).t h2) (sndSs Z hm b X _ hX hf h3)
  ·cases h
 | .cont,X,x,hX,hf,h=>by
  unfold mS at h
  split at h
  ·exact ds_cont
  ·cases h
 | .dfn i np Nl cp b,X,x,hX,hf,h=>by
  unfold mS at h
  split at h
  ·split at h
   ·rename_i name args body scope bind pos _ ps hp
    simp only [Bool.and_eq_true,beq_iff_eq,Bool.not_eq_true'] at h
    obtain ⟨⟨⟨⟨⟨⟨⟨h0,h1⟩,h2⟩,h3⟩,h4⟩,h5⟩,h6⟩,h7⟩:=h
    subst h0
    obtain ⟨L,hc⟩:=hX.lam h4
    obtain ⟨a1,a2,a3,a4,a5⟩:=plain_args hp
    exact ds_dfn hX.nd h1 (loc_of h2) (hf _ (loc_of h2) h3) a1 a2 a4 L (nest_of h5 hc (hm b scope Nl body h7 h6) (fun name qual cl doc pm cv ct us hl=>a5 name qual _ scope cl doc pm cv ct us hl))
   ·cases h
  ·cases h
 | .dead,X,x,hX,hf,h=>by
  intro pins s σ H F I q
  obtain ⟨env,st,Fd,hE,hS,ht,hq⟩:=q
  exact ht.elim
 | .pass,X,x,hX,hf,h=>by
  unfold mS at h
  split at h
  ·exact ds_pass
  ·cases h
theorem sndSs (Z:Sg) (hm:∀ (b:Ss) (sc:Scope) (N:List Str) (l:List Stmt),mSs b sc N l=true→N.contains lamMark=false→Tbs.mt b sc N (.stmts l)):∀ (l:Ss) (X:Cx) (xs:List Stmt),XOk Z X→HF X→mSs l X.env.scope X.N xs=true→PSs X xs (upS X.K (wpSs Z l))
 | .nil,X,xs,hX,hf,h=>by
  unfold mSs at h
  have e:xs=[]:=by simpa using h
  subst e
  exact ds_nil
 | .cons s r,X,xs,hX,hf,h=>by
  unfold mSs at h
  split at h
  ·simp only [Bool.and_eq_true] at h
   rw [wpSs]
   exact ds_cons (sndS Z hm s X _ hX hf h.1) (sndSs Z hm r X _ hX hf h.2)
  ·cases h
end
end Ek
set_option Elab.async false
set_option linter.all false
set_option maxRecDepth 100000
set_option maxHeartbeats 4000000
namespace Ek
open PySem PySem.Spec PyProof.Rows L2
variable [Tbs]
structure Stat (st:Stmt) (d:Def) (ps:List Str) (x f:Str):Prop where
 sc:FnScope d.N ps (defScope st)
 np:ps.length=d.np
 body:mSs d.body (defScope st) d.N (defBody st)=true
 bind:∀ (kV doc pm:Value) (an:Option Addr) (cdv ct:Value) (us:List Value),us.length=ps.length→bindArgs (PySem.W.fnOf x f (defArgs st) (defBody st) (defScope st) .none kV doc pm an cdv ct) ⟨us,[]⟩=pure (ps.zip us)
structure DefAt (K:PySem.W.Frag) (f:Str) (d:Def) (a:Addr) (fd:FuncData) (ps:List Str):Prop where
 ex:∃ (st:Stmt) (x:Str),Fun K x f st a fd∧Stat st d ps x f
 lam:d.N.contains lamMark=true→∃ c P,fd.code=.ref c∧PySem.W.codeHdIn K c P=true∧P ∈ Tbs.ps
structure DefOk (K:PySem.W.Frag) (mg:Str→Option Value) (f:Str) (d:Def):Prop where
 ex:∃ (a:Addr) (fd:FuncData) (ps:List Str),DefAt K f d a fd ps∧mg f=some (.ref a)∧PySem.W.nsIn K mainGlobals f=some (some (.ref a))
structure MthOk (K:PySem.W.Frag) (mg:Str→Option Value) (c m:Str) (d:Def):Prop where
 ex:∃ (Ca a:Addr) (fd:FuncData) (ps:List Str),DefAt K (mkey c m) d a fd ps∧PySem.W.nsIn K mainGlobals c=some (some (.ref Ca))∧mg c=some (.ref Ca)∧Cls K Ca∧Meth K Ca m a∧(m="__init__"→Mk K Ca a)
 nom:PySem.W.nsIn K mainGlobals (mkey c m)=some none
theorem key_of:∀ {a b a' b':List Nat},(46:Nat) ∉ a'→(46:Nat) ∉ b'→a++46::b=a'++46::b'→a=a'∧b=b'
 | [],b,[],b',_,_,h=>⟨rfl,by simpa using h⟩
 | [],b,x::a',b',h1,_,h=>by
  simp only [List.nil_append,List.cons_append,List.cons.injEq] at h
  exact absurd (h.1 ▸ List.mem_cons_self) h1
 | x::a,b,[],b',_,h2,h=>by
  simp only [List.nil_append,List.cons_append,List.cons.injEq] at h
  exact absurd (h.2 ▸ List.mem_append_right _ List.mem_cons_self) h2
 | x::a,b,y::a',b',h1,h2,h=>by
  simp only [List.cons_append,List.cons.injEq] at h
  obtain ⟨e,f⟩:=key_of (fun z=>h1 (List.mem_cons_of_mem _ z)) h2 h.2
  exact ⟨by rw [h.1,e],f⟩
theorem def_ok {K:PySem.W.Frag} {mg:Str→Option Value} {h:Heap} {f:Str} {d:Def} {st:Stmt} {ps:List Str} {fa:Addr} {od an:Option Addr} {sl:Array (Option Value)} {oc kV dc pm cd ct:Value} (X:K.In h) (G:h.Ns mainGlobals mg) (S:Stat st d ps f f)
  (a1:PySem.W.nsIn K mainGlobals f=some (some (.ref fa))) (l1:K.lookup fa=some ⟨oc,od,.func (PySem.W.fnOf f f (defArgs st) (defBody st) (defScope st) .none kV dc pm an cd ct),sl⟩) (c1:PySem.W.codeIn K cd f=true) (k1:PySem.W.keepIn K (.ref fa)=true)
  (m1:d.N.contains lamMark=true→∃ c P,cd=.ref c∧PySem.W.codeHdIn K c P=true∧P ∈ Tbs.ps:=by exact fun h=>absurd h (by decide +kernel)):DefOk K mg f d:=
 ⟨fa,_,ps,⟨⟨st,f,fun_mk l1 c1 k1,S⟩,m1⟩,PySem.W.mg_of X G a1,a1⟩
theorem Fun.bind0 {K:PySem.W.Frag} {x f:Str} {st:Stmt} {a:Addr} {fd:FuncData} {d:Def} {ps:List Str} (F:Fun K x f st a fd) (S:Stat st d ps x f):∀ us:List Value,us.length=ps.length→bindArgs fd ⟨us,[]⟩=pure (ps.zip us):=by
 obtain ⟨oc,od,kV,doc,pm,an,cdv,ct,osl,rfl,lk,hcd⟩:=F.ex
 exact S.bind kV doc pm an cdv ct
theorem DefAt.binds {K:PySem.W.Frag} {f:Str} {d:Def} {a:Addr} {fd:FuncData} {ps:List Str} (D:DefAt K f d a fd ps):Binds K fd ps []:=by
 obtain ⟨st,x,F,S⟩:=D.ex
 exact .all (Fun.bind0 F S)
theorem DefAt.kp {K:PySem.W.Frag} {f:Str} {d:Def} {a:Addr} {fd:FuncData} {ps:List Str} (D:DefAt K f d a fd ps):PySem.W.keepIn K (.ref a)=true:=by
 obtain ⟨st,x,F,S⟩:=D.ex
 exact F.kp
structure AllOk (Pr:Program) (w:World) (K:PySem.W.Frag) (mg:Str→Option Value) (P:Prog) (G:Gs):Prop where
 fns:∀ f d,P f=some d→isM f=false→DefOk K mg f d
 mts:∀ f d,P f=some d→isM f=true→∃ c m,f=mkey c m∧isM c=false∧isM m=false∧MthOk K mg c m d
 cls:∀ f c Ca,PySem.W.nsIn K mainGlobals c=some (some (.ref Ca))→f ∈ G.cls c→Cls K Ca∧NoAttr K Ca f
 blt:∀ b ∈ bltNames,mg b=none
 tabs:∀ g,G.tab g ≠ []→GTab Pr w K mg g (G.tab g)
 cst:∀ g i,G.cst g=some i→∃ t,mg g=some (.int i t)
theorem mkey_isM {c m:Str}:isM (mkey c m)=true:=by
 unfold isM mkey
 simp
theorem mkey_inj {c m c' m':Str} (h1:isM c'=false) (h2:isM m'=false) (h:mkey c m=mkey c' m'):c=c'∧m=m':=by
 unfold isM at h1 h2
 unfold mkey at h
 have h':=congrArg (fun s:Str=>s.cps.toList) h
 simp only [Array.toList_append,List.append_assoc,List.singleton_append] at h'
 have e:=key_of (by simpa using h1) (by simpa using h2) h'
 exact ⟨by cases c;cases c';simpa using e.1,by cases m;cases m';simpa using e.2⟩
theorem AllOk.mth {Pr:Program} {w:World} {K:PySem.W.Frag} {mg:Str→Option Value} {P:Prog} {G:Gs} (h:AllOk Pr w K mg P G) {c m:Str} {d:Def} (e:P (mkey c m)=some d):MthOk K mg c m d:=by
 obtain ⟨c',m',e',h1,h2,M⟩:=h.mts _ d e mkey_isM
 obtain ⟨rfl,rfl⟩:=mkey_inj h1 h2 e'
 exact M
theorem start_env {K:PySem.W.Frag} {H:Hp} {d:Def} {ds:List D} {vs:List V} (r:IsDs K H ds vs):RelE K H (startD d ds) (L2.start d.N vs):=start_envG r
theorem inv_refn {X:Cx} {pins:List (Addr × Obj)} {σ:L2.St} {H:Hp} {s:Shared} (I:L2.Inv X pins σ H s) (hfn:∀ x,X.fn x=true) (g k:Str→Bool) (e:Value→Shared→Prop):L2.Inv { X with fn:=g,ow:=k,xe:=e } pins σ H s:=
 ⟨⟨I.ok.mod,I.ok.kind,I.ok.glob,I.ok.blt,I.ok.above,I.ok.inj,I.ok.has,fun x c _ h=>I.ok.cab x c (.inl (hfn x)) h,I.ok.hd,I.ok.frames,I.ok.stk,I.ok.exf,I.ok.bs,I.ok.bsz,I.ok.noex,I.ok.exfs,I.ok.funs,I.ok.frf⟩,I.os,I.bare,I.base,I.loc,I.cell,I.free,
  fun x c h=>.inl ((I.freeC x c h).resolve_right fun z=>by rw [hfn x] at z;exact absurd z.1 (by decide)),I.pin,I.hok,I.len⟩
noncomputable def cxF (P:Program) (w:World) (K:PySem.W.Frag) (mg:Str→Option Value) (base:Heap) (N:List Str) (qual:Str) (scope:Scope) (f:Addr) (cd:Value) (A:Around) (outer:List Env) (s:Shared) (H:Hp):Cx:=
 { cxOf CX0 P w K mg base N qual scope f cd A outer s H E0 with fn:=fun y=>!(N.contains (capMark y)),ow:=fun _=>true,xe:=fun _ _=>False }
theorem fn_ofF {P:Program} {w:World} {K:PySem.W.Frag} {mg:Str→Option Value} {base:Heap} {k:Nat} {f:Addr} {x qual:Str} {st:Stmt} {fd:FuncData} {N ps:List Str} {sp:Sp} (F:Fun K x qual st f fd) (S:FnScope N ps (defScope st))
  (len:∀ vs H Q E,sp vs H Q E→vs.length=ps.length)
  (hbody:∀ (A:Around) (outer:List Env) (s:Shared) (H:Hp) (vs:List V) (Q:VK) (E:XK),Room k (A.deeper (envOfC qual (defScope st) s.heap.objs.size f fd.code))→sp vs H Q E →
   ∃ t,PSs (cxF P w K mg base N qual (defScope st) f fd.code A outer s H) (defBody st) t∧t { nx:=fun _ H'=>Q .non H',rt:=Q } (L2.start N vs) H) :
  FnOk P w K mg base CX0 (k + 1) f fd ps sp:=by
 obtain ⟨oc,od,kV,doc,pm,an,cdv,ct,osl,rfl,lk,hcd⟩:=F.ex
 refine ⟨len,fun A outer s H args us vs Q E hr e0 hb r hsp=>?_⟩
 have hl:=len _ _ _ _ hsp
 have KX:K.In s.heap:=e0.mod.kin.keeps fun b o e=>(e0.bs b o e).1
 have lim:s.heap.NoLimit:=e0.mod.nolimit.keeps fun b o e=>(e0.bs b o e).1
 have hkind:∀ y ∈ ps.zip us,(defScope st).names.lookup y.1=some .local ∨ ((defScope st).names.lookup y.1=some .cell∧((cellsFrom (s.heap.objs.size + 1) (defScope st).names []).lookup y.1).isSome=true):=fun ⟨n,v⟩ hy=>by
  rcases S.par n (List.of_mem_zip hy).1 with q | q
  ·exact .inl q
  ·exact .inr ⟨q,PySem.W.cellsFrom_some _ _ _ (.inl q)⟩
 refine codeAny_call_function hr.depth (KX _ _ lk) rfl S.co S.gen rfl (PySem.W.codeRec_of KX hcd) (hb _ _ _ _ ?_)
 refine wpAny_newFunctionEnv_cells S.kind hkind fun env he s1 x=>?_
 subst he
 refine ⟨lim.keeps x.toInCall.keep,codeAny_func ?_⟩
 obtain ⟨t,ht,hq⟩:=hbody A outer s H vs Q E (hr.deeper _) hsp
 have I0:Inv (cxOf CX0 P w K mg base N qual (defScope st) f cdv A outer s H E0) [] (L2.start N vs) H s1:=inv_start S hr.hd e0 hl r x
 have I:Inv (cxF P w K mg base N qual (defScope st) f cdv A outer s H) [] (L2.start N vs) H s1:=inv_refn I0 (fun _=>rfl) _ _ _
 refine wpAny_mono (ht [] s1 (L2.start N vs) H _ I hq) (fun fl s' hs=>?_) fun e s' hs=>False.elim hs
 have fin:∀ {σ':L2.St} {H':Hp} {v:V} {u:Value},Inv (cxF P w K mg base N qual (defScope st) f cdv A outer s H) [] σ' H' s'→RelV v u→Q v H'→CE outer P w H s Q u s':=
  fun {σ' H' v u} J rv q=>⟨v,H',J.os,J.bare,J.base,J.hok,rv,q⟩
 cases fl with
 | ret u=>
  obtain ⟨v,σ',H',J,rv,q⟩:=hs
  exact fin J rv q
 | next=>
  obtain ⟨σ',H',J,q⟩:=hs
  exact fin (v:=V.non) (u:=Value.none) J rfl q
 | brk=>
  obtain ⟨_,_,_,q⟩:=hs
  exact False.elim q
 | cont=>
  obtain ⟨_,_,_,q⟩:=hs
  exact False.elim q
section
variable {Pr:Program} {w:World} {K:PySem.W.Frag} {mg:Str→Option Value} {base:Heap} {P:Prog} {G:Gs}
structure LvOk (Pr:Program) (w:World) (K:PySem.W.Frag) (mg:Str→Option Value) (base:Heap) (P:Prog) (G:Gs) (n:Nat):Prop where
 fn:∀ m,m≤n→∀ (f:Str) (d:Def),P f=some d→∀ (a:Addr) (fd:FuncData) (ps:List Str),DefAt K f d a fd ps→FnOk Pr w K mg base CX0 m a fd ps (upSp K (sem P G m f))
 clo:∀ np N b cs fa fd ps,CloF fd np N ps b→FnOk Pr w K mg base CX0 n fa fd ps (cloSp K fa fd np N cs (semC P G n np N b cs))
noncomputable abbrev Zl (P:Prog) (G:Gs) (n:Nat):Sg:=⟨fun f=>(P f).isSome,sem P G n,G.tab,G.cls,(semP P G n).2.1,fun f=>(semP P G n).2.2.1 && (P f).isSome,semC P G n,G.cst⟩
theorem xok_of {X:Cx} {n:Nat} (hA:AllOk Pr w K mg P G) (L:LvOk Pr w K mg base P G n) (e1:X.prog=Pr) (e2:X.w=w) (e3:X.K=K) (e4:X.mg=mg) (e5:X.base=base) (hr:Room n X.A) (calm:X.calm=true) (xe:X.xe=fun _ _=>False) (nd:X.N.Nodup)
  (lam:X.N.contains lamMark=true→LamOk X∧∀ x,X.N.contains (capMark x)=true→X.fn x=false∧X.ow x=true)
  (mt:∀ b sc N fb,mFB b sc N fb→Tbs.mt b sc N fb):XOk (Zl P G n) X where
 calm:=calm
 xe:=xe
 units:=by have:=hr.un;omega
 nd:=nd
 blt:=by rw [e4];exact hA.blt
 fns:=fun g hi hg=>by
  obtain ⟨dg,hdg⟩:=Option.isSome_iff_exists.mp hg
  obtain ⟨ag,fdg,pg,Dg,mgg,nsg⟩:=(hA.fns g dg hdg hi).ex
  refine ⟨n,ag,fdg,pg,?_,hr,by rw [e4];exact mgg,by rw [e3];exact Dg.kp,by rw [e3];exact Dg.binds,by rw [e3];exact nsg⟩
  rw [e1,e2,e3,e4,e5];exact L.fn n (Nat.le_refl _) g dg hdg ag fdg pg Dg
 nom:=fun g ga hg hn=>by
  obtain ⟨dg,hdg⟩:=Option.isSome_iff_exists.mp hg
  cases e:isM g with
  | false=>rfl
  | true=>
   obtain ⟨c,m,rfl,_,_,M⟩:=hA.mts g dg hdg e
   rw [e3,M.nom] at hn
   cases hn
 cls:=by rw [e3];exact hA.cls
 mth:=fun m c Ca hc hg=>by
  obtain ⟨dg,hdg⟩:=Option.isSome_iff_exists.mp hg
  obtain ⟨Ca',ag,fdg,pg,Dg,nsc,mgc,C1,M1,I1⟩:=(hA.mth hdg).ex
  rw [e3,nsc] at hc
  cases hc
  refine ⟨n,ag,fdg,pg,by rw [e3];exact C1,by rw [e3];exact M1,?_,hr,by rw [e3];exact Dg.binds⟩
  rw [e1,e2,e3,e4,e5];exact L.fn n (Nat.le_refl _) _ dg hdg ag fdg pg Dg
 mks:=fun c hg=>by
  simp only [Bool.and_eq_true] at hg
  obtain ⟨dg,hdg⟩:=Option.isSome_iff_exists.mp hg.2
  obtain ⟨Ca',ag,fdg,pg,Dg,nsc,mgc,C1,M1,I1⟩:=(hA.mth hdg).ex
  cases n with
  | zero=>exact absurd hg.1 Bool.false_ne_true
  | succ m=>
   refine ⟨Ca',m,ag,fdg,pg,by rw [e3];exact nsc,by rw [e3];exact I1 rfl,?_,hr,by rw [e4];exact mgc,by rw [e3];exact Dg.binds⟩
   rw [e1,e2,e3,e4,e5];exact L.fn m (Nat.le_succ _) _ dg hdg ag fdg pg Dg
 tabs:=by rw [e1,e2,e3,e4];exact hA.tabs
 cst:=by rw [e4];exact hA.cst
 lam:=lam
 mtE:=fun e sc N x h1 h2=>mt _ _ _ _ ⟨h2,e,rfl,h1⟩
 clo:=fun np N b cs fa fd ps cf=>⟨n,by rw [e1,e2,e3,e4,e5];exact L.clo np N b cs fa fd ps cf,hr⟩
theorem lv_zero:LvOk Pr w K mg base P G 0:=by
 refine ⟨fun m hm f d hf a fd ps D=>?_,fun np N b cs fa fd ps cf=>?_⟩
 ·obtain rfl:m=0:=by omega
  have no:∀ vs H Q E,¬ upSp K (sem P G 0 f) vs H Q E:=fun vs H Q E h=>by
   obtain ⟨ds,s0,Qd,_,_,h,_⟩:=h
   exact h
  exact ⟨fun vs H Q E h=>absurd h (no vs H Q E),fun A outer s H args us vs Q E _ _ _ _ h=>absurd h (no vs H Q E)⟩
 ·have no:∀ vs H Q E,¬ cloSp K fa fd np N cs (semC P G 0 np N b cs) vs H Q E:=fun vs H Q E h=>by
   obtain ⟨us0,ds,st,Qd,_,_,_,_,h,_⟩:=h
   exact h
  exact ⟨fun vs H Q E h=>absurd h (no vs H Q E),fun A outer s H args us vs Q E _ _ _ _ h=>absurd h (no vs H Q E)⟩
theorem lv_succ {n:Nat} (hA:AllOk Pr w K mg P G) (hb0:BMain mg base) (hK0:K.In base) (mt:∀ b sc N fb,mFB b sc N fb ↔ Tbs.mt b sc N fb) (L:LvOk Pr w K mg base P G n):LvOk Pr w K mg base P G (n + 1):=by
 have hmS:∀ (b:Ss) (sc:Scope) (N:List Str) (l:List Stmt),mSs b sc N l=true→N.contains lamMark=false→Tbs.mt b sc N (.stmts l):=fun b sc N l h1 h2=>(mt _ _ _ _).mp ⟨h2,h1⟩
 refine ⟨fun m hm f d hf a fd ps D=>?_,fun np N b cs fa fd ps cf=>?_⟩
 ·by_cases hmn:m≤n
  ·exact L.fn m hmn f d hf a fd ps D
  obtain rfl:m=n + 1:=by omega
  obtain ⟨st,x,F,S⟩:=D.ex
  refine fn_ofF F S.sc (fun vs H Q E h=>?_) (fun A outer s H vs Q E hr h=>?_)
  ·obtain ⟨ds,s0,Qd,is,_,hs,_⟩:=h
   obtain ⟨d',hd',hl,_⟩:=hs
   rw [hf] at hd';cases hd'
   rw [← is.len,hl,S.np]
  ·obtain ⟨ds,s0,Qd,is,rs,hs,hq⟩:=h
   obtain ⟨d',hd',hl,hb⟩:=hs
   rw [hf] at hd';cases hd'
   have hX:XOk (Zl P G n) (cxF Pr w K mg base d.N f (defScope st) a fd.code A outer s H):=xok_of hA L rfl rfl rfl rfl rfl hr rfl rfl S.sc.nd (fun hl=>by
    obtain ⟨c,P',e1,e2,e3⟩:=D.lam hl
    refine ⟨⟨⟨c,P',e1,PySem.W.codeHd_of_K hK0 e2,e3⟩,hb0⟩,fun x hx=>⟨?_,rfl⟩⟩
    show (!(d.N.contains (capMark x)))=false
    have hx':d.N.contains (capMark x)=true:=hx
    rw [hx'];rfl) fun b sc N fb=>(mt b sc N fb).mp
   have hF:HF (cxF Pr w K mg base d.N f (defScope st) a fd.code A outer s H):=fun y _ hy=>.inl (by
    show (!(d.N.contains (capMark y)))=true
    have hy':d.N.contains (capMark y)=false:=hy
    rw [hy'];rfl)
   refine ⟨_,sndSs _ hmS d.body _ _ hX hF S.body,startD d ds,s0,_,start_env is,rs,hb,fun env σ H' st' ev hE hS q=>?_,fun env σ H' st' ev hE hS q=>q.elim,fun env σ H' st' ev hE hS q=>q.elim,fun v e H' st' ev is' rs' q=>?_⟩
   ·obtain ⟨s2,sub,q⟩:=q
    exact hq _ .non H' s2 (ev.drop sub) .non (hS.sub sub) q
   ·obtain ⟨s2,sub,q⟩:=q
    exact hq v e H' s2 (ev.drop sub) is' (rs'.sub sub) q
 ·refine clo_fn (Z:=Zl P G n) cf fun q A outer s H hr=>?_
  obtain ⟨hnl,hfb⟩:=(mt _ _ _ _).mpr cf.mt
  have hX:XOk (Zl P G n) (cxC Pr w K mg base N fd.scope fd.closure q fa fd.code A outer s H):=xok_of hA L rfl rfl rfl rfl rfl hr rfl rfl cf.sc.nd (fun hl=>by
   have hl':N.contains lamMark=true:=hl
   rw [hnl] at hl';cases hl') fun b sc N fb=>(mt b sc N fb).mp
  have hF:HF (cxC Pr w K mg base N fd.scope fd.closure q fa fd.code A outer s H):=fun y hy _=>by
   have hy':fd.scope.names.lookup y=some .local ∨ fd.scope.names.lookup y=some .cell:=hy
   rcases hy' with z | z
   ·exact .inr z
   ·exact absurd rfl (cf.sc.nocell _ (PySem.mem_of_lookup z))
  cases hb:fd.body with
  | stmts l=>rw [hb] at hfb;exact sndSs _ hmS b _ l hX hF hfb
  | expr x=>
   rw [hb] at hfb
   obtain ⟨e,rfl,he⟩:=hfb
   exact ⟨e,rfl,(sndE _ e _ x hX he).v⟩
theorem lv_all (hA:AllOk Pr w K mg P G) (hb0:BMain mg base) (hK0:K.In base) (mt:∀ b sc N fb,mFB b sc N fb ↔ Tbs.mt b sc N fb):∀ n,LvOk Pr w K mg base P G n
 | 0=>lv_zero
 | n + 1=>lv_succ hA hb0 hK0 mt (lv_all hA hb0 hK0 mt n)
end
noncomputable def st0 (a:Addr) (ns:List Int):Sto:=fun b=>if b=a then some (.fro (ns.map D.int)) else none
theorem isDs_ints {K:PySem.W.Frag} {H:Hp}:∀ ns:List Int,IsDs K H (ns.map D.int) (ns.map V.int)
 | []=>.nil
 | n::r=>.cons (.int n) (isDs_ints r)
noncomputable def noLists (K:PySem.W.Frag):Bool:=K.all fun p=>!(p.2.cls == .type "list")
theorem noLists_of {K:PySem.W.Frag} {a:Addr} {o:Obj} (h:noLists K=true) (e:K.lookup a=some o):o.cls ≠ .type "list":=by
 unfold noLists at h
 rw [List.all_eq_true] at h
 have hm:(a,o) ∈ K:=by
  induction K with
  | nil=>cases e
  | cons p r ih=>
   obtain ⟨b,x⟩:=p
   rw [List.lookup_cons] at e
   cases q:a == b with
   | true=>rw [q] at e;cases e;rw [beq_iff_eq.mp q];exact List.mem_cons_self
   | false=>rw [q] at e;exact List.mem_cons_of_mem _ (ih (fun p hp=>h p (List.mem_cons_of_mem _ hp)) e)
 have:=h _ hm
 simpa using this
end Ek
set_option Elab.async false
set_option linter.all false
set_option maxRecDepth 100000
set_option maxHeartbeats 4000000
namespace Ek
open PySem PySem.Spec PyProof.Rows L2
theorem law_callT {P:Program} {w:World} {K:PySem.W.Frag} {mg mb:Str→Option Value} {k:Nat} {fa a:Addr} {fd:FuncData} {x:Str} {sp:Sp} {s₁:Shared} {vs:List Value} {ns:List Int} {ts:List Addr}
  (KX:K.In s₁.heap) (hns:s₁.heap.Ns mainGlobals mg) (hb:s₁.heap.Ns builtinsNs mb) (hbb:∀ x:Str,x ≠ "__name__"→mb x=bootBuiltins x) (hlim:s₁.heap.NoLimit) (hbm:BMain mg s₁.heap) (hg:s₁.gens=#[])
  (ha:s₁.heap.get? a=some { cls:=.type "list",data:=.seq vs.toArray }) (hi:IntsAre vs ns) (hl:ns.length≤sizeLine) (hr:Room k callerA)
  (hT:∀ P ∈ ts,s₁.heap.get? P=some (PySem.W.tabObj #[])∧isCodeTable s₁.heap P) (hKt:∀ P ∈ ts,K.lookup P=none) (hKa:K.lookup a=none)
  (F:∀ base:Heap,K.In base→base.Ns mainGlobals mg→BMain mg base→FnOk P w K mg base CX0 k fa fd [x] sp) (hbind:∀ (s:Shared) (u:Value),BindsTo s fd ⟨[u],[]⟩ [(x,u)])
  (hsp:∀ H:Hp,(∀ P ∈ ts,H P=some (.tbl #[]))→SqL K H a (ns.map V.int)→sp [.ref a] H (fun v _=>v=.bl true) fun _ _ _=>False) :
  codeAny (model P w) callerA (.call (.ref fa) ⟨[.ref a],[]⟩) (fun r s'=>r=.ok (.ret (.bool true))∧OldK s₁.heap s'.heap∧s'.os=s₁.os∧AllBare s'.gens) s₁:=by
 have rv:=vals_ints hi
 have naT:a ∉ ts:=fun z=>by
  have:=(hT a z).1
  rw [ha] at this;cases this
 let H:Hp:=fun b=>if b=a then some (.frz { cls:=.type "list",data:=.seq vs.toArray } (.lst (ns.map V.int))) else if b ∈ ts then some (.tbl #[]) else none
 have Ha:H a=some (.frz { cls:=.type "list",data:=.seq vs.toArray } (.lst (ns.map V.int))):=if_pos rfl
 have Ht:∀ P ∈ ts,H P=some (.tbl #[]):=fun P hP=>by
  have ne:P ≠ a:=fun z=>naT (z ▸ hP)
  show (if P=a then _ else if P ∈ ts then _ else _)=_
  rw [if_neg ne,if_pos hP]
 have Hc:∀ b u,H b=some u→b=a ∨ b ∈ ts:=fun b u e=>by
  by_cases h1:b=a
  ·exact .inl h1
  ·by_cases h2:b ∈ ts
   ·exact .inr h2
   ·have e':(if b=a then some (HO.frz { cls:=.type "list",data:=.seq vs.toArray } (.lst (ns.map V.int))) else if b ∈ ts then some (.tbl #[]) else none)=some u:=e
    rw [if_neg h1,if_neg h2] at e';cases e'
 have hok:HOk P w H s₁.heap:=fun b u e=>by
  rcases Hc b u e with rfl | hb
  ·rw [Ha] at e;cases e
   exact ⟨ha,by rw [List.length_map];exact hl,vs,_,rv,ha⟩
  ·rw [Ht b hb] at e;cases e
   exact (hT b hb).1
 have base_of:∀ {b:Addr} {o:Obj},s₁.heap.get? b=some o→H b=none→(hidT s₁.heap H).get? b=some o:=fun e n=>hidT_get e n
 have none_of:∀ b o,s₁.heap.get? b=some o→(∀ xs n,o.data ≠ .seq xs n)→(∀ xs,o.data ≠ .fields xs)→H b=none:=fun b o e n1 n2=>by
  cases q:H b with
  | none=>rfl
  | some u=>
   rcases Hc b u q with rfl | hb
   ·rw [ha] at e;cases e;exact absurd rfl (n1 _ _)
   ·rw [(hT b hb).1] at e;cases e;exact absurd rfl (n2 _)
 have nsK:∀ {b:Addr} {m:Str→Option Value},s₁.heap.Ns b m→(hidT s₁.heap H).Ns b m:=fun {b m} ⟨o,es,ep,e,d,r⟩=>⟨o,es,ep,base_of e (none_of b o e (by rw [d];exact fun _ _=>nofun) (by rw [d];exact fun _=>nofun)),d,r⟩
 have hKb:K.In (hidT s₁.heap H):=fun b o e=>base_of (KX b o e) (by
  cases q:H b with
  | none=>rfl
  | some u=>
   rcases Hc b u q with rfl | hb
   ·rw [hKa] at e;cases e
   ·rw [hKt b hb] at e;cases e)
 have hBb:BMain mg (hidT s₁.heap H):=by
  obtain ⟨bm,ob,b1,b2,b3,b4,b5,b6⟩:=hbm
  exact ⟨bm,ob,b1,b2,base_of b3 (none_of bm ob b3 (by rw [b6];exact fun _ _=>nofun) (by rw [b6];exact fun _=>nofun)),b4,b5,b6⟩
 have hM:Mod K mg (hidT s₁.heap H):=⟨hKb,nsK hns,⟨mb,nsK hb,hbb⟩,let ⟨mc,h1,h2⟩:=hlim;⟨mc,nsK h1,h2⟩⟩
 have e0:Env0 P w K mg (hidT s₁.heap H) callerA [] s₁ H:=⟨rfl,hM,fun b o e=>of_hidT e,Nat.le_of_eq (hidT_size _ _),trivial,fun b hb=>absurd (show b ∈ ([]:List Addr) from hb) (by simp),hok,.of_eq hg⟩
 refine codeAny_mono ((F _ hKb (nsK hns) hBb).run callerA [] s₁ H ⟨[.ref a],[]⟩ [.ref a] [.ref a] _ _ hr e0 (hbind s₁ (.ref a)) (.cons rfl .nil) (hsp H Ht (.inl (.inr ⟨_,Ha⟩)))) fun r s' h=>?_
 cases r with
 | error e=>exact False.elim h
 | ok fl=>
  cases fl with
  | next=>exact False.elim h
  | brk=>exact False.elim h
  | cont=>exact False.elim h
  | ret u=>
   obtain ⟨v,H',os,bare,un,hok',r',q⟩:=h
   have q':v=.bl true:=q
   subst q'
   obtain rfl:u=Value.bool true:=r'
   refine ⟨rfl,⟨fun b o e=>?_,fun b o e=>un.there b o e (by simp)⟩,os,bare⟩
   cases q:H b with
   | none=>exact .inl (un.keep b o e q (by intro z;exact absurd (show b ∈ ([]:List Addr) from z) (by simp)) (by simp))
   | some u=>
    rcases Hc b u q with rfl | hb
    ·rw [Ha] at q;cases q
     have z2:=un.frzs b _ _ Ha
     obtain ⟨e2,_⟩:=hok' b _ z2
     rw [ha] at e;cases e
     exact .inl e2
    ·obtain ⟨t1,t2⟩:=hT b hb
     rw [t1] at e;cases e
     obtain ⟨more,z⟩:=un.tbls b _ (Ht b hb)
     have e2:=hok' b _ z
     exact .inr (.inl ⟨t2,rfl,#[],more,rfl,e2⟩)
theorem noLists_none [Tbs] {K:PySem.W.Frag} {h:Heap} {a:Addr} {o:Obj} (X:K.In h) (hn:noLists K=true) (e:h.get? a=some o) (hc:o.cls=.type "list"):K.lookup a=none:=by
 cases q:K.lookup a with
 | none=>rfl
 | some o'=>
  have:=X a o' q
  rw [e] at this;cases this
  exact absurd hc (noLists_of hn q)
theorem ek_walk {l:PySem.W.OpenLaw} {q:Program} {loose:List Str} {XP:(Str→Option Value)→Heap→Prop} {YP:World→Heap→Prop} {d:DefRec} {K:Params→PySem.W.Frag} {P:Prog} {G:Gs} {n:Nat} {x:Str} {dl:Def} {ts:List Addr}
  (hn:l.most=some 63) (hdf:d.params.defaults=[]) (hdn:d.name="law") (hr:Room n callerA) (hY:∀ (w:World) (h:Heap),YP w h→(K w.params).In h∧∀ P ∈ ts,h.get? P=some (PySem.W.tabObj #[])) (hl:P "law"=some dl)
  (hst:∀ st y ps,Stat st dl ps y "law"→ps=[x])
  (F:∀ (w:World) (mg:Str→Option Value) (h:Heap),(K w.params).In h→h.Ns mainGlobals mg→(letI:Tbs:=⟨ts,mFB⟩;AllOk l.prog w (K w.params) mg P G)∧noLists (K w.params)=true∧PySem.W.noTabs (K w.params)=true∧∀ P ∈ ts,∃ c,PySem.W.codeHdIn (K w.params) c P=true)
  (core:∀ (a:Addr) (ns:List Int),ns.length≤63→sem P G n "law" [.ref a] (st0 a ns) fun d _=>d=.bl true) :
  PySem.W.WalkO q loose XP YP l.row.toRowW d [] (fun f vs=>PySem.call f vs):=by
 letI:Tbs:=⟨ts,mFB⟩
 refine Att.attach_call hn hdf fun w s₀ s₁ mg mb fa o pm cd doc a vs ns GG Y ho hd hcd hmg hobj hints hlen hg=>?_
 obtain ⟨KX,hTs⟩:=hY w _ Y
 obtain ⟨hA,hNL,hNT,hC⟩:=F w mg _ KX GG.T.g
 obtain ⟨ad,fd,ps,Df,mf,_⟩:=(hA.fns "law" dl hl (by decide +kernel)).ex
 obtain ⟨st,y,Ff,Sf⟩:=Df.ex
 have e:=hst st y ps Sf
 subst e
 rw [hdn] at hmg
 have ea:fa=ad:=by rw [hmg] at mf;cases mf;rfl
 subst ea
 have hKa:(K w.params).lookup a=none:=noLists_none KX hNL hobj rfl
 refine law_callT (ts:=ts) (sp:=upSp (K w.params) (sem P G n "law")) KX GG.T.g GG.T.b GG.T.builtins GG.T.nolimit GG.T.bmain hg hobj hints (Nat.le_trans hlen (by decide)) hr (fun P hP=>⟨hTs P hP,?_⟩) (fun P hP=>?_) hKa (fun base hb hbg hbm=>(lv_all hA hbm hb (fun _ _ _ _=>Iff.rfl) n).fn n (Nat.le_refl _) "law" dl hl fa fd [x] Df) (fun s u=>.of_eq (Fun.bind0 Ff Sf [u] rfl)) (fun H hH hS=>?_)
 ·obtain ⟨c,hc⟩:=hC P hP
  exact ((PySem.W.codeHd_of_K KX hc).tab (hTs P hP)).isCodeTable
 ·cases qq:(K w.params).lookup P with
  | none=>rfl
  | some o'=>
   have z:=KX P o' qq
   rw [hTs P hP] at z;cases z
   unfold PySem.W.noTabs at hNT
   rw [List.all_eq_true] at hNT
   exact absurd (hNT _ (PySem.W.mem_of_lookupK qq)) Bool.false_ne_true
 ·refine ⟨[.ref a],st0 a ns,_,.cons (.ref a) .nil,⟨fun b o e=>?_,fun P hP=>⟨#[],hH P hP,trivial,fun pos cv z=>by cases z⟩⟩,core a ns hlen,fun v d' H' st' ev is rs q=>?_⟩
  ·unfold st0 at e
   split at e
   ·rename_i hb
    cases e
    subst hb
    rcases hS with hS | ⟨ob,its,m,hk,hc,_⟩
    ·exact ⟨_,hS,isDs_ints ns⟩
    ·exact absurd hc (noLists_of hNL hk)
   ·cases e
  ·have q':d'=.bl true:=q
   subst q'
   cases is
   rfl
noncomputable def codeFor (P:Addr) (o:Obj):Bool:=match o with
 | ⟨.type "code",_,.fields vs,_⟩=>(match (vs[11]?:Option Value) with | some (.ref P')=>P' == P | _=>false)
 | _=>false
noncomputable def tsOk (K:PySem.W.Frag) (ts:List Addr):Bool:=ts.all fun P=>match K.find? fun p=>codeFor P p.2 with
 | some p=>PySem.W.codeHdIn K p.1 P
 | none=>false
theorem tsOk_of {K:PySem.W.Frag} {ts:List Addr} (h:tsOk K ts=true):∀ P ∈ ts,∃ c,PySem.W.codeHdIn K c P=true:=fun P hP=>by
 unfold tsOk at h
 rw [List.all_eq_true] at h
 have:=h P hP
 split at this
 ·exact ⟨_,this⟩
 ·cases this
noncomputable def tabAt (K:PySem.W.Frag) (cd:Value):Option (Addr × Addr):=match cd with
 | .ref c=>(match K.lookup c with
  | some ⟨_,_,.fields vs,_⟩=>(match (vs[11]?:Option Value) with | some (.ref P)=>some (c,P) | _=>none)
  | _=>none)
 | _=>none
theorem lam_of {K:PySem.W.Frag} {cd:Value} {c P:Addr} {ts:List Addr} (h:tabAt K cd=some (c,P)) (h2:PySem.W.codeHdIn K c P=true) (h3:ts.contains P=true):∃ c P,cd=.ref c∧PySem.W.codeHdIn K c P=true∧P ∈ ts:=by
 unfold tabAt at h
 split at h
 ·split at h
  ·split at h
   ·cases h;exact ⟨_,_,rfl,h2,by simpa using h3⟩
   ·cases h
  ·cases h
 ·cases h
end Ek
set_option Elab.async false
set_option linter.all false
set_option maxRecDepth 100000
namespace Ek
open PySem L2
theorem ofString_cps (s:String):Str.ofString s=⟨(s.toList.map Char.toNat).toArray⟩:=by
 unfold Str.ofString;rw [cpsOfBytes_string]
theorem charNat_inj:∀ (x y:Char),x.toNat=y.toNat→x=y:=fun x y h=>Char.ext (UInt32.toNat_inj.mp h)
theorem mapNat_inj:∀ (a b:List Char),a.map Char.toNat=b.map Char.toNat→a=b
 | [],[],_=>rfl
 | [],_::_,h=>by simp at h
 | _::_,[],h=>by simp at h
 | x::a,y::b,h=>by
  simp only [List.map_cons,List.cons.injEq] at h
  rw [charNat_inj x y h.1,mapNat_inj a b h.2]
theorem ofString_inj {a b:String}:(Str.ofString a=Str.ofString b)=(a=b):=by
 refine propext ⟨fun h=>?_,fun h=>by rw [h]⟩
 rw [ofString_cps,ofString_cps] at h
 simp only [Str.mk.injEq] at h
 have h':a.toList.map Char.toNat=b.toList.map Char.toNat:=by simpa using h
 exact String.toList_inj.mp (mapNat_inj _ _ h')
theorem pure_ofString (s:String):(D.str (Str.ofString s)).pure=true:=by
 show PyData.strOk (Str.ofString s)=true
 unfold PyData.strOk
 rw [ofString_cps]
 simp only [List.all_toArray,List.all_map,List.all_eq_true]
 intro c _
 have h:=c.valid
 simp only [UInt32.isValidChar,Nat.isValidChar] at h
 simp only [Function.comp_apply,decide_eq_true_eq]
 show c.val.toNat < 1114112
 omega
end Ek
namespace Ek
open PySem L2
noncomputable def Kp (L:List Addr) (st st':Sto):Prop:=∀ b o,b ∉ L→st b=some o→st' b=some o
theorem Kp.refl {L:List Addr} {st:Sto}:Kp L st st:=fun _ _ _ h=>h
theorem Kp.trans {L:List Addr} {a b c:Sto} (x:Kp L a b) (y:Kp L b c):Kp L a c:=fun d o n h=>y d o n (x d o n h)
theorem Kp.more {L M:List Addr} {a b:Sto} (x:Kp L a b) (s:∀ d ∈ L,d ∈ M):Kp M a b:=fun d o n h=>x d o (fun z=>n (s d z)) h
theorem Kp.new {L:List Addr} {st st':Sto} {p:Addr} {o:Ob} (x:Kp L st st') (h:st' p=none):Kp L st (updS st' p o):=fun d u n e=>by
 have e':=x d u n e
 rw [updS_ne (fun z=>by rw [z,h] at e';cases e')];exact e'
theorem Kp.put {L:List Addr} {st st':Sto} {p:Addr} {o:Ob} (x:Kp L st st') (h:p ∈ L):Kp L st (updS st' p o):=fun d u n e=>by
 rw [updS_ne (fun z=>n (by rw [z];exact h))];exact x d u n e
theorem Kp.at' {L:List Addr} {st st':Sto} {b:Addr} {o:Ob} (x:Kp L st st') (h:st b=some o) (n:b ∉ L):st' b=some o:=x b o n h
theorem keepNew {st:Sto} {a p:Addr} {o u:Ob} (h:st a=some o) (hp:st p=none):updS st p u a=some o:=by
 rw [updS_ne (fun z=>by rw [z,hp] at h;cases h)];exact h
theorem neNew {st:Sto} {a p:Addr} {o:Ob} (h:st a=some o) (hp:st p=none):a ≠ p:=fun z=>by rw [z,hp] at h;cases h
theorem keepNe {st:Sto} {a p:Addr} {o u:Ob} (h:st a=some o) (n:a ≠ p):updS st p u a=some o:=by
 rw [updS_ne n];exact h
noncomputable def Ints (st:Sto) (a:Addr):Prop:=∃ l:List Int,st a=some (.lst (l.map .int))
theorem Ints.keep {L:List Addr} {st st':Sto} {b:Addr} (h:Ints st b) (x:Kp L st st') (n:b ∉ L):Ints st' b:=let ⟨l,e⟩:=h;⟨l,x.at' e n⟩
theorem Ints.new {st:Sto} {b p:Addr} {u:Ob} (h:Ints st b) (hp:st p=none):Ints (updS st p u) b:=let ⟨l,e⟩:=h;⟨l,keepNew e hp⟩
theorem Ints.ne {st:Sto} {b p:Addr} (h:Ints st b) (hp:st p=none):b ≠ p:=let ⟨l,e⟩:=h;neNew e hp
noncomputable def EndQ (Q:DK):DEnds:={ nx:=fun _ st'=>∃ s2,Sub s2 st'∧Q .non s2,rt:=fun d st'=>∃ s2,Sub s2 st'∧Q d s2 }
theorem EndQ_rt {Q:DK} {d:D} {st:Sto} (h:Q d st):(EndQ Q).rt d st:=⟨st,Sub.refl st,h⟩
noncomputable abbrev Zg (P:Prog) (G:Gs) (n:Nat):Sg:=⟨fun f=>(P f).isSome,sem P G n,G.tab,G.cls,(semP P G n).2.1,fun f=>(semP P G n).2.2.1 && (P f).isSome,semC P G n,G.cst⟩
theorem sem_in {P:Prog} {G:Gs} {n:Nat} {f:Str} {fd:Def} {ds:List D} {st:Sto} {Q:DK} (hP:P f=some fd) (hl:ds.length=fd.np) (env:DEnv) (he:startD fd ds=env)
  (h:wpSs (Zg P G n) fd.body (EndQ Q) env st):sem P G (n + 1) f ds st Q:=by
 rw [sem_succ];exact ⟨fd,hP,hl,by rw [he];exact h⟩
theorem sem_clo {P:Prog} {G:Gs} {n np:Nat} {N:List Str} {b:Ss} {cs ds:List D} {st:Sto} {Q:DK} (hl:ds.length=np) (env:DEnv) (he:startC N ds cs=env)
  (h:wpSs (Zg P G n) b (EndQ Q) env st):semC P G (n + 1) np N b cs ds st Q:=by
 rw [semC_succ];exact ⟨hl,by rw [he];exact h⟩
section
variable {Z:Sg} {F:DEnds} {env:DEnv} {st:Sto} {Q:DK}
theorem s_cons {s:S} {r:Ss}:wpSs Z (.cons s r) F env st=wpS Z s ⟨wpSs Z r F,F.rt,F.bk,F.ct⟩ env st:=rfl
theorem s_nil:wpSs Z .nil F env st=F.nx env st:=rfl
theorem s_set {i:Nat} {e:E}:wpS Z (.set i e) F env st=wpE Z e env st fun d st1=>F.nx (env.set i (some d)) st1:=rfl
theorem s_put {o i v:E}:wpS Z (.put o i v) F env st=wpE Z v env st fun d st1=>wpE Z o env st1 fun x st2=>wpE Z i env st2 fun y st3=>∃ a j k ds,x=.ref a∧y=.int j∧st3 a=some (.lst ds)∧ixN ds.length j=some k∧F.nx env (updS st3 a (.lst (ds.set k d))):=rfl
theorem s_unp {is:List Nat} {e:E}:wpS Z (.unp is e) F env st=wpE Z e env st fun d st1=>bindT (.tup is) d env fun env'=>F.nx env' st1:=rfl
theorem s_ex {e:E}:wpS Z (.ex e) F env st=wpE Z e env st fun _ st1=>F.nx env st1:=rfl
theorem s_iff {c:E} {a b:Ss}:wpS Z (.iff c a b) F env st=wpE Z c env st fun d st1=>∃ k,d=.bl k∧if k=true then wpSs Z a F env st1 else wpSs Z b F env st1:=rfl
theorem s_ret {e:E}:wpS Z (.ret e) F env st=wpE Z e env st F.rt:=rfl
theorem s_retN:wpS Z .retN F env st=F.rt .non st:=rfl
theorem s_for {t:Tg} {it:It} {b:Ss}:wpS Z (.for t it b) F env st=wpIt Z it env st fun items chk st1=>forL chk t (wpSs Z b) F items env st1:=rfl
theorem s_cont:wpS Z .cont F env st=F.ct env st:=rfl
theorem s_pass:wpS Z .pass F env st=F.nx env st:=rfl
theorem e_non:wpE Z .non env st Q=Q .non st:=rfl
theorem e_bl {b:Bool}:wpE Z (.bl b) env st Q=Q (.bl b) st:=rfl
theorem e_int {i:Int}:wpE Z (.int i) env st Q=Q (.int i) st:=rfl
theorem e_str {x:Str}:wpE Z (.str x) env st Q=Q (.str x) st:=rfl
theorem e_v {i:Nat}:wpE Z (.v i) env st Q=∃ d,env[i]?=some (some d)∧Q d st:=rfl
theorem e_tup {es:Es}:wpE Z (.tup es) env st Q=wpEs Z es env st fun ds st1=>Q (.tup ds) st1:=rfl
theorem e_lst {es:Es}:wpE Z (.lst es) env st Q=wpEs Z es env st fun ds st1=>∀ p,st1 p=none→Q (.ref p) (updS st1 p (.lst ds)):=rfl
theorem e_bin {o:Operator} {a b:E}:wpE Z (.bin o a b) env st Q=wpE Z a env st fun x st1=>wpE Z b env st1 fun y st2=>binR o x y st2 Q:=rfl
theorem e_neg {a:E}:wpE Z (.neg a) env st Q=wpE Z a env st fun x st1=>∃ i,x=.int i∧Q (.int (-i)) st1:=rfl
theorem e_cmp {o:CmpOp} {a b:E}:wpE Z (.cmp o a b) env st Q=wpE Z a env st fun x st1=>wpE Z b env st1 fun y st2=>cmpR o x y st2 Q:=rfl
theorem e_isN {a:E}:wpE Z (.isN a) env st Q=wpE Z a env st fun x st1=>(x=.non∧Q (.bl true) st1) ∨ (x ≠ .non∧Q (.bl false) st1):=rfl
theorem e_notN {a:E}:wpE Z (.notN a) env st Q=wpE Z a env st fun x st1=>(x=.non∧Q (.bl false) st1) ∨ (x ≠ .non∧Q (.bl true) st1):=rfl
theorem e_and {a b:E}:wpE Z (.and a b) env st Q=wpE Z a env st fun x st1=>∃ c,x=.bl c∧(if c=true then wpE Z b env st1 Q else Q (.bl false) st1):=rfl
theorem e_or {a b:E}:wpE Z (.or a b) env st Q=wpE Z a env st fun x st1=>∃ c,x=.bl c∧(if c=true then Q (.bl true) st1 else wpE Z b env st1 Q):=rfl
theorem e_not {a:E}:wpE Z (.not a) env st Q=wpE Z a env st fun x st1=>∃ c,x=.bl c∧Q (.bl (!c)) st1:=rfl
theorem e_ite {c a b:E}:wpE Z (.ite c a b) env st Q=wpE Z c env st fun x st1=>∃ k,x=.bl k∧(if k=true then wpE Z a env st1 Q else wpE Z b env st1 Q):=rfl
theorem e_ix {a b:E}:wpE Z (.ix a b) env st Q=wpE Z a env st fun x st1=>wpE Z b env st1 fun y st2=>ixR x y st2 Q:=rfl
noncomputable def bnd (Z:Sg) (e:E) (env:DEnv) (st:Sto):(Option Int→Sto→Prop)→Prop:=if e.isNon=true then fun k=>k none st else fun k=>wpE Z e env st fun d st'=>∃ i,d=.int i∧k (some i) st'
theorem bnd_non {k:Option Int→Sto→Prop}:bnd Z .non env st k=k none st:=rfl
theorem bnd_some {e:E} {k:Option Int→Sto→Prop} (h:e.isNon=false):bnd Z e env st k=wpE Z e env st fun d st'=>∃ i,d=.int i∧k (some i) st':=by
 unfold bnd;rw [h];rfl
theorem bnd_int {i:Int} {k:Option Int→Sto→Prop}:bnd Z (.int i) env st k=k (some i) st:=by
 rw [bnd_some rfl,e_int];exact propext ⟨fun ⟨_,h,q⟩=>by cases h;exact q,fun q=>⟨_,rfl,q⟩⟩
theorem e_sl {a lo hi:E}:wpE Z (.sl a lo hi) env st Q=wpE Z a env st fun x st1=>bnd Z lo env st1 fun l st2=>bnd Z hi env st2 fun h st3=>slR x l h st3 Q:=rfl
theorem e_dsel {ks:List Str} {vs:Es} {k:E}:wpE Z (.dsel ks vs k) env st Q=wpEs Z vs env st fun ds st1=>wpE Z k env st1 fun x st2=>∃ w d,x=.str w∧lookD (ks.zip ds) w=some d∧Q d st2:=rfl
theorem e_len {a:E}:wpE Z (.len a) env st Q=wpE Z a env st fun x st1=>lenR x st1 Q:=rfl
theorem e_abs {a:E}:wpE Z (.abs a) env st Q=wpE Z a env st fun x st1=>∃ i,x=.int i∧Q (.int (if i < 0 then -i else i)) st1:=rfl
theorem e_toInt {a:E}:wpE Z (.toInt a) env st Q=wpE Z a env st fun x st1=>toIntR x st1 Q:=rfl
theorem e_sum {a:E}:wpE Z (.sum a) env st Q=wpE Z a env st fun x st1=>sumR x st1 Q:=rfl
theorem e_list {a:E}:wpE Z (.list a) env st Q=wpE Z a env st fun x st1=>listR x st1 Q:=rfl
theorem e_tuple {a:E}:wpE Z (.tuple a) env st Q=wpE Z a env st fun x st1=>tupleR x st1 Q:=rfl
theorem e_min {a b:E}:wpE Z (.min a b) env st Q=wpE Z a env st fun x st1=>wpE Z b env st1 fun y st2=>∃ i j,x=.int i∧y=.int j∧Q (.int (if j < i then j else i)) st2:=rfl
theorem e_max {a b:E}:wpE Z (.max a b) env st Q=wpE Z a env st fun x st1=>wpE Z b env st1 fun y st2=>∃ i j,x=.int i∧y=.int j∧Q (.int (if j > i then j else i)) st2:=rfl
theorem e_call {f:Str} {es:Es}:wpE Z (.call f es) env st Q=(Z.F f=true∧wpEs Z es env st fun ds st1=>Z.Phi f ds st1 Q):=rfl
theorem e_gf {f:Str}:wpE Z (.gf f) env st Q=(Z.F f=true∧Q (.fn f) st):=rfl
theorem s_dead:wpS Z .dead F env st=False:=rfl
theorem e_callv {i:Nat} {es:Es}:wpE Z (.callv i es) env st Q=∃ x,env[i]?=some (some x)∧callD Z (wpEs Z es env) st Q x:=rfl
theorem cd_fn {ta:Sto→(List D→Sto→Prop)→Prop} {f:Str}:callD Z ta st Q (.fn f)=(Z.F f=true∧ta st fun ds st1=>Z.Phi f ds st1 Q):=rfl
theorem cd_clo {ta:Sto→(List D→Sto→Prop)→Prop} {np:Nat} {N:List Str} {b:Ss} {cs:List D}:callD Z ta st Q (.clo np N b cs)=ta st fun ds st1=>Z.PhiC np N b cs ds st1 Q:=rfl
noncomputable def capW (env:DEnv):List Nat→(List D→Prop)→Prop
 | [],k=>k []
 | i::is,k=>∃ d,env[i]?=some (some d)∧capW env is fun ds=>k (d::ds)
theorem capW_nil {k:List D→Prop}:capW env [] k=k []:=rfl
theorem capW_cons {i:Nat} {is:List Nat} {k:List D→Prop}:capW env (i::is) k=∃ d,env[i]?=some (some d)∧capW env is fun ds=>k (d::ds):=rfl
theorem cap_w:∀ {cp:List Nat} {k:List D→Prop},(∃ cs,capD env cp=some cs∧k cs)=capW env cp k
 | [],k=>propext ⟨fun ⟨_,h,q⟩=>by cases h;exact q,fun q=>⟨_,rfl,q⟩⟩
 | i::is,k=>by
  rw [capW_cons]
  refine propext ⟨fun ⟨cs,h,q⟩=>?_,fun ⟨d,hd,q⟩=>?_⟩
  ·unfold capD at h
   split at h
   ·rename_i d ds h1 h2
    cases h
    exact ⟨d,h1,(cap_w (k:=fun ds=>k (d::ds))) ▸ ⟨ds,h2,q⟩⟩
   ·cases h
  ·rw [← cap_w] at q
   obtain ⟨ds,h2,q⟩:=q
   exact ⟨d::ds,by unfold capD;rw [hd,h2],q⟩
theorem e_lam {np:Nat} {N:List Str} {cp:List Nat} {e:E}:wpE Z (.lam np N cp e) env st Q=capW env cp fun cs=>Q (.clo np N (.cons (.ret e) .nil) cs) st:=cap_w
theorem s_dfn {i np:Nat} {N:List Str} {cp:List Nat} {b:Ss}:wpS Z (.dfn i np N cp b) F env st=capW env cp fun cs=>F.nx (env.set i (some (.clo np N b cs))) st:=cap_w
theorem e_gc {g:Str}:wpE Z (.gc g) env st Q=∃ i,Z.Kc g=some i∧Q (.int i) st:=rfl
theorem e_dict {ks:List Str} {vs:Es}:wpE Z (.dict ks vs) env st Q=wpEs Z vs env st fun ds st1=>∀ p,st1 p=none→Q (.ref p) (updS st1 p (.dct ((ks.zip ds).map fun kv=>(.inr kv.1,kv.2)))):=rfl
theorem e_cmpl {ne:Bool} {a b:E}:wpE Z (.cmpl ne a b) env st Q=wpE Z a env st fun x st1=>wpE Z b env st1 fun y st2=>cmplR ne x y st2 Q:=rfl
theorem e_app {a b:E}:wpE Z (.app a b) env st Q=wpE Z a env st fun x st1=>isLR x st1∧wpE Z b env st1 fun y st2=>appR x y st2 Q:=rfl
theorem e_ext {a b:E}:wpE Z (.ext a b) env st Q=wpE Z a env st fun x st1=>isLR x st1∧wpE Z b env st1 fun y st2=>extR x y st2 Q:=rfl
theorem e_popAt {a b:E}:wpE Z (.popAt a b) env st Q=wpE Z a env st fun x st1=>isLR x st1∧wpE Z b env st1 fun y st2=>popAtR x y st2 Q:=rfl
theorem e_pop {a:E}:wpE Z (.pop a) env st Q=wpE Z a env st fun x st1=>popR x st1 Q:=rfl
theorem e_lrl {a:E}:wpE Z (.lrl a) env st Q=wpE Z a env st fun x st1=>lrlR x st1 Q:=rfl
theorem e_lrev {a:E}:wpE Z (.lrev a) env st Q=wpE Z a env st fun x st1=>revR x st1 Q:=rfl
theorem e_lclr {a:E}:wpE Z (.lclr a) env st Q=wpE Z a env st fun x st1=>clrR x st1 Q:=rfl
theorem e_index {a b:E}:wpE Z (.index a b) env st Q=wpE Z a env st fun x st1=>isTR x st1∧wpE Z b env st1 fun y st2=>indexR x y st2 Q:=rfl
theorem es_nil {Q:List D→Sto→Prop}:wpEs Z .nil env st Q=Q [] st:=rfl
theorem es_cons {e:E} {r:Es} {Q:List D→Sto→Prop}:wpEs Z (.cons e r) env st Q=wpE Z e env st fun d st1=>wpEs Z r env st1 fun ds st2=>Q (d::ds) st2:=rfl
noncomputable def tstC (Z:Sg) (c:E):DB:=if c.isNon=true then fun _ st Q=>Q true st else fun env st Q=>wpE Z c env st fun d st'=>∃ b,d=.bl b∧Q b st'
theorem e_comp {Nc:List Str} {fr:List Nat} {k:Nat} {t:Tg} {it:It} {c e:E}:wpE Z (.comp Nc fr k t it c e) env st Q=wpIt Z it env st fun items chk st1=>items.length≤1000000∧compL chk t (tstC Z c) (fun env st Q=>wpE Z e env st Q) (fun acc st'=>∀ p,st' p=none→Q (.ref p) (updS st' p (.lst acc))) items [] (compEnv fr k env) st1:=rfl
variable {k:ItK}
theorem i_seq {e:E}:wpIt Z (.seq e) env st k=wpE Z e env st fun d st1=>(∃ ds,d=.tup ds∧k ds (fun _=>True) st1) ∨ (∃ a ds,d=.ref a∧rdS st1 a ds∧k ds (fun st'=>rdS st' a ds) st1):=rfl
theorem i_rng {a:E}:wpIt Z (.rng a) env st k=wpE Z a env st fun d st1=>∃ j:Int,d=.int j∧(-(2 ^ 62)≤j∧j < 2 ^ 62)∧k (rangeD 0 j.toNat) (fun _=>True) st1:=rfl
theorem i_rng2 {a b:E}:wpIt Z (.rng2 a b) env st k=wpE Z a env st fun d st1=>wpE Z b env st1 fun e st2=>∃ i j:Int,d=.int i∧e=.int j∧(-(2 ^ 62)≤i∧i < 2 ^ 62∧-(2 ^ 62)≤j∧j < 2 ^ 62)∧k (rangeD i (j - i).toNat) (fun _=>True) st2:=rfl
theorem i_zip {a b:E}:wpIt Z (.zip a b) env st k=wpE Z a env st fun d st1=>wpE Z b env st1 fun e st2=>∃ xs ys,itemsOf st2 d xs∧itemsOf st2 e ys∧k (zipD xs ys) (fun st'=>itemsOf st' d xs∧itemsOf st' e ys) st2:=rfl
theorem i_enumr {e:E}:wpIt Z (.enumr e) env st k=wpE Z e env st fun d st1=>∃ ds,d=.tup ds∧k (enumD 0 ds.reverse) (fun _=>True) st1:=rfl
theorem i_enum {e:E}:wpIt Z (.enum e) env st k=wpE Z e env st fun d st1=>(∃ ds,d=.tup ds∧k (enumD 0 ds) (fun _=>True) st1) ∨ (∃ a ds,d=.ref a∧rdS st1 a ds∧k (enumD 0 ds) (fun st'=>rdS st' a ds) st1):=rfl
theorem i_rev {e:E}:wpIt Z (.rev e) env st k=wpE Z e env st fun d st1=>∃ a ds,d=.ref a∧rdS st1 a ds∧k ds.reverse (fun st'=>rdS st' a ds) st1:=rfl
end
end Ek
namespace Ek
open PySem L2
section
variable {st:Sto} {Q:DK} {i j:Int} {a p:Addr} {ds es xs ys:List D} {x y d:D}
theorem ev_0 {a:D} {r:DEnv} {Q:D→Prop}:(∃ d,(some a::r)[0]?=some (some d)∧Q d)=Q a:=propext ⟨fun ⟨_,h,q⟩=>by cases h;exact q,fun q=>⟨a,rfl,q⟩⟩
theorem ev_s {a:Option D} {r:DEnv} {i:Nat} {Q:D→Prop}:(∃ d,(a::r)[i + 1]?=some (some d)∧Q d)=∃ d,r[i]?=some (some d)∧Q d:=by simp only [List.getElem?_cons_succ]
theorem x_ss {a:D} {Q:D→Prop}:(∃ d,some (some a)=some (some d)∧Q d)=Q a:=propext ⟨fun ⟨_,h,q⟩=>by cases h;exact q,fun q=>⟨a,rfl,q⟩⟩
theorem x_int {i:Int} {Q:Int→Prop}:(∃ d,D.int i=.int d∧Q d)=Q i:=propext ⟨fun ⟨_,h,q⟩=>by cases h;exact q,fun q=>⟨i,rfl,q⟩⟩
theorem x_bl {i:Bool} {Q:Bool→Prop}:(∃ d,D.bl i=.bl d∧Q d)=Q i:=propext ⟨fun ⟨_,h,q⟩=>by cases h;exact q,fun q=>⟨i,rfl,q⟩⟩
theorem x_tup {Q:List D→Prop}:(∃ d,D.tup ds=.tup d∧Q d)=Q ds:=propext ⟨fun ⟨_,h,q⟩=>by cases h;exact q,fun q=>⟨_,rfl,q⟩⟩
theorem x_some {α:Type} {a:α} {Q:α→Prop}:(∃ d,some a=some d∧Q d)=Q a:=propext ⟨fun ⟨_,h,q⟩=>by cases h;exact q,fun q=>⟨a,rfl,q⟩⟩
theorem x_str {i:Str} {l:List (Str × D)} {Q:D→Prop}:(∃ w d,D.str i=.str w∧lookD l w=some d∧Q d)=(∃ d,lookD l i=some d∧Q d):=propext ⟨fun ⟨_,d,h,e,q⟩=>by cases h;exact ⟨d,e,q⟩,fun ⟨d,e,q⟩=>⟨_,d,rfl,e,q⟩⟩
theorem x_2int {i j:Int} {Q:Int→Int→Prop}:(∃ a b,D.int i=.int a∧D.int j=.int b∧Q a b)=Q i j:=propext ⟨fun ⟨_,_,h,h',q⟩=>by cases h;cases h';exact q,fun q=>⟨_,_,rfl,rfl,q⟩⟩
theorem add_ii:binR .Add (.int i) (.int j) st Q=Q (.int (i + j)) st:=rfl
theorem add_tt:binR .Add (.tup xs) (.tup ys) st Q=(xs.length + ys.length≤sizeLine∧Q (.tup (xs++ys)) st):=rfl
theorem add_rr {a b:Addr}:binR .Add (.ref a) (.ref b) st Q=∃ xs ys,st a=some (.lst xs)∧st b=some (.lst ys)∧xs.length + ys.length≤sizeLine∧∀ p,st p=none→Q (.ref p) (updS st p (.lst (xs++ys))):=rfl
theorem sub_ii:binR .Sub (.int i) (.int j) st Q=Q (.int (i - j)) st:=rfl
theorem mul_ii:binR .Mult (.int i) (.int j) st Q=(CMulB i j∧Q (.int (i * j)) st):=rfl
theorem mod_ii:binR .Mod (.int i) (.int j) st Q=(0 < j∧Q (.int (i % j)) st):=rfl
theorem div_ii:binR .FloorDiv (.int i) (.int j) st Q=(CDivB i j∧Q (.int (i / j)) st):=rfl
theorem pow_ii:binR .Pow (.int i) (.int j) st Q=(CPow i j∧Q (.int (i ^ j.toNat)) st):=rfl
theorem deq_int:deq (.int i) (.int j)=decide (i=j):=by
 unfold deq D.py PyData.eqv;exact Bool.eq_iff_iff.mpr (by simp)
theorem deq_str {x y:Str}:deq (.str x) (.str y)=decide (x=y):=by
 unfold deq D.py PyData.eqv;exact Bool.eq_iff_iff.mpr (by simp)
noncomputable def deqs:List D→List D→Bool
 | [],[]=>true
 | x::xs,y::ys=>deq x y && deqs xs ys
 | _,_=>false
theorem deqs_py:∀ xs ys:List D,PyData.eqvAll (D.pys xs) (D.pys ys)=deqs xs ys
 | [],[]=>rfl
 | [],_::_=>rfl
 | _::_,[]=>rfl
 | x::xs,y::ys=>by show (PyData.eqv x.py y.py && PyData.eqvAll (D.pys xs) (D.pys ys))=_;rw [deqs_py xs ys];rfl
theorem deq_tup:deq (.tup xs) (.tup ys)=deqs xs ys:=by
 show PyData.eqv (.tuple (D.pys xs)) (.tuple (D.pys ys))=_
 rw [PyData.eqv,deqs_py]
theorem dp_int:dpth (.int i)=0:=rfl
theorem dp_str {x:Str}:dpth (.str x)=0:=rfl
theorem eq_ii:cmpR .Eq (.int i) (.int j) st Q=Q (.bl (decide (i=j))) st:=by
 show (_∧_∧_∧_)=_
 rw [deq_int];exact propext ⟨fun h=>h.2.2.2,fun h=>⟨rfl,rfl,by rw [dp_int,dp_int];exact Nat.zero_le _,h⟩⟩
theorem ne_ii:cmpR .NotEq (.int i) (.int j) st Q=Q (.bl (!decide (i=j))) st:=by
 show (_∧_∧_∧_)=_
 rw [deq_int];exact propext ⟨fun h=>h.2.2.2,fun h=>⟨rfl,rfl,by rw [dp_int,dp_int];exact Nat.zero_le _,h⟩⟩
theorem eq_ss {x y:String}:cmpR .Eq (.str (Str.ofString x)) (.str (Str.ofString y)) st Q=Q (.bl (decide (x=y))) st:=by
 show (_∧_∧_∧_)=_
 simp only [deq_str,ofString_inj];exact propext ⟨fun h=>h.2.2.2,fun h=>⟨pure_ofString _,pure_ofString _,by rw [dp_str,dp_str];exact Nat.zero_le _,h⟩⟩
theorem ne_ss {x y:String}:cmpR .NotEq (.str (Str.ofString x)) (.str (Str.ofString y)) st Q=Q (.bl (!decide (x=y))) st:=by
 show (_∧_∧_∧_)=_
 simp only [deq_str,ofString_inj];exact propext ⟨fun h=>h.2.2.2,fun h=>⟨pure_ofString _,pure_ofString _,by rw [dp_str,dp_str];exact Nat.zero_le _,h⟩⟩
theorem eq_dd:cmpR .Eq x y st Q=(x.pure=true∧y.pure=true∧Nat.min (dpth x) (dpth y)≤150∧Q (.bl (deq x y)) st):=by cases x <;> cases y <;> rfl
theorem lt_ii:cmpR .Lt (.int i) (.int j) st Q=Q (.bl (decide (i < j))) st:=rfl
theorem le_ii:cmpR .LtE (.int i) (.int j) st Q=Q (.bl (decide (i≤j))) st:=rfl
theorem gt_ii:cmpR .Gt (.int i) (.int j) st Q=Q (.bl (decide (j < i))) st:=rfl
theorem ge_ii:cmpR .GtE (.int i) (.int j) st Q=Q (.bl (decide (j≤i))) st:=rfl
theorem in_t:cmpR .In x (.tup ys) st Q=(x.pure=true∧D.pures ys=true∧dpth x≤150∧Q (.bl (ys.any fun y=>deq y x)) st):=rfl
theorem nin_t:cmpR .NotIn x (.tup ys) st Q=(x.pure=true∧D.pures ys=true∧dpth x≤150∧Q (.bl (!ys.any fun y=>deq y x)) st):=rfl
theorem ix_t:ixR (.tup ds) (.int i) st Q=∃ d,atI ds i=some d∧Q d st:=rfl
theorem ix_r:ixR (.ref a) (.int i) st Q=((∃ ds d,rdS st a ds∧atI ds i=some d∧Q d st) ∨ ∃ kvs d,st a=some (.dct kvs)∧lookK kvs (.inl i)=some d∧Q d st):=rfl
theorem rd_dct {kvs:List (Key × D)} (h:rdS st a ds) (h':st a=some (.dct kvs)):False:=by rcases h with h | h <;> rw [h] at h' <;> cases h'
theorem rd_det (h:rdS st a xs) (h':rdS st a ys):xs=ys:=by
 rcases h with h | h <;> rcases h' with h' | h' <;> rw [h] at h' <;> cases h' <;> rfl
theorem ix_rd (h:rdS st a ds):ixR (.ref a) (.int i) st Q=∃ d,atI ds i=some d∧Q d st:=by
 rw [ix_r];exact propext ⟨fun z=>z.elim (fun ⟨es,d,r,q⟩=>by rw [rd_det h r];exact ⟨d,q⟩) (fun ⟨_,_,e,_⟩=>(rd_dct h e).elim),fun ⟨d,q⟩=>.inl ⟨ds,d,h,q⟩⟩
theorem rd_up:rdS (updS st p (.lst ds)) p ds:=.inl updS_same
theorem ix_up:ixR (.ref p) (.int i) (updS st p (.lst ds)) Q=∃ d,atI ds i=some d∧Q d (updS st p (.lst ds)):=ix_rd rd_up
theorem at_0 {α:Type} {xs:List α}:atI xs 0=xs[0]?:=by
 unfold atI ixN;simp only [Int.le_refl,if_true];split
 ·rfl
 ·rename_i h;rw [List.getElem?_eq_none (by omega)];rfl
theorem at_nat {α:Type} {xs:List α} {k:Nat}:atI xs (k:Int)=xs[k]?:=by
 unfold atI ixN;rw [if_pos (by omega)];split
 ·rw [Int.toNat_natCast];rfl
 ·rename_i h;rw [List.getElem?_eq_none (by omega)];rfl
theorem at_1 {α:Type} {xs:List α}:atI xs 1=xs[1]?:=at_nat (k:=1)
theorem at_2 {α:Type} {xs:List α}:atI xs 2=xs[2]?:=at_nat (k:=2)
theorem at_3 {α:Type} {xs:List α}:atI xs 3=xs[3]?:=at_nat (k:=3)
theorem sl_t {lo hi:Option Int}:slR (.tup ds) lo hi st Q=(¬ (HT.sIx ds.length 0 lo=0∧HT.sIx ds.length ds.length hi=ds.length)∧Q (.tup (cutD ds lo hi)) st):=rfl
theorem sl_r {lo hi:Option Int} (h:rdS st a ds):slR (.ref a) lo hi st Q=∀ p,st p=none→Q (.ref p) (updS st p (.lst (cutD ds lo hi))):=by
 show (∃ ds,rdS st a ds∧_)=_
 exact propext ⟨fun ⟨es,r,q⟩=>by rw [rd_det h r];exact q,fun q=>⟨ds,h,q⟩⟩
theorem len_t:lenR (.tup ds) st Q=Q (.int ds.length) st:=rfl
theorem len_r (h:rdS st a ds):lenR (.ref a) st Q=Q (.int ds.length) st:=by
 show (∃ ds,rdS st a ds∧_)=_
 exact propext ⟨fun ⟨es,r,q⟩=>by rw [rd_det h r];exact q,fun q=>⟨ds,h,q⟩⟩
theorem len_up:lenR (.ref p) (updS st p (.lst ds)) Q=Q (.int ds.length) (updS st p (.lst ds)):=len_r rd_up
theorem int_b {b:Bool}:toIntR (.bl b) st Q=Q (.int (if b then 1 else 0)) st:=rfl
theorem int_i:toIntR (.int i) st Q=Q (.int i) st:=rfl
theorem list_t:listR (.tup ds) st Q=∀ p,st p=none→Q (.ref p) (updS st p (.lst ds)):=rfl
theorem tuple_t:tupleR (.tup ds) st Q=Q (.tup ds) st:=rfl
theorem tuple_r (h:rdS st a ds):tupleR (.ref a) st Q=Q (.tup ds) st:=by
 show (∃ ds,rdS st a ds∧_)=_
 exact propext ⟨fun ⟨es,r,q⟩=>by rw [rd_det h r];exact q,fun q=>⟨ds,h,q⟩⟩
theorem tuple_up:tupleR (.ref p) (updS st p (.lst ds)) Q=Q (.tup ds) (updS st p (.lst ds)):=tuple_r rd_up
theorem isl_r (h:rdS st a ds):isListR (.ref a) st Q=Q (.bl true) st:=by
 show (∃ ds,rdS st a ds∧_)=_
 exact propext ⟨fun ⟨es,r,q⟩=>q,fun q=>⟨ds,h,q⟩⟩
theorem isl_up:isListR (.ref p) (updS st p (.lst ds)) Q=Q (.bl true) (updS st p (.lst ds)):=isl_r rd_up
theorem isLR_r (h:rdS st a ds):isLR (.ref a) st=True:=propext ⟨fun _=>trivial,fun _=>⟨ds,h⟩⟩
theorem isLR_up:isLR (.ref p) (updS st p (.lst ds))=True:=isLR_r rd_up
theorem isTR_t:isTR (.tup ds) st=True:=rfl
theorem app_r (h:st a=some (.lst ds)):appR (.ref a) d st Q=(ds.length < sizeLine∧Q .non (updS st a (.lst (ds++[d])))):=by
 show (∃ ds,st a=some (.lst ds)∧_)=_
 exact propext ⟨fun ⟨es,r,q⟩=>by rw [h] at r;cases r;exact q,fun q=>⟨ds,h,q⟩⟩
theorem ext_r {b:Addr} (h:st a=some (.lst ds)) (h':st b=some (.lst es)):extR (.ref a) (.ref b) st Q=(ds.length + es.length≤sizeLine∧Q .non (updS st a (.lst (ds++es)))):=by
 show (∃ ds es,st a=some (.lst ds)∧st b=some (.lst es)∧_)=_
 exact propext ⟨fun ⟨_,_,r,r',q⟩=>by rw [h] at r;rw [h'] at r';cases r;cases r';exact q,fun q=>⟨ds,es,h,h',q⟩⟩
theorem for_nil {chk:Sto→Prop} {t:Tg} {tb:DS} {F:DEnds} {env:DEnv}:forL chk t tb F [] env st=(chk st∧F.nx env st):=by rw [forL]
theorem for_cons {chk:Sto→Prop} {t:Tg} {tb:DS} {F:DEnds} {env:DEnv}:forL chk t tb F (d::ds) env st=(chk st∧bindT t d env fun env'=>tb { F with nx:=forL chk t tb F ds,ct:=forL chk t tb F ds,bk:=F.nx } env' st):=by rw [forL]
theorem bind_n {k:Nat} {env:DEnv} {K:DEnv→Prop}:bindT (.n k) d env K=K (env.set k (some d)):=rfl
theorem bind_t {is:List Nat} {env:DEnv} {K:DEnv→Prop}:bindT (.tup is) (.tup ds) env K=(ds.length=is.length∧K (setAll env is ds)):=by
 show (∃ es,D.tup ds=.tup es∧_)=_
 exact propext ⟨fun ⟨es,r,q⟩=>by cases r;exact q,fun q=>⟨ds,rfl,q⟩⟩
theorem setAll_cons {env:DEnv} {k:Nat} {is:List Nat}:setAll env (k::is) (d::ds)=setAll (env.set k (some d)) is ds:=rfl
theorem setAll_nil {env:DEnv}:setAll env [] []=env:=rfl
theorem comp_nil {chk:Sto→Prop} {t:Tg} {tc:DB} {te:DT} {R:List D→Sto→Prop} {acc:List D} {env:DEnv}:compL chk t tc te R [] acc env st=(chk st∧R acc st):=by rw [compL]
theorem comp_cons {chk:Sto→Prop} {t:Tg} {tc:DB} {te:DT} {R:List D→Sto→Prop} {acc:List D} {env:DEnv}:compL chk t tc te R (d::ds) acc env st=(chk st∧bindT t d env fun env'=>tc env' st fun b st1=>if b=true then te env' st1 fun v st2=>compL chk t tc te R ds (acc++[v]) env' st2 else compL chk t tc te R ds acc env' st1):=by rw [compL]
theorem seq_t {k:ItK}:((∃ es,D.tup ds=.tup es∧k es (fun _=>True) st) ∨ (∃ a es,D.tup ds=.ref a∧rdS st a es∧k es (fun st'=>rdS st' a es) st))=k ds (fun _=>True) st:=
 propext ⟨(fun h=>by
  rcases h with ⟨es,r,q⟩ | ⟨a,es,r,_⟩
  ·cases r;exact q
  ·cases r),fun q=>.inl ⟨ds,rfl,q⟩⟩
theorem enum_t {k:ItK}:((∃ es,D.tup ds=.tup es∧k (enumD 0 es) (fun _=>True) st) ∨ (∃ a es,D.tup ds=.ref a∧rdS st a es∧k (enumD 0 es) (fun st'=>rdS st' a es) st))=k (enumD 0 ds) (fun _=>True) st:=
 propext ⟨(fun h=>by
  rcases h with ⟨es,r,q⟩ | ⟨a,es,r,_⟩
  ·cases r;exact q
  ·cases r),fun q=>.inl ⟨ds,rfl,q⟩⟩
end
end Ek
namespace Ek
open PySem L2
theorem for_inv {chk:Sto→Prop} {t:Tg} {tb:DS} {F:DEnds} (I:List D→DEnv→Sto→Prop) (h0:∀ env st,I [] env st→chk st∧F.nx env st)
  (h1:∀ d ds env st,(∀ env st,I ds env st→forL chk t tb F ds env st)→I (d::ds) env st→chk st∧bindT t d env fun env'=>tb { F with nx:=forL chk t tb F ds,ct:=forL chk t tb F ds,bk:=F.nx } env' st):∀ ds env st,I ds env st→forL chk t tb F ds env st
 | [],env,st,h=>by rw [for_nil];exact h0 env st h
 | d::ds,env,st,h=>by rw [for_cons];exact h1 d ds env st (for_inv I h0 h1 ds) h
theorem comp_inv {chk:Sto→Prop} {t:Tg} {tc:DB} {te:DT} {R:List D→Sto→Prop} (I:List D→List D→DEnv→Sto→Prop) (h0:∀ acc env st,I [] acc env st→chk st∧R acc st)
  (h1:∀ d ds acc env st,(∀ acc env st,I ds acc env st→compL chk t tc te R ds acc env st)→I (d::ds) acc env st→chk st∧bindT t d env fun env'=>tc env' st fun b st1=>if b=true then te env' st1 fun v st2=>compL chk t tc te R ds (acc++[v]) env' st2 else compL chk t tc te R ds acc env' st1):∀ ds acc env st,I ds acc env st→compL chk t tc te R ds acc env st
 | [],acc,env,st,h=>by rw [comp_nil];exact h0 acc env st h
 | d::ds,acc,env,st,h=>by rw [comp_cons];exact h1 d ds acc env st (comp_inv I h0 h1 ds) h
theorem tst_non {Z:Sg} {env:DEnv} {st:Sto} {K:Bool→Sto→Prop}:tstC Z .non env st K=K true st:=rfl
theorem tst_some {Z:Sg} {c:E} {env:DEnv} {st:Sto} {K:Bool→Sto→Prop} (h:c.isNon=false):tstC Z c env st K=wpE Z c env st fun d st'=>∃ b,d=.bl b∧K b st':=by unfold tstC;rw [h];rfl
theorem cmul_r {i j:Int} (h:-(2 ^ 64) < j∧j < 2 ^ 64):CMulB i j:=.inl (.inr h)
theorem cmul_l {i j:Int} (h:-(2 ^ 64) < i∧i < 2 ^ 64):CMulB i j:=.inl (.inl h)
theorem szLine {n:Nat} (h:n≤16000000):n≤sizeLine:=Nat.le_trans h (by decide)
theorem szLt {n:Nat} (h:n < 16000000):n < sizeLine:=Nat.lt_of_lt_of_le h (by decide)
end Ek
namespace Ek
noncomputable def Ss.drop:Nat→Ss→Ss
 | 0,s=>s
 | _ + 1,.nil=>.nil
 | k + 1,.cons _ r=>Ss.drop k r
end Ek
namespace Ek
theorem x_tr {ds:List D} {R:PySem.Addr→List D→Prop}:(∃ a es,D.tup ds=.ref a∧R a es)=False:=propext ⟨fun ⟨_,_,h,_⟩=>(by cases h),False.elim⟩
theorem x_rt {a:PySem.Addr} {R:List D→Prop}:(∃ es,D.ref a=.tup es∧R es)=False:=propext ⟨fun ⟨_,h,_⟩=>(by cases h),False.elim⟩
theorem x_rr {a:PySem.Addr} {R:PySem.Addr→List D→Prop}:(∃ b es,D.ref a=.ref b∧R b es)=∃ es,R a es:=propext ⟨fun ⟨_,es,h,q⟩=>by cases h;exact ⟨es,q⟩,fun ⟨es,q⟩=>⟨a,es,rfl,q⟩⟩
end Ek
namespace Ek
open PySem L2
section
variable {Z:Sg} {env:DEnv} {st:Sto} {k:Option Int→Sto→Prop} {K:Bool→Sto→Prop} {a b:E}
theorem bnd_bin {o:Operator}:bnd Z (.bin o a b) env st k=wpE Z (.bin o a b) env st fun d st'=>∃ i,d=.int i∧k (some i) st':=bnd_some rfl
theorem bnd_v {j:Nat}:bnd Z (.v j) env st k=wpE Z (.v j) env st fun d st'=>∃ i,d=.int i∧k (some i) st':=bnd_some rfl
theorem bnd_len:bnd Z (.len a) env st k=wpE Z (.len a) env st fun d st'=>∃ i,d=.int i∧k (some i) st':=bnd_some rfl
theorem bnd_neg:bnd Z (.neg a) env st k=wpE Z (.neg a) env st fun d st'=>∃ i,d=.int i∧k (some i) st':=bnd_some rfl
theorem bnd_ix:bnd Z (.ix a b) env st k=wpE Z (.ix a b) env st fun d st'=>∃ i,d=.int i∧k (some i) st':=bnd_some rfl
theorem bnd_call {f:Str} {es:Es}:bnd Z (.call f es) env st k=wpE Z (.call f es) env st fun d st'=>∃ i,d=.int i∧k (some i) st':=bnd_some rfl
theorem tst_cmp {o:CmpOp}:tstC Z (.cmp o a b) env st K=wpE Z (.cmp o a b) env st fun d st'=>∃ b,d=.bl b∧K b st':=tst_some rfl
theorem tst_and:tstC Z (.and a b) env st K=wpE Z (.and a b) env st fun d st'=>∃ b,d=.bl b∧K b st':=tst_some rfl
theorem tst_or:tstC Z (.or a b) env st K=wpE Z (.or a b) env st fun d st'=>∃ b,d=.bl b∧K b st':=tst_some rfl
theorem tst_not:tstC Z (.not a) env st K=wpE Z (.not a) env st fun d st'=>∃ b,d=.bl b∧K b st':=tst_some rfl
theorem tst_call {f:Str} {es:Es}:tstC Z (.call f es) env st K=wpE Z (.call f es) env st fun d st'=>∃ b,d=.bl b∧K b st':=tst_some rfl
end
end Ek
namespace Ek
open PySem L2
theorem sx_none {n d:Nat}:HT.sIx n d none=d:=rfl
theorem sx_nat {n d k:Nat}:HT.sIx n d (some (k:Int))=min k n:=by
 show (if (k:Int) < 0 then ((k:Int) + (n:Int)).toNat else min (k:Int).toNat n)=min k n
 rw [if_neg (by omega),Int.toNat_natCast]
theorem cut_to {ds:List D} {k:Nat}:cutD ds none (some (k:Int))=ds.take k:=by
 unfold cutD;rw [sx_none,sx_nat,List.drop_zero,Nat.sub_zero]
 by_cases h:k≤ds.length
 ·rw [Nat.min_eq_left h]
 ·rw [Nat.min_eq_right (by omega),List.take_of_length_le (Nat.le_refl _),List.take_of_length_le (by omega)]
theorem cut_from {ds:List D} {k:Nat}:cutD ds (some (k:Int)) none=ds.drop k:=by
 unfold cutD;rw [sx_none,sx_nat]
 by_cases h:k≤ds.length
 ·rw [Nat.min_eq_left h,List.take_of_length_le (by rw [List.length_drop];omega)]
 ·rw [Nat.min_eq_right (by omega),List.drop_of_length_le (Nat.le_refl _),List.drop_of_length_le (by omega),List.take_nil]
end Ek
namespace Ek
open PySem L2
theorem ext_t {st:Sto} {a:Addr} {ds es:List D} {Q:DK} (h:st a=some (.lst ds)):extR (.ref a) (.tup es) st Q=(ds.length + es.length≤sizeLine∧Q .non (updS st a (.lst (ds++es)))):=by
 show (∃ ds,st a=some (.lst ds)∧_)=_
 exact propext ⟨fun ⟨_,r,q⟩=>by rw [h] at r;cases r;exact q,fun q=>⟨ds,h,q⟩⟩
theorem cmpl_ll {ne:Bool} {st:Sto} {a b:Addr} {xs ys:List D} {xss yss:List (List D)} {Q:DK} (h1:rdS st a xs) (h2:rdS st b ys) (l1:rdLL st xs xss) (l2:rdLL st ys yss) (hd:PyData.depthAll (pyss xss)≤149) (q:Q (.bl (ne != PyData.eqvAll (pyss xss) (pyss yss))) st):cmplR ne (.ref a) (.ref b) st Q:=⟨xs,ys,h1,h2,.inr (.inr ⟨xss,yss,l1,l2,hd,q⟩)⟩
theorem s_while {Z:Sg} {F:DEnds} {env:DEnv} {st:Sto} {c:E} {b:Ss}:wpS Z (.while c b) F env st=∃ n,whileN (wpT Z c) (wpSs Z b) F n env st:=rfl
theorem wpT_def {Z:Sg} {e:E} {env:DEnv} {st:Sto} {K:Bool→Sto→Prop}:wpT Z e env st K=wpE Z e env st fun d st'=>∃ b,d=.bl b∧K b st':=rfl
theorem while_inv {tc:DB} {tb:DS} {F:DEnds} (I:Nat→DEnv→Sto→Prop) (step:∀ m env st (W:DEnv→Sto→Prop),I m env st→(∀ m' env' st',m' < m→I m' env' st'→W env' st')→tc env st fun b st1=>if b=true then tb { F with nx:=W,ct:=W,bk:=F.nx } env st1 else F.nx env st1):∀ m env st,I m env st→∃ n,whileN tc tb F n env st:=by
 have main:∀ k m env st,m≤k→I m env st→whileN tc tb F (k + 1) env st:=by
  intro k
  induction k with
  | zero=>
   intro m env st hm hI
   rw [whileN]
   exact step m env st _ hI fun m' env' st' hlt _=>by omega
  | succ k ih=>
   intro m env st hm hI
   rw [whileN]
   exact step m env st _ hI fun m' env' st' hlt hI'=>ih m' env' st' (by omega) hI'
 exact fun m env st hI=>⟨m + 1,main m m env st (Nat.le_refl _) hI⟩
theorem pop_r {st:Sto} {a:Addr} {ds:List D} {d:D} {Q:DK} (h:st a=some (.lst (ds++[d]))):popR (.ref a) st Q=Q d (updS st a (.lst ds)):=by
 show (∃ ds d,st a=some (.lst (ds++[d]))∧_)=_
 refine propext ⟨fun ⟨es,e,r,q⟩=>?_,fun q=>⟨ds,d,h,q⟩⟩
 rw [h] at r
 simp only [Option.some.injEq,Ob.lst.injEq] at r
 obtain ⟨r1,r2⟩:=List.append_inj' r rfl
 cases r2
 rw [r1];exact q
theorem rev_r {st:Sto} {a:Addr} {ds:List D} {Q:DK} (h:st a=some (.lst ds)):revR (.ref a) st Q=Q .non (updS st a (.lst ds.reverse)):=by
 show (∃ ds,st a=some (.lst ds)∧_)=_
 exact propext ⟨fun ⟨_,r,q⟩=>by rw [h] at r;cases r;exact q,fun q=>⟨ds,h,q⟩⟩
theorem in_d {st:Sto} {a:Addr} {kvs:List (Key × D)} {w:Str} {Q:DK} (h:st a=some (.dct kvs)):cmpR .In (.str w) (.ref a) st Q=Q (.bl (lookK kvs (.inr w)).isSome) st:=by
 show (∃ kvs,st a=some (.dct kvs)∧_)=_
 exact propext ⟨fun ⟨_,r,q⟩=>by rw [h] at r;cases r;exact q,fun q=>⟨kvs,h,q⟩⟩
theorem ix_d {st:Sto} {a:Addr} {kvs:List (Key × D)} {w:Str} {d:D} {Q:DK} (h:st a=some (.dct kvs)) (hl:lookK kvs (.inr w)=some d):ixR (.ref a) (.str w) st Q=Q d st:=by
 show (∃ kvs d,st a=some (.dct kvs)∧_)=_
 exact propext ⟨fun ⟨_,_,r,l,q⟩=>by rw [h] at r;cases r;rw [hl] at l;cases l;exact q,fun q=>⟨kvs,d,h,hl,q⟩⟩
theorem x_fn {f:Str} {Q:Str→Prop}:(∃ g,some (some (D.fn f))=some (some (.fn g))∧Q g)=Q f:=propext ⟨fun ⟨_,h,q⟩=>by cases h;exact q,fun q=>⟨f,rfl,q⟩⟩
end Ek
set_option Elab.async false
set_option linter.all false
set_option maxRecDepth 100000
namespace Ek
open PySem L2
inductive Kd where
 | non | one | eith (a b:Kd) | both (a b:Kd) | way (a b:Kd)
 deriving DecidableEq
noncomputable def Kd.d:Kd→D
 | .non=>.tup [.str "none"]
 | .one=>.tup [.str "one"]
 | .eith a b=>.tup [.str "either",a.d,b.d]
 | .both a b=>.tup [.str "both",a.d,b.d]
 | .way a b=>.tup [.str "way",a.d,b.d]
noncomputable def Kd.cnt:Kd→Nat
 | .non=>0 | .one=>1
 | .eith a b=>a.cnt + b.cnt
 | .both a b=>a.cnt * b.cnt
 | .way a b=>b.cnt ^ a.cnt
noncomputable def Kd.nest:Kd→Nat
 | .non=>0 | .one=>0
 | .eith a b=>1 + max a.nest b.nest
 | .both a b=>1 + max a.nest b.nest
 | .way a b=>1 + max a.nest b.nest
noncomputable def Kd.bd (m:Nat):Kd→Prop
 | .non=>True | .one=>1≤m
 | .eith a b=>a.bd m∧b.bd m∧a.cnt + b.cnt≤m
 | .both a b=>a.bd m∧b.bd m∧a.cnt * b.cnt≤m
 | .way a b=>a.bd m∧b.bd m∧b.cnt ^ a.cnt≤m
theorem Kd.bd_le {m:Nat}:∀ {k:Kd},k.bd m→k.cnt≤m
 | .non,_=>Nat.zero_le _
 | .one,h=>h
 | .eith _ _,h=>h.2.2
 | .both _ _,h=>h.2.2
 | .way _ _,h=>h.2.2
theorem Kd.bd_mono {m m':Nat} (hm:m≤m'):∀ {k:Kd},k.bd m→k.bd m'
 | .non,_=>trivial
 | .one,h=>Nat.le_trans h hm
 | .eith _ _,h=>⟨bd_mono hm h.1,bd_mono hm h.2.1,Nat.le_trans h.2.2 hm⟩
 | .both _ _,h=>⟨bd_mono hm h.1,bd_mono hm h.2.1,Nat.le_trans h.2.2 hm⟩
 | .way _ _,h=>⟨bd_mono hm h.1,bd_mono hm h.2.1,Nat.le_trans h.2.2 hm⟩
theorem bdSub {m:Nat} {k:Kd} (h:k.bd m):∀ a b,k=.eith a b ∨ k=.both a b ∨ k=.way a b→a.bd m∧b.bd m:=fun a b e=>by
 rcases e with e | e | e <;> (subst e;exact ⟨h.1,h.2.1⟩)
theorem pures_cons {d:D} {r:List D}:D.pures (d::r)=(d.pure && D.pures r):=rfl
theorem pure_tup {r:List D}:(D.tup r).pure=D.pures r:=rfl
noncomputable def dpths:List D→Nat
 | []=>0
 | d::r=>max (dpth d) (dpths r)
theorem dpths_py:∀ l:List D,PyData.depthAll (D.pys l)=dpths l
 | []=>rfl
 | d::r=>by show max (PyData.depth d.py) (PyData.depthAll (D.pys r))=_;rw [dpths_py r];rfl
theorem dp_tup {l:List D}:dpth (.tup l)=dpths l + 1:=by
 show PyData.depth (.tuple (D.pys l))=_
 rw [PyData.depth,dpths_py]
end Ek
set_option Elab.async false
set_option linter.all false
namespace Ek
open PySem
noncomputable def d_law_mixed:Def:=⟨2,["_law_cell","_law_k","_law_number"],
 (.cons (.set 2 (.bin .Mod (.bin .Add (.bin .Add (.bin .Mult (.bin .Mod (.v 0) (.int 2147483629)) (.int 48271)) (.bin .Mult (.int 7919) (.v 1))) (.int 13)) (.int 2147483629)))
 (.cons (.set 2 (.bin .Mod (.bin .Add (.bin .Mult (.v 2) (.bin .Add (.bin .FloorDiv (.v 2) (.int 5)) (.v 1))) (.bin .Mult (.int 16807) (.v 1))) (.int 2147483587)))
 (.cons (.ret (.bin .Mod (.bin .Add (.bin .Mult (.v 2) (.int 69621)) (.bin .FloorDiv (.v 2) (.int 127))) (.int 2147483647)))
 .nil)))⟩
noncomputable def d_law_deck:Def:=⟨1,["_law_script","_law_deck_here","_law_k","_law_cell","_law_number","_law_turn"],
 (.cons (.set 1 (.lst .nil))
 (.cons (.for (.tup [2,3]) (.enum (.sl (.v 0) .non (.int 63)))
   (.cons (.set 4 (.bin .Mod (.abs (.v 3)) (.bin .Pow (.int 2147483647) (.int 60))))
  (.cons (.iff (.cmp .Lt (.v 4) (.bin .Pow (.int 10) (.int 18)))
    (.cons (.ex (.ext (.v 1) (.comp ["_law_number","_law_k","_law_j"] [4,2] 1 (.n 2) (.rng (.int 7)) .non (.call "_law_mixed" (.cons (.v 0) (.cons (.bin .Add (.bin .Mult (.int 7) (.v 1)) (.v 2)) .nil))))))
   (.cons (.set 4 (.int 0))
   .nil))
    .nil)
  (.cons (.for (.n 5) (.rng (.int 60))
    (.cons (.iff (.cmp .Gt (.v 4) (.int 0))
     (.cons (.ex (.app (.v 1) (.bin .Mod (.v 4) (.int 2147483647))))
    (.cons (.set 4 (.bin .FloorDiv (.v 4) (.int 2147483647)))
    .nil))
     .nil)
   .nil))
  .nil))))
 (.cons (.for (.n 2) (.rng2 (.len (.v 1)) (.int 150))
   (.cons (.ex (.app (.v 1) (.call "_law_mixed" (.cons (.sum (.sl (.v 0) .non (.int 63))) (.cons (.v 2) .nil)))))
  .nil))
 (.cons (.ret (.sl (.v 1) .non (.int 900)))
 .nil))))⟩
noncomputable def d_law_next:Def:=⟨2,["_law_deck_here","_law_many"],
 (.cons (.iff (.cmp .Eq (.len (.v 0)) (.int 0))
   (.cons (.ret (.int 0))
  .nil)
   .nil)
 (.cons (.ret (.bin .Mod (.popAt (.v 0) (.int 0)) (.v 1)))
 .nil))⟩
noncomputable def d_law_power:Def:=⟨2,["_law_number","_law_times","_law_found","_law_turn"],
 (.cons (.set 2 (.int 1))
 (.cons (.for (.n 3) (.rng (.v 1))
   (.cons (.set 2 (.bin .Mult (.v 2) (.v 0)))
  .nil))
 (.cons (.ret (.v 2))
 .nil)))⟩
noncomputable def d_law_count:Def:=⟨1,["_law_kind_here","_law_one","_law_other"],
 (.cons (.iff (.cmp .Eq (.len (.v 0)) (.int 1))
   (.cons (.ret (.toInt (.cmp .Eq (.ix (.v 0) (.int 0)) (.str "one"))))
  .nil)
   .nil)
 (.cons (.set 1 (.call "_law_count" (.cons (.ix (.v 0) (.int 1)) .nil)))
 (.cons (.set 2 (.call "_law_count" (.cons (.ix (.v 0) (.int 2)) .nil)))
 (.cons (.ret (.dsel ["either","both","way"] (.cons (.bin .Add (.v 1) (.v 2)) (.cons (.bin .Mult (.v 1) (.v 2)) (.cons (.call "_law_power" (.cons (.v 2) (.cons (.v 1) .nil))) .nil))) (.ix (.v 0) (.int 0))))
 .nil))))⟩
noncomputable def d_law_kind:Def:=⟨3,["_law_deck_here","_law_deep","_law_most","_law_way","_law_word","_law_one","_law_other"],
 (.cons (.set 3 (.call "_law_next" (.cons (.v 0) (.cons (.ix (.lst (.cons (.int 1) (.cons (.int 6) .nil))) (.toInt (.cmp .Gt (.v 1) (.int 0)))) .nil))))
 (.cons (.iff (.or (.cmp .Eq (.v 3) (.int 0)) (.cmp .Eq (.v 3) (.int 5)))
   (.cons (.ret (.ix (.lst (.cons (.tup (.cons (.str "one") .nil)) (.cons (.tup (.cons (.str "either") (.cons (.tup (.cons (.str "one") .nil)) (.cons (.tup (.cons (.str "one") .nil)) .nil)))) .nil))) (.toInt (.and (.cmp .Eq (.v 3) (.int 5)) (.cmp .Gt (.v 2) (.int 1))))))
  .nil)
   .nil)
 (.cons (.set 4 (.ix (.lst (.cons (.str "either") (.cons (.str "both") (.cons (.str "way") (.cons (.str "either") .nil))))) (.bin .Sub (.v 3) (.int 1))))
 (.cons (.set 5 (.call "_law_kind" (.cons (.v 0) (.cons (.bin .Sub (.v 1) (.int 1)) (.cons (.v 2) .nil)))))
 (.cons (.set 6 (.call "_law_kind" (.cons (.v 0) (.cons (.bin .Sub (.v 1) (.int 1)) (.cons (.v 2) .nil)))))
 (.cons (.iff (.and (.cmp .NotEq (.v 4) (.str "both")) (.cmp .Eq (.call "_law_next" (.cons (.v 0) (.cons (.int 6) .nil))) (.int 1)))
   (.cons (.set 5 (.tup (.cons (.str "none") .nil)))
  .nil)
   (.cons (.iff (.and (.cmp .Eq (.v 4) (.str "either")) (.cmp .Eq (.call "_law_next" (.cons (.v 0) (.cons (.int 6) .nil))) (.int 1)))
    (.cons (.set 6 (.tup (.cons (.str "none") .nil)))
   .nil)
    .nil)
  .nil))
 (.cons (.iff (.and (.cmp .Eq (.v 4) (.str "way")) (.cmp .Gt (.call "_law_count" (.cons (.v 5) .nil)) (.int 6)))
   (.cons (.set 5 (.tup (.cons (.str "one") .nil)))
  .nil)
   .nil)
 (.cons (.iff (.cmp .Gt (.call "_law_count" (.cons (.tup (.cons (.v 4) (.cons (.v 5) (.cons (.v 6) .nil)))) .nil)) (.v 2))
   (.cons (.ret (.tup (.cons (.str "one") .nil)))
  .nil)
   .nil)
 (.cons (.ret (.tup (.cons (.v 4) (.cons (.v 5) (.cons (.v 6) .nil)))))
 .nil)))))))))⟩
noncomputable def d_law_least:Def:=⟨2,["_law_kind_here","_law_names_here","_law_word","_law_body"],
 (.cons (.set 2 (.ix (.v 0) (.int 0)))
 (.cons (.iff (.cmp .Eq (.v 2) (.str "none"))
   (.cons (.ret (.tup (.cons (.str "name") (.cons (.index (.v 1) (.v 0)) .nil))))
  .nil)
   .nil)
 (.cons (.iff (.cmp .Eq (.v 2) (.str "one"))
   (.cons (.ret (.tup (.cons (.str "star") .nil)))
  .nil)
   .nil)
 (.cons (.iff (.cmp .Eq (.v 2) (.str "both"))
   (.cons (.ret (.tup (.cons (.str "pair") (.cons (.call "_law_least" (.cons (.ix (.v 0) (.int 1)) (.cons (.v 1) .nil))) (.cons (.call "_law_least" (.cons (.ix (.v 0) (.int 2)) (.cons (.v 1) .nil))) .nil)))))
  .nil)
   .nil)
 (.cons (.iff (.cmp .Eq (.v 2) (.str "way"))
   (.cons (.set 3 (.bin .Add (.tup (.cons (.ix (.v 0) (.int 1)) .nil)) (.v 1)))
  (.cons (.ret (.tup (.cons (.str "way") (.cons (.ix (.v 0) (.int 1)) (.cons (.call "_law_least" (.cons (.ix (.v 0) (.int 2)) (.cons (.v 3) .nil))) .nil)))))
  .nil))
   .nil)
 (.cons (.iff (.cmp .Gt (.call "_law_count" (.cons (.ix (.v 0) (.int 1)) .nil)) (.int 0))
   (.cons (.ret (.tup (.cons (.str "left") (.cons (.ix (.v 0) (.int 2)) (.cons (.call "_law_least" (.cons (.ix (.v 0) (.int 1)) (.cons (.v 1) .nil))) .nil)))))
  .nil)
   .nil)
 (.cons (.ret (.tup (.cons (.str "right") (.cons (.ix (.v 0) (.int 1)) (.cons (.call "_law_least" (.cons (.ix (.v 0) (.int 2)) (.cons (.v 1) .nil))) .nil)))))
 .nil)))))))⟩
noncomputable def d_law_made:Def:=⟨5,["_law_deck_here","_law_kind_here","_law_names_here","_law_room","_law_deep","_law_word","_law_one","_law_side","_law_body"],
 (.cons (.set 5 (.ix (.v 1) (.int 0)))
 (.cons (.iff (.or (.cmp .Eq (.v 5) (.str "none")) (.cmp .Eq (.v 5) (.str "one")))
   (.cons (.ret (.call "_law_least" (.cons (.v 1) (.cons (.v 2) .nil))))
  .nil)
   .nil)
 (.cons (.iff (.cmp .Eq (.v 5) (.str "both"))
   (.cons (.set 6 (.call "_law_grown" (.cons (.v 0) (.cons (.ix (.v 1) (.int 1)) (.cons (.v 2) (.cons (.v 3) (.cons (.bin .Sub (.v 4) (.int 1)) .nil)))))))
  (.cons (.ret (.tup (.cons (.str "pair") (.cons (.v 6) (.cons (.call "_law_grown" (.cons (.v 0) (.cons (.ix (.v 1) (.int 2)) (.cons (.v 2) (.cons (.v 3) (.cons (.bin .Sub (.v 4) (.int 1)) .nil)))))) .nil)))))
  .nil))
   .nil)
 (.cons (.iff (.cmp .Eq (.v 5) (.str "way"))
   (.cons (.ret (.tup (.cons (.str "way") (.cons (.ix (.v 1) (.int 1)) (.cons (.call "_law_grown" (.cons (.v 0) (.cons (.ix (.v 1) (.int 2)) (.cons (.bin .Add (.tup (.cons (.ix (.v 1) (.int 1)) .nil)) (.v 2)) (.cons (.v 3) (.cons (.bin .Sub (.v 4) (.int 1)) .nil)))))) .nil)))))
  .nil)
   .nil)
 (.cons (.set 7 (.call "_law_next" (.cons (.v 0) (.cons (.int 2) .nil))))
 (.cons (.iff (.cmp .Eq (.call "_law_count" (.cons (.ix (.v 1) (.bin .Add (.int 1) (.v 7))) .nil)) (.int 0))
   (.cons (.set 7 (.bin .Sub (.int 1) (.v 7)))
  .nil)
   .nil)
 (.cons (.set 8 (.call "_law_grown" (.cons (.v 0) (.cons (.ix (.v 1) (.bin .Add (.int 1) (.v 7))) (.cons (.v 2) (.cons (.v 3) (.cons (.bin .Sub (.v 4) (.int 1)) .nil)))))))
 (.cons (.ret (.tup (.cons (.ix (.lst (.cons (.str "left") (.cons (.str "right") .nil))) (.v 7)) (.cons (.ix (.v 1) (.bin .Sub (.int 2) (.v 7))) (.cons (.v 8) .nil)))))
 .nil))))))))⟩
noncomputable def d_law_nest:Def:=⟨1,["_law_kind_here"],
 (.cons (.iff (.cmp .Eq (.len (.v 0)) (.int 1))
   (.cons (.ret (.int 0))
  .nil)
   .nil)
 (.cons (.ret (.bin .Add (.int 1) (.max (.call "_law_nest" (.cons (.ix (.v 0) (.int 1)) .nil)) (.call "_law_nest" (.cons (.ix (.v 0) (.int 2)) .nil)))))
 .nil))⟩
noncomputable def d_law_asked:Def:=⟨5,["_law_deck_here","_law_kind_here","_law_names_here","_law_room","_law_deep","_law_other","_law_way","_law_known","_law_more","_law_one"],
 (.cons (.set 5 (.call "_law_kind" (.cons (.v 0) (.cons (.int 1) (.cons (.int 4) .nil)))))
 (.cons (.iff (.or (.cmp .Gt (.call "_law_count" (.cons (.tup (.cons (.str "both") (.cons (.v 1) (.cons (.v 5) .nil)))) .nil)) (.int 100)) (.cmp .Gt (.call "_law_count" (.cons (.tup (.cons (.str "way") (.cons (.v 5) (.cons (.v 1) .nil)))) .nil)) (.int 100)))
   (.cons (.set 5 (.tup (.cons (.str "one") .nil)))
  .nil)
   .nil)
 (.cons (.set 6 (.call "_law_next" (.cons (.v 0) (.cons (.int 6) .nil))))
 (.cons (.iff (.cmp .Eq (.v 6) (.int 0))
   (.cons (.ret (.tup (.cons (.str "first") (.cons (.call "_law_grown" (.cons (.v 0) (.cons (.tup (.cons (.str "both") (.cons (.v 1) (.cons (.v 5) .nil)))) (.cons (.v 2) (.cons (.v 3) (.cons (.bin .Sub (.v 4) (.int 1)) .nil)))))) .nil))))
  .nil)
   .nil)
 (.cons (.iff (.cmp .Eq (.v 6) (.int 1))
   (.cons (.ret (.tup (.cons (.str "second") (.cons (.call "_law_grown" (.cons (.v 0) (.cons (.tup (.cons (.str "both") (.cons (.v 5) (.cons (.v 1) .nil)))) (.cons (.v 2) (.cons (.v 3) (.cons (.bin .Sub (.v 4) (.int 1)) .nil)))))) .nil))))
  .nil)
   .nil)
 (.cons (.iff (.cmp .Eq (.v 6) (.int 2))
   (.cons (.set 7 (.call "_law_grown" (.cons (.v 0) (.cons (.tup (.cons (.str "way") (.cons (.v 5) (.cons (.v 1) .nil)))) (.cons (.v 2) (.cons (.v 3) (.cons (.bin .Sub (.v 4) (.int 1)) .nil)))))))
  (.cons (.ret (.tup (.cons (.str "give") (.cons (.v 7) (.cons (.call "_law_grown" (.cons (.v 0) (.cons (.v 5) (.cons (.v 2) (.cons (.v 3) (.cons (.bin .Sub (.v 4) (.int 1)) .nil)))))) .nil)))))
  .nil))
   .nil)
 (.cons (.iff (.cmp .Eq (.v 6) (.int 3))
   (.cons (.set 7 (.call "_law_grown" (.cons (.v 0) (.cons (.v 5) (.cons (.v 2) (.cons (.v 3) (.cons (.bin .Sub (.v 4) (.int 1)) .nil)))))))
  (.cons (.ret (.tup (.cons (.str "let") (.cons (.v 7) (.cons (.call "_law_grown" (.cons (.v 0) (.cons (.v 1) (.cons (.bin .Add (.tup (.cons (.v 5) .nil)) (.v 2)) (.cons (.v 3) (.cons (.bin .Sub (.v 4) (.int 1)) .nil)))))) .nil)))))
  .nil))
   .nil)
 (.cons (.iff (.and (.cmp .Eq (.v 6) (.int 4)) (.cmp .In (.tup (.cons (.str "none") .nil)) (.v 2)))
   (.cons (.ret (.tup (.cons (.str "never") (.cons (.v 1) (.cons (.tup (.cons (.str "name") (.cons (.index (.v 2) (.tup (.cons (.str "none") .nil))) .nil))) .nil)))))
  .nil)
   .nil)
 (.cons (.set 8 (.call "_law_kind" (.cons (.v 0) (.cons (.int 1) (.cons (.int 4) .nil)))))
 (.cons (.set 7 (.call "_law_grown" (.cons (.v 0) (.cons (.tup (.cons (.str "either") (.cons (.v 5) (.cons (.v 8) .nil)))) (.cons (.v 2) (.cons (.v 3) (.cons (.bin .Sub (.v 4) (.int 1)) .nil)))))))
 (.cons (.set 9 (.call "_law_grown" (.cons (.v 0) (.cons (.v 1) (.cons (.bin .Add (.tup (.cons (.v 5) .nil)) (.v 2)) (.cons (.v 3) (.cons (.bin .Sub (.v 4) (.int 1)) .nil)))))))
 (.cons (.ret (.tup (.cons (.str "case") (.cons (.v 7) (.cons (.v 9) (.cons (.call "_law_grown" (.cons (.v 0) (.cons (.v 1) (.cons (.bin .Add (.tup (.cons (.v 8) .nil)) (.v 2)) (.cons (.v 3) (.cons (.bin .Sub (.v 4) (.int 1)) .nil)))))) .nil))))))
 .nil))))))))))))⟩
noncomputable def d_law_grown:Def:=⟨5,["_law_deck_here","_law_kind_here","_law_names_here","_law_room","_law_deep","_law_some","_law_way"],
 (.cons (.put (.v 3) (.int 0) (.bin .Sub (.ix (.v 3) (.int 0)) (.int 1)))
 (.cons (.set 5 (.comp ["_law_kind_here","_law_k","_law_name"] [1] 2 (.tup [1,2]) (.enum (.v 2)) (.cmp .Eq (.v 2) (.v 0)) (.v 1)))
 (.cons (.set 6 (.call "_law_next" (.cons (.v 0) (.cons (.int 8) .nil))))
 (.cons (.iff (.and (.cmp .Gt (.len (.v 5)) (.int 0)) (.cmp .Lt (.v 6) (.int 3)))
   (.cons (.ret (.tup (.cons (.str "name") (.cons (.ix (.v 5) (.call "_law_next" (.cons (.v 0) (.cons (.len (.v 5)) .nil)))) .nil))))
  .nil)
   .nil)
 (.cons (.iff (.or (.cmp .LtE (.ix (.v 3) (.int 0)) (.int 0)) (.or (.cmp .LtE (.v 4) (.int 0)) (.cmp .Eq (.v 1) (.tup (.cons (.str "none") .nil)))))
   (.cons (.ret (.call "_law_least" (.cons (.v 1) (.cons (.v 2) .nil))))
  .nil)
   .nil)
 (.cons (.iff (.or (.cmp .Lt (.v 6) (.int 6)) (.cmp .Gt (.call "_law_nest" (.cons (.v 1) .nil)) (.int 4)))
   (.cons (.ret (.call "_law_made" (.cons (.v 0) (.cons (.v 1) (.cons (.v 2) (.cons (.v 3) (.cons (.v 4) .nil)))))))
  .nil)
   .nil)
 (.cons (.ret (.call "_law_asked" (.cons (.v 0) (.cons (.v 1) (.cons (.v 2) (.cons (.v 3) (.cons (.v 4) .nil)))))))
 .nil)))))))⟩
noncomputable def d_law_inner:Def:=⟨1,["_law_program_here","_law_word"],
 (.cons (.set 1 (.ix (.v 0) (.int 0)))
 (.cons (.iff (.cmp .Eq (.v 1) (.str "name"))
   (.cons (.ret (.tup .nil))
  .nil)
   .nil)
 (.cons (.ret (.sl (.v 0) (.bin .Add (.int 1) (.toInt (.cmp .In (.v 1) (.tup (.cons (.str "left") (.cons (.str "right") (.cons (.str "way") (.cons (.str "never") .nil)))))))) .non))
 .nil)))⟩
noncomputable def d_law_parts:Def:=⟨1,["_law_program_here"],
 (.cons (.ret (.bin .Add (.int 1) (.sum (.comp ["_law_piece"] [] 1 (.n 0) (.seq (.call "_law_inner" (.cons (.v 0) .nil))) .non (.call "_law_parts" (.cons (.v 0) .nil))))))
 .nil)⟩
noncomputable def d_law_program:Def:=⟨4,["_law_deck_here","_law_kind_here","_law_names_here","_law_many","_law_found"],
 (.cons (.set 4 (.call "_law_grown" (.cons (.v 0) (.cons (.v 1) (.cons (.v 2) (.cons (.lst (.cons (.v 3) .nil)) (.cons (.int 8) .nil)))))))
 (.cons (.iff (.cmp .Gt (.call "_law_parts" (.cons (.v 4) .nil)) (.int 60))
   (.cons (.ret (.call "_law_least" (.cons (.v 1) (.cons (.v 2) .nil))))
  .nil)
   .nil)
 (.cons (.ret (.v 4))
 .nil)))⟩
noncomputable def d_law_names:Def:=⟨3,["_law_deck_here","_law_most","_law_lines","_law_names_here","_law_many","_law_k","_law_kind_here"],
 (.cons (.set 3 (.tup .nil))
 (.cons (.set 4 (.int 1))
 (.cons (.for (.n 5) (.rng (.call "_law_next" (.cons (.v 0) (.cons (.bin .Add (.v 1) (.int 1)) .nil))))
   (.cons (.set 6 (.call "_law_kind" (.cons (.v 0) (.cons (.int 2) (.cons (.int 16) .nil)))))
  (.cons (.iff (.cmp .Eq (.call "_law_next" (.cons (.v 0) (.cons (.int 12) .nil))) (.int 1))
    (.cons (.set 6 (.tup (.cons (.str "none") .nil)))
   .nil)
    .nil)
  (.cons (.iff (.cmp .LtE (.bin .Mult (.v 4) (.max (.int 1) (.call "_law_count" (.cons (.v 6) .nil)))) (.v 2))
    (.cons (.set 4 (.bin .Mult (.v 4) (.max (.int 1) (.call "_law_count" (.cons (.v 6) .nil)))))
   (.cons (.set 3 (.bin .Add (.v 3) (.tup (.cons (.v 6) .nil))))
   .nil))
    .nil)
  .nil))))
 (.cons (.ret (.v 3))
 .nil))))⟩
end Ek
set_option Elab.async false
set_option linter.all false
namespace Ek
open PySem
noncomputable def d_made_of_parts:Def:=⟨3,["whole","parts_of","made","order","done","here","many"],
 (.cons (.set 3 (.call "order_of_few" (.cons (.v 0) (.cons (.v 1) .nil))))
 (.cons (.iff (.isN (.v 3))
   (.cons .dead
  .nil)
   .nil)
 (.cons (.set 4 (.lst .nil))
 (.cons (.for (.tup [5,6]) (.rev (.v 3))
   (.cons (.ex (.app (.v 4) (.callv 2 (.cons (.v 5) (.cons (.ite (.cmp .Gt (.v 6) (.int 0)) (.call "taken" (.cons (.v 4) (.cons (.v 6) .nil))) (.lst .nil)) .nil)))))
  .nil))
 (.cons (.ret (.ix (.v 4) (.int 0)))
 .nil)))))⟩
noncomputable def d_order_of_few:Def:=⟨2,["whole","parts_of","order","ahead","here","parts"],
 (.cons (.set 2 (.lst .nil))
 (.cons (.set 3 (.lst (.cons (.v 0) .nil)))
 (.cons (.while (.cmp .Gt (.len (.v 3)) (.int 0))
   (.cons (.set 4 (.pop (.v 3)))
  (.cons (.set 5 (.callv 1 (.cons (.v 4) .nil)))
  (.cons (.ex (.app (.v 2) (.tup (.cons (.v 4) (.cons (.len (.v 5)) .nil)))))
  (.cons (.ex (.ext (.v 3) (.v 5)))
  (.cons (.iff (.cmp .Gt (.len (.v 2)) (.gc "FEW"))
    (.cons (.ret .non)
   .nil)
    .nil)
  .nil))))))
 (.cons (.ret (.v 2))
 .nil))))⟩
noncomputable def d_taken:Def:=⟨2,["done","many","parts","number"],
 (.cons (.set 2 (.lst .nil))
 (.cons (.for (.n 3) (.rng (.v 1))
   (.cons (.ex (.app (.v 2) (.pop (.v 0))))
  .nil))
 (.cons (.ex (.lrev (.v 2)))
 (.cons (.ret (.v 2))
 .nil))))⟩
noncomputable def d_things:Def:=⟨1,["kind"],
 (.cons (.ret (.call "built_up" (.cons (.v 0) (.cons (.dict ["none","one"] (.cons (.lst .nil) (.cons (.lst (.cons (.tup .nil) .nil)) .nil))) (.cons (.gf "joined_things") .nil)))))
 .nil)⟩
noncomputable def d_built_up:Def:=⟨3,["kind","plain","joined","made","!plain","!joined","!"],
 (.cons (.dfn 3 2 ["here","parts","plain","joined"] [1,2]
   (.cons (.ret (.ite (.cmp .In (.ix (.v 0) (.int 0)) (.v 2)) (.ix (.v 2) (.ix (.v 0) (.int 0))) (.callv 3 (.cons (.ix (.v 0) (.int 0)) (.cons (.ix (.v 1) (.int 0)) (.cons (.ix (.v 1) (.int 1)) .nil))))))
  .nil))
 (.cons (.ret (.call "made_of_parts" (.cons (.v 0) (.cons (.lam 1 ["here"] [] (.sl (.v 0) (.int 1) .non)) (.cons (.v 3) .nil)))))
 .nil))⟩
noncomputable def d_joined_things:Def:=⟨3,["word","first","second"],
 (.cons (.iff (.cmp .Eq (.v 0) (.str "either"))
   (.cons (.ret (.bin .Add (.comp ["thing"] [] 1 (.n 0) (.seq (.v 1)) .non (.tup (.cons (.str "l") (.cons (.v 0) .nil)))) (.comp ["thing"] [] 1 (.n 0) (.seq (.v 2)) .non (.tup (.cons (.str "r") (.cons (.v 0) .nil))))))
  .nil)
   .nil)
 (.cons (.iff (.cmp .Eq (.v 0) (.str "both"))
   (.cons (.ret (.call "pairs" (.cons (.v 1) (.cons (.v 2) .nil))))
  .nil)
   .nil)
 (.cons (.ret (.comp ["row"] [] 1 (.n 0) (.seq (.call "rows_over" (.cons (.len (.v 1)) (.cons (.v 2) .nil)))) .non (.tup (.cons (.str "w") (.cons (.v 0) .nil)))))
 .nil)))⟩
noncomputable def d_pairs:Def:=⟨2,["first","second","answer","thing"],
 (.cons (.set 2 (.lst .nil))
 (.cons (.for (.n 3) (.seq (.v 0))
   (.cons (.ex (.ext (.v 2) (.comp ["thing","other"] [3] 1 (.n 1) (.seq (.v 1)) .non (.tup (.cons (.str "p") (.cons (.v 0) (.cons (.v 1) .nil)))))))
  .nil))
 (.cons (.ret (.v 2))
 .nil)))⟩
noncomputable def d_rows_over:Def:=⟨2,["length","choices","rows","done","longer","row"],
 (.cons (.set 2 (.lst (.cons (.tup .nil) .nil)))
 (.cons (.for (.n 3) (.rng (.v 0))
   (.cons (.set 4 (.lst .nil))
  (.cons (.for (.n 5) (.seq (.v 2))
    (.cons (.ex (.ext (.v 4) (.comp ["row","choice"] [5] 1 (.n 1) (.seq (.v 1)) .non (.bin .Add (.v 0) (.tup (.cons (.v 1) .nil))))))
   .nil))
  (.cons (.set 2 (.v 4))
  .nil))))
 (.cons (.ret (.v 2))
 .nil)))⟩
end Ek
set_option Elab.async false
set_option linter.all false
namespace Ek
open PySem
noncomputable def d_things_within_k61:Def:=⟨1,["held","kind","thing"],
 (.cons (.set 1 (.ix (.v 0) (.int 0)))
 (.cons (.set 2 (.ix (.v 0) (.int 1)))
 (.cons (.iff (.cmp .Eq (.ix (.v 1) (.int 0)) (.str "one"))
   (.cons (.ret (.lst .nil))
  .nil)
   .nil)
 (.cons (.iff (.cmp .Eq (.ix (.v 1) (.int 0)) (.str "both"))
   (.cons (.ret (.lst (.cons (.tup (.cons (.ix (.v 1) (.int 1)) (.cons (.ix (.v 2) (.int 1)) .nil))) (.cons (.tup (.cons (.ix (.v 1) (.int 2)) (.cons (.ix (.v 2) (.int 2)) .nil))) .nil))))
  .nil)
   .nil)
 (.cons (.iff (.cmp .Eq (.ix (.v 1) (.int 0)) (.str "way"))
   (.cons (.ret (.comp ["kind","given"] [1] 1 (.n 1) (.seq (.ix (.v 2) (.int 1))) .non (.tup (.cons (.ix (.v 0) (.int 2)) (.cons (.v 1) .nil)))))
  .nil)
   .nil)
 (.cons (.ret (.lst (.cons (.tup (.cons (.ite (.cmp .Eq (.ix (.v 2) (.int 0)) (.str "l")) (.ix (.v 1) (.int 1)) (.ix (.v 1) (.int 2))) (.cons (.ix (.v 2) (.int 1)) .nil))) .nil)))
 .nil))))))⟩
noncomputable def d_plain_thing_k61:Def:=⟨2,["kind","thing"],
 (.cons (.ret (.call "made_of_parts" (.cons (.tup (.cons (.v 0) (.cons (.v 1) .nil))) (.cons (.gf "things_within") (.cons (.gf "plain_by_parts") .nil)))))
 .nil)⟩
noncomputable def d_plain_by_parts_k61:Def:=⟨2,["held","parts","kind"],
 (.cons (.set 2 (.ix (.v 0) (.int 0)))
 (.cons (.iff (.cmp .Eq (.ix (.v 2) (.int 0)) (.str "one"))
   (.cons (.ret (.tup (.cons (.str "star") .nil)))
  .nil)
   .nil)
 (.cons (.iff (.cmp .Eq (.ix (.v 2) (.int 0)) (.str "both"))
   (.cons (.ret (.tup (.cons (.str "pair") (.cons (.ix (.v 1) (.int 0)) (.cons (.ix (.v 1) (.int 1)) .nil)))))
  .nil)
   .nil)
 (.cons (.iff (.cmp .Eq (.ix (.v 2) (.int 0)) (.str "way"))
   (.cons (.ret (.tup (.cons (.str "way") (.cons (.ix (.v 2) (.int 1)) (.cons (.call "asking" (.cons (.sl (.v 2) (.int 1) (.int 2)) (.cons (.ix (.v 2) (.int 2)) (.cons (.v 1) .nil)))) .nil)))))
  .nil)
   .nil)
 (.cons (.ret (.ite (.cmp .Eq (.ix (.ix (.v 0) (.int 1)) (.int 0)) (.str "l")) (.tup (.cons (.str "left") (.cons (.ix (.v 2) (.int 2)) (.cons (.ix (.v 1) (.int 0)) .nil)))) (.tup (.cons (.str "right") (.cons (.ix (.v 2) (.int 1)) (.cons (.ix (.v 1) (.int 0)) .nil))))))
 .nil)))))⟩
noncomputable def d_plain_table_k61:Def:=⟨3,["names","kind","table"],
 (.cons (.ret (.call "asking" (.cons (.v 0) (.cons (.v 1) (.cons (.comp ["kind","thing"] [1] 1 (.n 1) (.seq (.v 2)) .non (.call "plain_thing" (.cons (.v 0) (.cons (.v 1) .nil)))) .nil)))))
 .nil)⟩
noncomputable def d_asked_names_k61:Def:=⟨1,["names","chain","level","kind"],
 (.cons (.set 1 .non)
 (.cons (.for (.tup [2,3]) (.enumr (.v 0))
   (.cons (.set 1 (.tup (.cons (.tup (.cons (.v 2) (.cons (.tup .nil) (.cons (.v 3) .nil)))) (.cons (.v 1) .nil))))
  .nil))
 (.cons (.ret (.v 1))
 .nil)))⟩
noncomputable def d_expression_k61:Def:=⟨3,["level","looks","depth","program","look"],
 (.cons (.set 3 (.tup (.cons (.str "name") (.cons (.bin .Sub (.bin .Sub (.v 2) (.int 1)) (.v 0)) .nil))))
 (.cons (.for (.n 4) (.seq (.v 1))
   (.cons (.set 3 (.bin .Add (.tup (.cons (.ix (.v 4) (.int 0)) (.cons (.v 3) .nil))) (.sl (.v 4) (.int 1) .non)))
  .nil))
 (.cons (.ret (.v 3))
 .nil)))⟩
noncomputable def d_opened_k61:Def:=⟨2,["asked","chain","kind","parts","part"],
 (.cons (.set 2 (.ix (.v 0) (.int 2)))
 (.cons (.set 3 (.lst .nil))
 (.cons (.iff (.cmp .Eq (.ix (.v 2) (.int 0)) (.str "both"))
   (.cons (.set 3 (.lst (.cons (.call "looked_at" (.cons (.v 0) (.cons (.tup (.cons (.str "first") .nil)) (.cons (.ix (.v 2) (.int 1)) .nil)))) (.cons (.call "looked_at" (.cons (.v 0) (.cons (.tup (.cons (.str "second") .nil)) (.cons (.ix (.v 2) (.int 2)) .nil)))) .nil))))
  .nil)
   .nil)
 (.cons (.iff (.and (.cmp .Eq (.ix (.v 2) (.int 0)) (.str "way")) (.not (.call "asks_nothing" (.cons (.v 2) .nil))))
   (.cons (.set 3 (.comp ["asked","kind","thing"] [0,2] 1 (.n 2) (.seq (.call "things" (.cons (.ix (.v 2) (.int 1)) .nil))) .non (.call "looked_at" (.cons (.v 0) (.cons (.tup (.cons (.str "give") (.cons (.call "plain_thing" (.cons (.ix (.v 1) (.int 1)) (.cons (.v 2) .nil))) .nil))) (.cons (.ix (.v 1) (.int 2)) .nil))))))
  .nil)
   .nil)
 (.cons (.for (.n 4) (.rev (.v 3))
   (.cons (.iff (.not (.call "asks_nothing" (.cons (.ix (.v 4) (.int 2)) .nil)))
    (.cons (.set 1 (.tup (.cons (.v 4) (.cons (.v 1) .nil))))
   .nil)
    .nil)
  .nil))
 (.cons (.ret (.v 1))
 .nil))))))⟩
noncomputable def d_asks_nothing_k61:Def:=⟨1,["kind"],
 (.cons (.ret (.not (.ix (.call "built_up" (.cons (.v 0) (.cons (.dict ["none","one"] (.cons (.tup (.cons (.bl true) (.cons (.bl false) .nil))) (.cons (.tup (.cons (.bl false) (.cons (.bl true) .nil))) .nil))) (.cons (.gf "joined_asking") .nil)))) (.int 0))))
 .nil)⟩
noncomputable def d_joined_asking_k61:Def:=⟨3,["word","first","second"],
 (.cons (.iff (.cmp .Eq (.v 0) (.str "either"))
   (.cons (.ret (.tup (.cons (.bl true) (.cons (.or (.ix (.v 1) (.int 1)) (.ix (.v 2) (.int 1))) .nil))))
  .nil)
   .nil)
 (.cons (.iff (.cmp .Eq (.v 0) (.str "both"))
   (.cons (.ret (.tup (.cons (.or (.ix (.v 1) (.int 0)) (.ix (.v 2) (.int 0))) (.cons (.and (.ix (.v 1) (.int 1)) (.ix (.v 2) (.int 1))) .nil))))
  .nil)
   .nil)
 (.cons (.ret (.tup (.cons (.and (.ix (.v 1) (.int 1)) (.ix (.v 2) (.int 0))) (.cons (.or (.ix (.v 2) (.int 1)) (.not (.ix (.v 1) (.int 1)))) .nil))))
 .nil)))⟩
noncomputable def d_looked_at_k61:Def:=⟨3,["asked","look","kind"],
 (.cons (.ret (.tup (.cons (.ix (.v 0) (.int 0)) (.cons (.bin .Add (.ix (.v 0) (.int 1)) (.tup (.cons (.v 1) .nil))) (.cons (.v 2) .nil)))))
 .nil)⟩
noncomputable def d_asking_k61:Def:=⟨3,["names","kind","programs","left","done","ahead","task","asked","depth","here","branches"],
 (.cons (.set 3 (.lrl (.v 2)))
 (.cons (.set 4 (.lst .nil))
 (.cons (.set 5 (.lst (.cons (.tup (.cons (.str "ask") (.cons (.call "asked_names" (.cons (.v 0) .nil)) (.cons (.len (.v 0)) .nil)))) .nil)))
 (.cons (.while (.cmp .Gt (.len (.v 5)) (.int 0))
   (.cons (.set 6 (.pop (.v 5)))
  (.cons (.iff (.cmp .Eq (.ix (.v 6) (.int 0)) (.str "join"))
    (.cons (.ex (.app (.v 4) (.bin .Add (.ix (.v 6) (.int 1)) (.tuple (.call "taken" (.cons (.v 4) (.cons (.int 2) .nil)))))))
   (.cons .cont
   .nil))
    .nil)
  (.cons (.set 7 (.call "next_asked" (.cons (.ix (.v 6) (.int 1)) .nil)))
  (.cons (.set 8 (.ix (.v 6) (.int 2)))
  (.cons (.iff (.isN (.v 7))
    (.cons (.ex (.app (.v 4) (.pop (.v 3))))
   (.cons .cont
   .nil))
    .nil)
  (.cons (.set 9 (.call "expression" (.cons (.ix (.ix (.v 7) (.int 0)) (.int 0)) (.cons (.ix (.ix (.v 7) (.int 0)) (.int 1)) (.cons (.v 8) .nil)))))
  (.cons (.iff (.cmp .Eq (.ix (.ix (.ix (.v 7) (.int 0)) (.int 2)) (.int 0)) (.str "none"))
    (.cons (.ex (.app (.v 4) (.tup (.cons (.str "never") (.cons (.v 1) (.cons (.v 9) .nil))))))
   .nil)
    (.cons (.set 10 (.comp ["depth","asked","half"] [8,7] 1 (.n 2) (.seq (.sl (.ix (.ix (.v 7) (.int 0)) (.int 2)) (.int 1) .non)) .non (.tup (.cons (.str "ask") (.cons (.tup (.cons (.tup (.cons (.v 0) (.cons (.tup .nil) (.cons (.v 2) .nil)))) (.cons (.ix (.v 1) (.int 1)) .nil))) (.cons (.bin .Add (.v 0) (.int 1)) .nil))))))
   (.cons (.ex (.ext (.v 5) (.lst (.cons (.tup (.cons (.str "join") (.cons (.tup (.cons (.str "case") (.cons (.v 9) .nil))) .nil))) (.cons (.ix (.v 10) (.int 1)) (.cons (.ix (.v 10) (.int 0)) .nil))))))
   .nil)))
  .nil))))))))
 (.cons (.ret (.ix (.v 4) (.int 0)))
 .nil)))))⟩
noncomputable def d_next_asked_k61:Def:=⟨1,["chain"],
 (.cons (.while (.and (.notN (.v 0)) (.cmp .NotIn (.ix (.ix (.ix (.v 0) (.int 0)) (.int 2)) (.int 0)) (.tup (.cons (.str "none") (.cons (.str "either") .nil)))))
   (.cons (.set 0 (.call "opened" (.cons (.ix (.v 0) (.int 0)) (.cons (.ix (.v 0) (.int 1)) .nil))))
  .nil))
 (.cons (.ret (.v 0))
 .nil))⟩
noncomputable def d_law_deck_k61:Def:=⟨1,["_law_script","_law_deck_here","_law_cell","_law_number","_law_k"],
 (.cons (.set 1 (.lst .nil))
 (.cons (.for (.n 2) (.seq (.sl (.v 0) .non (.int 63)))
   (.cons (.set 3 (.bin .Mult (.v 2) (.toInt (.cmp .GtE (.v 2) (.bin .Pow (.int 10) (.int 18))))))
  (.cons (.for (.n 4) (.rng (.int 60))
    (.cons (.iff (.cmp .Gt (.v 3) (.int 0))
     (.cons (.ex (.app (.v 1) (.bin .Mod (.v 3) (.int 2147483647))))
    (.cons (.set 3 (.bin .FloorDiv (.v 3) (.int 2147483647)))
    .nil))
     .nil)
   .nil))
  .nil)))
 (.cons (.for (.n 4) (.rng2 (.len (.v 1)) (.int 200))
   (.cons (.set 2 (.bin .Mult (.int 3) (.v 4)))
  (.cons (.iff (.cmp .Gt (.len (.v 0)) (.int 0))
    (.cons (.set 2 (.bin .Mod (.ix (.v 0) (.bin .Mod (.v 4) (.min (.int 63) (.len (.v 0))))) (.int 2147483629)))
   .nil)
    .nil)
  (.cons (.set 3 (.bin .Mod (.bin .Add (.bin .Add (.bin .Mult (.v 2) (.int 48271)) (.bin .Mult (.int 7919) (.v 4))) (.int 13)) (.int 2147483629)))
  (.cons (.set 3 (.bin .Mod (.bin .Add (.bin .Mult (.v 3) (.bin .Add (.bin .FloorDiv (.v 3) (.int 5)) (.v 4))) (.bin .Mult (.int 16807) (.v 4))) (.int 2147483587)))
  (.cons (.ex (.app (.v 1) (.bin .Mod (.bin .Add (.bin .Mult (.v 3) (.int 69621)) (.bin .FloorDiv (.v 3) (.int 127))) (.int 2147483647))))
  .nil))))))
 (.cons (.ret (.sl (.v 1) .non (.int 200)))
 .nil))))⟩
noncomputable def d_law_next_k61:Def:=⟨2,["_law_deck_here","_law_many_here"],
 (.cons (.iff (.cmp .Eq (.len (.v 0)) (.int 0))
   (.cons (.ret (.int 0))
  .nil)
   .nil)
 (.cons (.ret (.bin .Mod (.popAt (.v 0) (.int 0)) (.v 1)))
 .nil))⟩
noncomputable def d_law_crossed_k61:Def:=⟨2,["_law_ones","_law_others","_law_found","_law_one"],
 (.cons (.set 2 (.lst .nil))
 (.cons (.for (.n 3) (.seq (.v 0))
   (.cons (.ex (.ext (.v 2) (.comp ["_law_one","_law_other"] [3] 1 (.n 1) (.seq (.v 1)) .non (.tup (.cons (.v 0) (.cons (.v 1) .nil))))))
  .nil))
 (.cons (.ret (.v 2))
 .nil)))⟩
noncomputable def d_law_things_k61:Def:=⟨1,["_law_kind_here","_law_ones","_law_others","_law_found","_law_one"],
 (.cons (.iff (.cmp .Eq (.ix (.v 0) (.int 0)) (.str "none"))
   (.cons (.ret (.lst .nil))
  .nil)
   .nil)
 (.cons (.iff (.cmp .Eq (.ix (.v 0) (.int 0)) (.str "one"))
   (.cons (.ret (.lst (.cons (.tup .nil) .nil)))
  .nil)
   .nil)
 (.cons (.set 1 (.call "_law_things" (.cons (.ix (.v 0) (.int 1)) .nil)))
 (.cons (.set 2 (.call "_law_things" (.cons (.ix (.v 0) (.int 2)) .nil)))
 (.cons (.iff (.cmp .Eq (.ix (.v 0) (.int 0)) (.str "either"))
   (.cons (.ret (.bin .Add (.comp ["_law_one"] [] 1 (.n 0) (.seq (.v 1)) .non (.tup (.cons (.str "l") (.cons (.v 0) .nil)))) (.comp ["_law_one"] [] 1 (.n 0) (.seq (.v 2)) .non (.tup (.cons (.str "r") (.cons (.v 0) .nil))))))
  .nil)
   .nil)
 (.cons (.iff (.cmp .Eq (.ix (.v 0) (.int 0)) (.str "both"))
   (.cons (.ret (.comp ["_law_pair"] [] 1 (.n 0) (.seq (.call "_law_crossed" (.cons (.v 1) (.cons (.v 2) .nil)))) .non (.bin .Add (.tup (.cons (.str "p") .nil)) (.v 0))))
  .nil)
   .nil)
 (.cons (.set 3 (.lst (.cons (.tup .nil) .nil)))
 (.cons (.for (.n 4) (.seq (.v 1))
   (.cons (.set 3 (.comp ["_law_row","_law_other"] [] 2 (.tup [0,1]) (.seq (.call "_law_crossed" (.cons (.v 3) (.cons (.v 2) .nil)))) .non (.bin .Add (.v 0) (.tup (.cons (.v 1) .nil)))))
  .nil))
 (.cons (.ret (.comp ["_law_row"] [] 1 (.n 0) (.seq (.v 3)) .non (.tup (.cons (.str "w") (.cons (.v 0) .nil)))))
 .nil)))))))))⟩
noncomputable def d_law_many_k61:Def:=⟨1,["_law_kind_here","_law_one","_law_other","_law_found","_law_k"],
 (.cons (.iff (.or (.cmp .Eq (.ix (.v 0) (.int 0)) (.str "none")) (.cmp .Eq (.ix (.v 0) (.int 0)) (.str "one")))
   (.cons (.ret (.toInt (.cmp .Eq (.ix (.v 0) (.int 0)) (.str "one"))))
  .nil)
   .nil)
 (.cons (.set 1 (.call "_law_many" (.cons (.ix (.v 0) (.int 1)) .nil)))
 (.cons (.set 2 (.call "_law_many" (.cons (.ix (.v 0) (.int 2)) .nil)))
 (.cons (.iff (.cmp .Eq (.ix (.v 0) (.int 0)) (.str "either"))
   (.cons (.ret (.bin .Add (.v 1) (.v 2)))
  .nil)
   .nil)
 (.cons (.iff (.cmp .Eq (.ix (.v 0) (.int 0)) (.str "both"))
   (.cons (.ret (.bin .Mult (.v 1) (.v 2)))
  .nil)
   .nil)
 (.cons (.set 3 (.int 1))
 (.cons (.for (.n 4) (.rng (.v 1))
   (.cons (.set 3 (.bin .Mult (.v 3) (.v 2)))
  .nil))
 (.cons (.ret (.v 3))
 .nil))))))))⟩
noncomputable def d_law_rows_k61:Def:=⟨1,["_law_names_here","_law_lines","_law_kind_here"],
 (.cons (.set 1 (.lst (.cons (.tup .nil) .nil)))
 (.cons (.for (.n 2) (.seq (.v 0))
   (.cons (.set 1 (.comp ["_law_row","_law_thing"] [] 2 (.tup [0,1]) (.seq (.call "_law_crossed" (.cons (.v 1) (.cons (.call "_law_things" (.cons (.v 2) .nil)) .nil)))) .non (.bin .Add (.v 0) (.tup (.cons (.v 1) .nil)))))
  .nil))
 (.cons (.ret (.v 1))
 .nil)))⟩
noncomputable def d_law_kind_k61:Def:=⟨3,["_law_deck_here","_law_deep","_law_most","_law_way","_law_two","_law_one","_law_other","_law_kind_here"],
 (.cons (.set 3 (.call "_law_next" (.cons (.v 0) (.cons (.int 9) .nil))))
 (.cons (.set 4 (.tup (.cons (.str "either") (.cons (.tup (.cons (.str "one") .nil)) (.cons (.tup (.cons (.str "one") .nil)) .nil)))))
 (.cons (.iff (.or (.cmp .Eq (.v 1) (.int 0)) (.cmp .Eq (.v 3) (.int 0)))
   (.cons (.ret (.ix (.lst (.cons (.tup (.cons (.str "one") .nil)) (.cons (.v 4) (.cons (.v 4) .nil)))) (.call "_law_next" (.cons (.v 0) (.cons (.int 3) .nil)))))
  .nil)
   .nil)
 (.cons (.iff (.cmp .Eq (.v 3) (.int 1))
   (.cons (.ret (.ix (.lst (.cons (.tup (.cons (.str "none") .nil)) (.cons (.tup (.cons (.str "one") .nil)) .nil))) (.call "_law_next" (.cons (.v 0) (.cons (.int 2) .nil)))))
  .nil)
   .nil)
 (.cons (.set 5 (.call "_law_kind" (.cons (.v 0) (.cons (.bin .Sub (.v 1) (.int 1)) (.cons (.v 2) .nil)))))
 (.cons (.set 6 (.call "_law_kind" (.cons (.v 0) (.cons (.bin .Sub (.v 1) (.int 1)) (.cons (.v 2) .nil)))))
 (.cons (.set 7 (.tup (.cons (.ix (.lst (.cons (.str "either") (.cons (.str "both") (.cons (.str "way") .nil)))) (.bin .Mod (.v 3) (.int 3))) (.cons (.v 5) (.cons (.v 6) .nil)))))
 (.cons (.iff (.cmp .Gt (.call "_law_many" (.cons (.v 7) .nil)) (.v 2))
   (.cons (.ret (.v 4))
  .nil)
   .nil)
 (.cons (.ret (.v 7))
 .nil)))))))))⟩
noncomputable def d_law_names_k61:Def:=⟨2,["_law_deck_here","_law_most","_law_names_here","_law_lines","_law_k","_law_kind_here"],
 (.cons (.set 2 (.tup .nil))
 (.cons (.set 3 (.int 1))
 (.cons (.for (.n 4) (.rng (.call "_law_next" (.cons (.v 0) (.cons (.int 4) .nil))))
   (.cons (.set 5 (.call "_law_kind" (.cons (.v 0) (.cons (.int 2) (.cons (.v 1) .nil)))))
  (.cons (.iff (.cmp .LtE (.bin .Mult (.v 3) (.call "_law_many" (.cons (.v 5) .nil))) (.v 1))
    (.cons (.set 2 (.bin .Add (.v 2) (.tup (.cons (.v 5) .nil))))
   (.cons (.set 3 (.bin .Mult (.v 3) (.call "_law_many" (.cons (.v 5) .nil))))
   .nil))
    .nil)
  .nil)))
 (.cons (.ret (.v 2))
 .nil))))⟩
end Ek
set_option Elab.async false
set_option linter.all false
namespace Ek
open PySem
noncomputable def d_law_dressed_k62:Def:=⟨2,["_law_kind_here","_law_thing"],
 (.cons (.iff (.cmp .Eq (.ix (.v 0) (.int 0)) (.str "either"))
   (.cons (.ret (.tup (.cons (.ix (.v 1) (.int 0)) (.cons (.call "_law_dressed" (.cons (.ix (.v 0) (.bin .Add (.int 1) (.toInt (.cmp .Eq (.ix (.v 1) (.int 0)) (.str "r"))))) (.cons (.ix (.v 1) (.int 1)) .nil))) .nil))))
  .nil)
   .nil)
 (.cons (.iff (.cmp .Eq (.ix (.v 0) (.int 0)) (.str "both"))
   (.cons (.ret (.tup (.cons (.str "p") (.cons (.call "_law_dressed" (.cons (.ix (.v 0) (.int 1)) (.cons (.ix (.v 1) (.int 1)) .nil))) (.cons (.call "_law_dressed" (.cons (.ix (.v 0) (.int 2)) (.cons (.ix (.v 1) (.int 2)) .nil))) .nil)))))
  .nil)
   .nil)
 (.cons (.iff (.cmp .Eq (.ix (.v 0) (.int 0)) (.str "way"))
   (.cons (.ret (.tup (.cons (.str "w") (.cons (.ix (.v 0) (.int 1)) (.cons (.tuple (.comp ["_law_kind_here","_law_one"] [0] 1 (.n 1) (.seq (.ix (.v 1) (.int 1))) .non (.call "_law_dressed" (.cons (.ix (.v 0) (.int 2)) (.cons (.v 1) .nil))))) .nil)))))
  .nil)
   .nil)
 (.cons (.ret (.v 1))
 .nil))))⟩
noncomputable def d_law_bare_k62:Def:=⟨1,["_law_thing"],
 (.cons (.iff (.cmp .Eq (.v 0) (.tup .nil))
   (.cons (.ret (.v 0))
  .nil)
   .nil)
 (.cons (.iff (.cmp .Eq (.ix (.v 0) (.int 0)) (.str "w"))
   (.cons (.ret (.tup (.cons (.str "w") (.cons (.tuple (.comp ["_law_one"] [] 1 (.n 0) (.seq (.ix (.v 0) (.int 2))) .non (.call "_law_bare" (.cons (.v 0) .nil)))) .nil))))
  .nil)
   .nil)
 (.cons (.ret (.bin .Add (.sl (.v 0) .non (.int 1)) (.tuple (.comp ["_law_one"] [] 1 (.n 0) (.seq (.sl (.v 0) (.int 1) .non)) .non (.call "_law_bare" (.cons (.v 0) .nil))))))
 .nil)))⟩
noncomputable def d_law_told_k62:Def:=⟨2,["_law_program","_law_row","_law_word","_law_some","_law_held"],
 (.cons (.set 2 (.ix (.v 0) (.int 0)))
 (.cons (.iff (.cmp .Eq (.v 2) (.str "name"))
   (.cons (.ret (.ix (.v 1) (.ix (.v 0) (.int 1))))
  .nil)
   .nil)
 (.cons (.iff (.cmp .Eq (.v 2) (.str "star"))
   (.cons (.ret (.tup .nil))
  .nil)
   .nil)
 (.cons (.iff (.cmp .Eq (.v 2) (.str "pair"))
   (.cons (.ret (.tup (.cons (.str "p") (.cons (.call "_law_told" (.cons (.ix (.v 0) (.int 1)) (.cons (.v 1) .nil))) (.cons (.call "_law_told" (.cons (.ix (.v 0) (.int 2)) (.cons (.v 1) .nil))) .nil)))))
  .nil)
   .nil)
 (.cons (.iff (.or (.cmp .Eq (.v 2) (.str "left")) (.cmp .Eq (.v 2) (.str "right")))
   (.cons (.ret (.tup (.cons (.ix (.v 2) (.int 0)) (.cons (.call "_law_told" (.cons (.ix (.v 0) (.int 2)) (.cons (.v 1) .nil))) .nil))))
  .nil)
   .nil)
 (.cons (.iff (.cmp .Eq (.v 2) (.str "way"))
   (.cons (.set 3 (.comp ["_law_program","_law_thing"] [0] 1 (.n 1) (.seq (.call "_law_things" (.cons (.ix (.v 0) (.int 1)) .nil))) .non (.call "_law_dressed" (.cons (.ix (.v 0) (.int 1)) (.cons (.v 1) .nil)))))
  (.cons (.ret (.tup (.cons (.str "w") (.cons (.ix (.v 0) (.int 1)) (.cons (.tuple (.comp ["_law_program","_law_row","_law_thing"] [0,1] 1 (.n 2) (.seq (.v 3)) .non (.call "_law_told" (.cons (.ix (.v 0) (.int 2)) (.cons (.bin .Add (.tup (.cons (.v 2) .nil)) (.v 1)) .nil))))) .nil)))))
  .nil))
   .nil)
 (.cons (.set 4 (.call "_law_told" (.cons (.ix (.v 0) (.int 1)) (.cons (.v 1) .nil))))
 (.cons (.iff (.or (.cmp .Eq (.v 2) (.str "first")) (.cmp .Eq (.v 2) (.str "second")))
   (.cons (.ret (.ix (.v 4) (.bin .Add (.int 1) (.toInt (.cmp .Eq (.v 2) (.str "second"))))))
  .nil)
   .nil)
 (.cons (.iff (.cmp .Eq (.v 2) (.str "let"))
   (.cons (.ret (.call "_law_told" (.cons (.ix (.v 0) (.int 2)) (.cons (.bin .Add (.tup (.cons (.v 4) .nil)) (.v 1)) .nil))))
  .nil)
   .nil)
 (.cons (.iff (.cmp .Eq (.v 2) (.str "case"))
   (.cons (.ret (.call "_law_told" (.cons (.ix (.v 0) (.bin .Add (.int 2) (.toInt (.cmp .Eq (.ix (.v 4) (.int 0)) (.str "r"))))) (.cons (.bin .Add (.tup (.cons (.ix (.v 4) (.int 1)) .nil)) (.v 1)) .nil))))
  .nil)
   .nil)
 (.cons (.ret (.ix (.ix (.v 4) (.int 2)) (.index (.call "_law_things" (.cons (.ix (.v 4) (.int 1)) .nil)) (.call "_law_bare" (.cons (.call "_law_told" (.cons (.ix (.v 0) (.int 2)) (.cons (.v 1) .nil))) .nil)))))
 .nil)))))))))))⟩
noncomputable def d_law_table_k62:Def:=⟨2,["_law_program","_law_names_here","_law_found","_law_row","_law_dressed_here"],
 (.cons (.set 2 (.lst .nil))
 (.cons (.for (.n 3) (.seq (.call "_law_rows" (.cons (.v 1) .nil)))
   (.cons (.set 4 (.tuple (.comp ["_law_kind_here","_law_thing"] [] 2 (.tup [0,1]) (.zip (.v 1) (.v 3)) .non (.call "_law_dressed" (.cons (.v 0) (.cons (.v 1) .nil))))))
  (.cons (.ex (.app (.v 2) (.call "_law_bare" (.cons (.call "_law_told" (.cons (.v 0) (.cons (.v 4) .nil))) .nil))))
  .nil)))
 (.cons (.ret (.v 2))
 .nil)))⟩
noncomputable def d_law_k62:Def:=⟨1,["_law_script","_law_deck_here","_law_kind_here","_law_some","_law_names_here","_law_lines","_law_one","_law_at","_law_k","_law_other","_law_programs"],
 (.cons (.set 1 (.call "_law_deck" (.cons (.v 0) .nil)))
 (.cons (.set 2 (.call "_law_kind" (.cons (.v 1) (.cons (.int 3) (.cons (.int 20) .nil)))))
 (.cons (.set 3 (.call "_law_things" (.cons (.v 2) .nil)))
 (.cons (.iff (.cmp .Lt (.len (.v 3)) (.int 2))
   (.cons (.set 2 (.tup (.cons (.str "either") (.cons (.tup (.cons (.str "one") .nil)) (.cons (.tup (.cons (.str "one") .nil)) .nil)))))
  (.cons (.set 3 (.call "_law_things" (.cons (.v 2) .nil)))
  .nil))
   .nil)
 (.cons (.set 4 (.call "_law_names" (.cons (.v 1) (.cons (.int 12) .nil))))
 (.cons (.set 5 (.call "_law_rows" (.cons (.v 4) .nil)))
 (.cons (.iff (.cmp .Eq (.len (.v 5)) (.int 0))
   (.cons (.set 4 (.tup .nil))
  (.cons (.set 5 (.lst (.cons (.tup .nil) .nil)))
  .nil))
   .nil)
 (.cons (.set 6 (.comp ["_law_some","_law_deck_here","_law_row"] [3,1] 1 (.n 2) (.seq (.v 5)) .non (.ix (.v 0) (.call "_law_next" (.cons (.v 1) (.cons (.len (.v 0)) .nil))))))
 (.cons (.set 7 (.call "_law_next" (.cons (.v 1) (.cons (.len (.v 5)) .nil))))
 (.cons (.set 8 (.index (.v 3) (.ix (.v 6) (.v 7))))
 (.cons (.set 9 (.list (.v 6)))
 (.cons (.put (.v 9) (.v 7) (.ix (.v 3) (.bin .Mod (.bin .Add (.bin .Add (.v 8) (.int 1)) (.call "_law_next" (.cons (.v 1) (.cons (.bin .Sub (.len (.v 3)) (.int 1)) .nil)))) (.len (.v 3)))))
 (.cons (.set 10 (.lst (.cons (.call "plain_table" (.cons (.v 4) (.cons (.v 2) (.cons (.list (.v 6)) .nil)))) (.cons (.call "plain_table" (.cons (.v 4) (.cons (.v 2) (.cons (.list (.v 9)) .nil)))) .nil))))
 (.cons (.iff (.or (.cmp .Eq (.ix (.v 10) (.int 0)) (.ix (.v 10) (.int 1))) (.cmp .Eq (.call "plain_thing" (.cons (.v 2) (.cons (.ix (.v 6) (.v 7)) .nil))) (.call "plain_thing" (.cons (.v 2) (.cons (.ix (.v 9) (.v 7)) .nil)))))
   (.cons (.ret (.bl false))
  .nil)
   .nil)
 (.cons (.ret (.cmpl false (.comp ["_law_names_here","_law_program"] [4] 1 (.n 1) (.seq (.v 10)) .non (.call "_law_table" (.cons (.v 1) (.cons (.v 0) .nil)))) (.lst (.cons (.v 6) (.cons (.v 9) .nil)))))
 .nil)))))))))))))))⟩
noncomputable def tbl_k62:List (Str × Def):=[(("made_of_parts":Str),d_made_of_parts),(("order_of_few":Str),d_order_of_few),(("taken":Str),d_taken),(("things":Str),d_things),(("built_up":Str),d_built_up),(("things_within":Str),d_things_within_k61),(("joined_things":Str),d_joined_things),(("pairs":Str),d_pairs),(("rows_over":Str),d_rows_over),(("plain_thing":Str),d_plain_thing_k61),(("plain_by_parts":Str),d_plain_by_parts_k61),(("plain_table":Str),d_plain_table_k61),(("asked_names":Str),d_asked_names_k61),(("expression":Str),d_expression_k61),(("opened":Str),d_opened_k61),(("asks_nothing":Str),d_asks_nothing_k61),(("joined_asking":Str),d_joined_asking_k61),(("looked_at":Str),d_looked_at_k61),(("asking":Str),d_asking_k61),(("next_asked":Str),d_next_asked_k61),(("_law_deck":Str),d_law_deck_k61),(("_law_next":Str),d_law_next_k61),(("_law_crossed":Str),d_law_crossed_k61),(("_law_things":Str),d_law_things_k61),(("_law_many":Str),d_law_many_k61),(("_law_dressed":Str),d_law_dressed_k62),(("_law_bare":Str),d_law_bare_k62),(("_law_told":Str),d_law_told_k62),(("_law_rows":Str),d_law_rows_k61),(("_law_table":Str),d_law_table_k62),(("_law_kind":Str),d_law_kind_k61),(("_law_names":Str),d_law_names_k61),(("law":Str),d_law_k62)]
noncomputable def prg_k62:Prog:=fun f=>tbl_k62.lookup f
noncomputable def glo_k62:Gs:=⟨fun g=>[],fun c=>[],fun g=>if g="FEW" then some 2000 else none⟩
end Ek
set_option maxRecDepth 100000
namespace Ek
open PySem L2
set_option hygiene false
local macro_rules | `(tactic| walk_at "ek")=>`(tactic| try simp only [s_set,s_put,s_unp,s_ex,s_iff,s_ret,s_retN,s_for,s_while,s_cont,s_pass,s_nil,e_non,e_bl,e_int,e_str,e_v,e_tup,e_lst,e_bin,e_neg,e_cmp,e_isN,e_notN,e_and,e_or,e_not,e_ite,e_ix,e_sl,bnd_non,bnd_int,bnd_bin,bnd_v,bnd_len,bnd_neg,bnd_ix,bnd_call,tst_non,tst_cmp,tst_and,tst_or,tst_not,tst_call,e_dsel,e_len,e_abs,e_toInt,e_sum,e_list,e_tuple,e_max,e_min,e_call,e_gf,e_callv,cd_fn,cd_clo,e_lam,s_dfn,capW_nil,capW_cons,e_gc,s_dead,e_dict,e_cmpl,e_app,e_ext,e_popAt,e_pop,e_lrl,e_lrev,e_lclr,e_index,e_comp,es_nil,es_cons,i_seq,i_rng,i_rng2,i_enumr,i_enum,i_zip,i_rev,ev_0,ev_s,x_ss,x_fn,x_int,x_bl,x_tup,x_some,x_str,x_2int,x_tr,x_rt,x_rr,or_false,false_or,add_ii,add_tt,sub_ii,mul_ii,mod_ii,div_ii,pow_ii,eq_ii,ne_ii,eq_ss,ne_ss,lt_ii,le_ii,gt_ii,ge_ii,in_t,nin_t,ix_t,ix_up,at_0,at_1,at_2,at_3,sl_t,len_t,len_up,int_b,int_i,list_t,tuple_t,tuple_up,isl_up,isLR_up,isTR_t,bind_n,bind_t,setAll_cons,setAll_nil,seq_t,enum_t,List.set_cons_zero,List.set_cons_succ,List.getElem?_cons_zero,List.getElem?_cons_succ,decide_eq_true_eq,Bool.not_eq_true',decide_eq_false_iff_not,if_true,if_false,true_and,and_true,Bool.false_eq_true,Bool.true_eq_false,List.length_cons,List.length_nil,String.reduceEq,decide_true,decide_false,Bool.not_true,Bool.not_false])
set_option hygiene true
set_option hygiene false
local macro_rules | `(tactic| walk_at "es")=>`(tactic| ((try dsimp only);rw [s_cons];walk_at "ek"))
set_option hygiene true
structure PB0 (P:Prog):Prop where
 mixed:P "_law_mixed"=some d_law_mixed
 deck:P "_law_deck"=some d_law_deck
 next:P "_law_next"=some d_law_next
 power:P "_law_power"=some d_law_power
 count:P "_law_count"=some d_law_count
 kind:P "_law_kind"=some d_law_kind
structure PB (P:Prog):Prop extends PB0 P where
 least:P "_law_least"=some d_law_least
 made:P "_law_made"=some d_law_made
 nest:P "_law_nest"=some d_law_nest
 asked:P "_law_asked"=some d_law_asked
 grown:P "_law_grown"=some d_law_grown
 inner:P "_law_inner"=some d_law_inner
 parts:P "_law_parts"=some d_law_parts
 program:P "_law_program"=some d_law_program
 names:P "_law_names"=some d_law_names
theorem cut_ints {ns:List Int} {lo hi:Option Int}:∃ ms:List Int,cutD (ns.map D.int) lo hi=ms.map D.int∧ms.length≤ns.length:=by
 refine ⟨(ns.drop (HT.sIx (ns.map D.int).length 0 lo)).take (HT.sIx (ns.map D.int).length (ns.map D.int).length hi - HT.sIx (ns.map D.int).length 0 lo),by unfold cutD;rw [List.map_take,List.map_drop],?_⟩
 rw [List.length_take,List.length_drop];omega
theorem rangeD_length {lo:Int} {n:Nat}:(rangeD lo n).length=n:=by simp [rangeD]
theorem snoc_cases {α:Type} (l:List α):l=[] ∨ ∃ l' c,l=l'++[c]:=by
 rcases List.eq_nil_or_concat l with h | ⟨l',c,h⟩
 ·exact .inl h
 ·exact .inr ⟨l',c,by rw [h,List.concat_eq_append]⟩
noncomputable def callV (P:Prog) (G:Gs) (n:Nat):D→Spec
 | .fn f=>sem P G n f
 | .clo np N b cs=>semC P G n np N b cs
 | _=>fun _ _ _=>False
noncomputable def Cok (P:Prog):D→Prop
 | .fn f=>(P f).isSome=true
 | .clo _ _ _ _=>True
 | _=>False
theorem callD_of {P:Prog} {G:Gs} {n:Nat} {ta:Sto→(List D→Sto→Prop)→Prop} {st:Sto} {Q:DK} {x:D} (h:Cok P x) (q:ta st fun ds st1=>callV P G n x ds st1 Q):callD (Zg P G n) ta st Q x:=by
 cases x <;> first | exact h.elim | exact ⟨h,q⟩ | exact q
section
variable {T:Type} (subs:T→List T)
inductive Ord:List T→List T→Prop where
 | nil:Ord [] []
 | cons {S l:List T} {c:T}:Ord (S++subs c) l→Ord (S++[c]) (c::l)
inductive Rn:List T→List T→T→Prop where
 | done (t:T):Rn [] [t] t
 | step {h r:T} {l S:List T}:Rn l (S++[h]) r→Rn (h::l) (S++subs h) r
theorem ord_rn {S l:List T} (h:Ord subs S l):∀ {l' S0:List T} {r:T},Rn subs l' (S0++S) r→Rn subs (l.reverse++l') S0 r:=by
 induction h with
 | nil=>intro l' S0 r q;simpa using q
 | @cons S l c _ ih=>
  intro l' S0 r q
  rw [List.reverse_cons,List.append_assoc]
  refine ih ?_
  rw [← List.append_assoc]
  refine .step ?_
  rw [List.append_assoc];exact q
end
theorem none_of {st st':Sto} {p:Addr} (K:Kp [] st st') (h:st' p=none):st p=none:=by
 cases z:st p with
 | none=>rfl
 | some u=>rw [K.at' z (by simp)] at h;cases h
noncomputable def PartsR (st st':Sto) (d:D) (xs:List D):Prop:=d=.tup xs ∨ ∃ a,d=.ref a∧st a=none∧st' a=some (.lst xs)
theorem sum_mem {T:Type} (f:T→Nat):∀ {l:List T} {c:T},c ∈ l→f c≤(l.map f).sum
 | a::l,c,h=>by
  rw [List.map_cons,List.sum_cons]
  rcases List.mem_cons.mp h with rfl | h
  ·omega
  ·have:=sum_mem f h;omega
theorem len_sum {T:Type} {size:T→Nat} {subs:T→List T} (hsz:∀ t,size t=1 + ((subs t).map size).sum):∀ l:List T,l.length≤(l.map size).sum
 | []=>by simp
 | a::l=>by have:=hsz a;have:=len_sum hsz l;simp only [List.map_cons,List.sum_cons,List.length_cons];omega
structure PM (P:Prog) (G:Gs):Prop where
 mop:P "made_of_parts"=some d_made_of_parts
 few:P "order_of_few"=some d_order_of_few
 taken:P "taken"=some d_taken
 cst:G.cst "FEW"=some 2000
section
variable {P:Prog} {G:Gs} (T0:PM P G) {n:Nat} {st:Sto} {Q:DK} {T:Type} {enc:T→D} {subs:T→List T} {size:T→Nat} {Good:T→Prop}
include T0
theorem sp_few (hsz:∀ t,size t=1 + ((subs t).map size).sum) (hg:∀ t,Good t→∀ c ∈ subs t,Good c) {F:D} (hF:Cok P F) (t:T) (hs:size t≤2000) (hgt:Good t)
  (hp:∀ c st' Q,Good c→Kp [] st st'→(∀ d st2,PartsR st' st2 d ((subs c).map enc)→Kp [] st' st2→Q d st2)→callV P G n F [enc c] st' Q)
  (q:∀ a st' l,st a=none→Ord subs [t] l→(∀ c ∈ l,Good c)→st' a=some (.lst (l.map fun c=>.tup [enc c,.int (subs c).length]))→Kp [] st st'→l.length≤2000→Q (.ref a) st'):sem P G (n + 1) "order_of_few" [enc t,F] st Q:=by
 refine sem_in T0.few rfl [some (enc t),some F,none,none,none,none] rfl ?_
 unfold d_order_of_few
 walk_at "es"
 intro o ho
 walk_at "es"
 intro h hh
 have hoh:o ≠ h:=neNew updS_same hh
 have hsh:st h=none:=by
  cases z:st h with
  | none=>rfl
  | some u=>rw [keepNew z ho] at hh;cases hh
 walk_at "es"
 refine while_inv (fun m env st'=>∃ (dn S:List T) (x y:Option D),env=[some (enc t),some F,some (.ref o),some (.ref h),x,y]∧st' o=some (.lst (dn.map fun c=>.tup [enc c,.int (subs c).length]))∧st' h=some (.lst (S.map enc))∧(∀ l,Ord subs S l→Ord subs [t] (dn++l))∧(∀ c ∈ dn,Good c)∧(∀ c ∈ S,Good c)∧(S.map size).sum=m∧dn.length + m=size t∧Kp [] st st') ?_ _ _ _ ⟨[],[t],none,none,rfl,keepNew updS_same hh,updS_same,fun l z=>z,by simp,by simpa using hgt,rfl,by simp,(Kp.refl.new ho).new hh⟩
 rintro m env st' W ⟨dn,S,x,y,rfl,h1,h2,h3,gd,gS,h4,h5,K⟩ ih
 rw [wpT_def]
 walk_at "ek"
 rw [len_r (.inl h2)]
 walk_at "ek"
 rcases snoc_cases S with rfl | ⟨S,c,rfl⟩
 ·rw [if_neg (by simp)]
  walk_at "es"
  refine EndQ_rt (q o st' dn ho ?_ gd h1 K (by simp at h4;omega))
  have:=h3 [] .nil
  simpa using this
 ·rw [if_pos (by simp only [List.map_append,List.map_cons,List.map_nil,List.length_append,List.length_map,List.length_cons,List.length_nil];omega)]
  rw [List.map_append,List.map_cons,List.map_nil] at h2
  simp only [List.map_append,List.map_cons,List.map_nil,List.sum_append,List.sum_cons,List.sum_nil] at h4
  have sc:=hsz c
  have gc:Good c:=gS c (by simp)
  have hlen:∀ l:List T,l.length≤(l.map size).sum:=fun l=>by
   induction l with
   | nil=>simp
   | cons a l ih=>have:=hsz a;simp only [List.map_cons,List.sum_cons,List.length_cons];omega
  have hl3:=hlen S
  have hl4:=hlen (subs c)
  walk_at "es"
  rw [pop_r h2]
  have h1':updS st' h (.lst (S.map enc)) o=some (.lst (dn.map fun c=>.tup [enc c,.int (subs c).length])):=keepNe h1 hoh
  walk_at "es"
  refine callD_of hF ?_
  walk_at "ek"
  have K1:Kp [] st (updS st' h (.lst (S.map enc))):=fun b u nb e=>keepNe (K b u nb e) (fun z=>by rw [z,hsh] at e;cases e)
  refine hp c _ _ gc K1 fun d st2 hd K2=>?_
  have o2:=K2.at' h1' (by simp)
  have s2:=K2.at' (updS_same (st:=st') (a:=h) (o:=.lst (S.map enc))) (by simp)
  walk_at "es"
  rw [isLR_r (.inl o2)]
  have hlenR:∀ {R:DK},R (.int (subs c).length) st2→lenR d st2 R:=fun {R} z=>by
   rcases hd with rfl | ⟨a,rfl,_,ha⟩
   ·show R _ st2;simpa using z
   ·rw [len_r (.inl ha)];simpa using z
  refine ⟨trivial,hlenR ?_⟩
  rw [app_r o2]
  refine ⟨szLt (by simp only [List.length_map];omega),?_⟩
  walk_at "es"
  have s3:updS st2 o (.lst ((dn.map fun c=>D.tup [enc c,.int (subs c).length])++[.tup [enc c,.int (subs c).length]])) h=some (.lst (S.map enc)):=keepNe s2 hoh.symm
  rw [isLR_r (.inl s3)]
  have hext:∀ {R:DK},R .non (updS (updS st2 o (.lst ((dn.map fun c=>D.tup [enc c,.int (subs c).length])++[.tup [enc c,.int (subs c).length]]))) h (.lst (S.map enc++(subs c).map enc)))→extR (.ref h) d (updS st2 o (.lst ((dn.map fun c=>D.tup [enc c,.int (subs c).length])++[.tup [enc c,.int (subs c).length]]))) R:=fun {R} z=>by
   rcases hd with rfl | ⟨a,rfl,han,ha⟩
   ·rw [ext_t s3]
    exact ⟨szLine (by simp only [List.length_map];omega),z⟩
   ·have nao:a ≠ o:=fun z=>by rw [z,h1'] at han;cases han
    rw [ext_r s3 (keepNe ha nao)]
    exact ⟨szLine (by simp only [List.length_map];omega),z⟩
  refine ⟨trivial,hext ?_⟩
  walk_at "es"
  rw [len_r (.inl (keepNe updS_same hoh))]
  walk_at "ek"
  refine ⟨2000,T0.cst,?_⟩
  walk_at "ek"
  rw [if_neg (by simp only [List.length_append,List.length_map,List.length_cons,List.length_nil];omega)]
  walk_at "ek"
  refine ih ((S++subs c).map size).sum _ _ (by simp only [List.map_append,List.sum_append];omega) ⟨dn++[c],S++subs c,_,_,rfl,?_,?_,?_,?_,?_,rfl,?_,?_⟩
  ·rw [List.map_append];exact keepNe updS_same hoh
  ·rw [List.map_append];exact updS_same
  ·intro l hl
   have:=h3 (c::l) (.cons hl)
   simpa using this
  ·intro z hz
   rcases List.mem_append.mp hz with hz | hz
   ·exact gd z hz
   ·simp at hz;rw [hz];exact gc
  ·intro z hz
   rcases List.mem_append.mp hz with hz | hz
   ·exact gS z (by simp [hz])
   ·exact hg c gc z hz
  ·simp only [List.length_append,List.length_cons,List.length_nil,List.map_append,List.sum_append];omega
  ·intro b u nb e
   have eh:b ≠ h:=fun z=>by rw [z,hsh] at e;cases e
   have eo:b ≠ o:=fun z=>by rw [z,ho] at e;cases e
   exact keepNe (keepNe (K2.at' (K1 b u nb e) (by simp)) eo) eh
theorem sp_taken {dn:Addr} {ds xs:List D} {m:Nat} (hm:xs.length=m) (hd:st dn=some (.lst (ds++xs))) (hb:xs.length≤2000)
  (q:∀ a st',st a=none→a ≠ dn→st' a=some (.lst xs)→st' dn=some (.lst ds)→Kp [dn] st st'→Q (.ref a) st'):sem P G (n + 1) "taken" [.ref dn,.int m] st Q:=by
 subst hm
 refine sem_in T0.taken rfl [some (.ref dn),some (.int xs.length),none,none] rfl ?_
 unfold d_taken
 walk_at "es"
 intro o ho
 have hod:dn ≠ o:=neNew hd ho
 walk_at "es"
 refine ⟨⟨by omega,by omega⟩,?_⟩
 refine for_inv (fun l env st'=>∃ (pre suf:List D) (x:Option D),xs=pre++suf∧l.length=pre.length∧(∀ d ∈ l,∃ i,d=.int i)∧env=[some (.ref dn),some (.int xs.length),some (.ref o),x]∧st' dn=some (.lst (ds++pre))∧st' o=some (.lst suf.reverse)∧Kp [dn] st st') ?_ ?_ _ _ _ ⟨xs,[],none,by simp,by simp [rangeD],fun d hd=>by simp [rangeD] at hd;obtain ⟨i,_,rfl⟩:=hd;exact ⟨_,rfl⟩,rfl,by rw [keepNew hd ho],updS_same,Kp.refl.new ho⟩
 ·rintro env st' ⟨pre,suf,x,e,hl,_,rfl,h1,h2,K⟩
  have:pre=[]:=by simpa using hl.symm
  subst this
  simp only [List.nil_append] at e
  subst e
  refine ⟨trivial,?_⟩
  walk_at "es"
  rw [rev_r h2]
  walk_at "es"
  refine EndQ_rt (q o _ ho (fun z=>hod z.symm) ?_ (keepNe (by simpa using h1) hod) fun b u nb e=>keepNe (K b u nb e) (fun z=>by rw [z,ho] at e;cases e))
  rw [updS_same,List.reverse_reverse]
 ·rintro d0 dl env st' ih ⟨pre,suf,x,e,hl,hi,rfl,h1,h2,K⟩
  obtain ⟨i,rfl⟩:=hi d0 (by simp)
  rcases snoc_cases pre with rfl | ⟨pre,c,rfl⟩
  ·simp at hl
  refine ⟨trivial,?_⟩
  walk_at "ek"
  walk_at "es"
  rw [isLR_r (.inl h2),pop_r (by rw [h1,List.append_assoc]:st' dn=some (.lst ((ds++pre)++[c])))]
  have h2':updS st' dn (.lst (ds++pre)) o=some (.lst suf.reverse):=keepNe h2 hod.symm
  rw [app_r h2']
  have hle:suf.length≤xs.length:=by rw [e];simp;omega
  refine ⟨trivial,szLt (by rw [List.length_reverse];omega),?_⟩
  walk_at "ek"
  refine ih _ _ ⟨pre,c::suf,_,by rw [e];simp,by simp at hl ⊢;omega,fun d hd=>hi d (by simp [hd]),rfl,keepNe updS_same hod,by rw [updS_same,List.reverse_cons],fun b u nb e=>keepNe (keepNe (K b u nb e) (fun z=>nb (by simp [z]))) (fun z=>by rw [z,ho] at e;cases e)⟩
theorem sp_mop (hsz:∀ t,size t=1 + ((subs t).map size).sum) (hg:∀ t,Good t→∀ c ∈ subs t,Good c) {F M:D} (hF:Cok P F) (hM:Cok P M) (t:T) (hs:size t≤2000) (hgt:Good t) {V:Addr→T→D→Sto→Prop} (hVk:∀ {dn k d st st'},V dn k d st→Kp [dn] st st'→V dn k d st')
  (hp:∀ c st' Q,Good c→Kp [] st st'→(∀ d st2,PartsR st' st2 d ((subs c).map enc)→Kp [] st' st2→Q d st2)→callV P G n F [enc c] st' Q)
  (hm:∀ c dn la st' Q ds,Good c→st dn=none→Kp [] st st'→st la=none→la ≠ dn→st' la=some (.lst ds)→ds.length=(subs c).length→(∀ (i:Nat) c' d,(subs c)[i]?=some c'→ds[i]?=some d→V dn c' d st')→(∃ xs,st' dn=some (.lst xs))→(∀ d st2,V dn c d st2→Kp [] st' st2→Q d st2)→callV P G (n + 1) M [enc c,.ref la] st' Q)
  (q:∀ dn d st',st dn=none→V dn t d st'→Kp [] st st'→Q d st'):sem P G (n + 2) "made_of_parts" [enc t,F,M] st Q:=by
 refine sem_in T0.mop rfl [some (enc t),some F,some M,none,none,none,none] rfl ?_
 unfold d_made_of_parts
 walk_at "es"
 refine ⟨by rw [T0.few];rfl,sp_few T0 (Good:=fun c=>Good c∧size c≤2000) hsz (fun c gc c' hc'=>⟨hg c gc.1 c' hc',Nat.le_trans (sum_mem size hc') (by have:=hsz c;have:=gc.2;omega)⟩) hF t hs ⟨hgt,hs⟩ (fun c st' Q gc=>hp c st' Q gc.1) fun oa st1 l hoa0 hord gl hoa K1 hl=>?_⟩
 walk_at "es"
 refine .inr ⟨nofun,?_⟩
 walk_at "ek"
 walk_at "es"
 intro dn hdn
 have hod:oa ≠ dn:=neNew hoa hdn
 have hdn0:st dn=none:=none_of K1 hdn
 walk_at "es"
 refine ⟨_,.inl (keepNew hoa hdn),?_⟩
 rw [← List.map_reverse]
 have K1':Kp [] st (updS st1 dn (.lst [])):=K1.new hdn
 have kdn:∀ (u:Ob) (st2:Sto),Kp [] st st2→Kp [] st (updS st2 dn u):=fun u st2 K b o nb e=>keepNe (K b o nb e) (fun z=>by rw [z,hdn0] at e;cases e)
 refine for_inv (fun ll env st'=>∃ (rest S:List T) (ds:List D) (x5 x6:Option D),ll=rest.map (fun c=>D.tup [enc c,.int (subs c).length])∧(∀ c ∈ rest,Good c∧size c≤2000)∧Rn subs rest S t∧env=[some (enc t),some F,some M,some (.ref oa),some (.ref dn),x5,x6]∧st' dn=some (.lst ds)∧ds.length=S.length∧S.length + rest.length≤100000∧(∀ (i:Nat) c d,S[i]?=some c→ds[i]?=some d→V dn c d st')∧st' oa=some (.lst (l.map fun c=>.tup [enc c,.int (subs c).length]))∧Kp [] st st') ?_ ?_ _ _ _ ⟨l.reverse,[],[],none,none,rfl,fun c hc=>gl c (by simpa using hc),by simpa using ord_rn subs hord (.done t) (S0:=[]) ,rfl,updS_same,rfl,by simp;omega,by simp,keepNew hoa hdn,K1'⟩
 ·rintro env st' ⟨rest,S,ds,x5,x6,el,_,hr,rfl,hd,hl',_,hv,hoa',K⟩
  have es:rest=[]:=by simpa using el.symm
  subst es
  refine ⟨.inl hoa',?_⟩
  cases hr
  obtain ⟨d,rfl⟩:∃ d,ds=[d]:=by match ds,hl' with | [d],_=>exact ⟨d,rfl⟩
  walk_at "es"
  rw [ix_rd (.inl hd)]
  exact ⟨d,rfl,EndQ_rt (q dn d st' hdn0 (hv 0 t d rfl rfl) K)⟩
 ·rintro d0 dl env st' ih ⟨rest,S,ds,x5,x6,el,hin,hr,rfl,hd,hl',hb,hv,hoa',K⟩
  refine ⟨.inl hoa',?_⟩
  cases rest with
  | nil=>simp at el
  | cons h rest=>
   simp only [List.map_cons,List.cons.injEq] at el
   obtain ⟨rfl,rfl⟩:=el
   simp only [List.length_cons] at hb
   have gh:Good h:=(hin h (by simp)).1
   cases hr with
   | @step _ _ _ S hr=>
   simp only [List.length_append] at hl' hb
   obtain ⟨ds,xs,rfl,hlS,hlx⟩:∃ ds' xs,ds=ds'++xs∧ds'.length=S.length∧xs.length=(subs h).length:=⟨ds.take S.length,ds.drop S.length,(List.take_append_drop _ _).symm,by rw [List.length_take];omega,by rw [List.length_drop];omega⟩
   have hss:(subs h).length≤2000:=by
    have h1:=(hin h (by simp)).2
    have h2:=hsz h
    have h3:=len_sum hsz (subs h)
    omega
   have vx:∀ (i:Nat) c' d,(subs h)[i]?=some c'→xs[i]?=some d→V dn c' d st':=fun i c' d e1 e2=>hv (S.length + i) c' d (by rw [List.getElem?_append_right (by omega)];rw [show S.length + i - S.length=i by omega];exact e1) (by rw [List.getElem?_append_right (by omega),hlS];rw [show S.length + i - S.length=i by omega];exact e2)
   have vS:∀ (i:Nat) c' d,S[i]?=some c'→ds[i]?=some d→V dn c' d st':=fun i c' d e1 e2=>hv i c' d (by rw [List.getElem?_append_left (List.getElem?_eq_some_iff.mp e1).1];exact e1) (by rw [List.getElem?_append_left (List.getElem?_eq_some_iff.mp e2).1];exact e2)
   have main:∀ la st2,st la=none→la ≠ dn→st2 la=some (.lst xs)→st2 dn=some (.lst ds)→Kp [dn] st' st2→callV P G (n + 1) M [enc h,.ref la] st2 fun d st3=>appR (.ref dn) d st3 fun _ st4=>forL (fun st'=>rdS st' oa (l.map fun c=>.tup [enc c,.int (subs c).length])) (.tup [5,6]) (wpSs (Zg P G (n + 1)) (.cons (.ex (.app (.v 4) (.callv 2 (.cons (.v 5) (.cons (.ite (.cmp .Gt (.v 6) (.int 0)) (.call "taken" (.cons (.v 4) (.cons (.v 6) .nil))) (.lst .nil)) .nil))))) .nil)) ⟨wpSs (Zg P G (n + 1)) (.cons (.ret (.ix (.v 4) (.int 0))) .nil) (EndQ Q),(EndQ Q).rt,(EndQ Q).bk,(EndQ Q).ct⟩ (rest.map fun c=>D.tup [enc c,.int (subs c).length]) [some (enc t),some F,some M,some (.ref oa),some (.ref dn),some (enc h),some (.int (subs h).length)] st4:=fun la st2 hla hne hl2 hd2 K2=>by
    have KK:Kp [] st st2:=fun b u nb e=>K2.at' (K b u nb e) (by simp;exact fun z=>by rw [z,hdn0] at e;cases e)
    refine hm h dn la st2 _ xs gh hdn0 KK hla hne hl2 hlx (fun i c' d e1 e2=>hVk (vx i c' d e1 e2) K2) ⟨_,hd2⟩ fun d st3 vd K3=>?_
    have hd3:=K3.at' hd2 (by simp)
    rw [app_r hd3]
    refine ⟨szLt (by omega),?_⟩
    refine ih _ _ ⟨rest,S++[h],ds++[d],_,_,rfl,fun c hc=>hin c (by simp [hc]),hr,rfl,updS_same,by simp [hlS],by simp;omega,fun i c' d' e1 e2=>?_,keepNe (K3.at' (K2.at' hoa' (by simpa using hod)) (by simp)) hod,kdn _ _ (KK.trans K3)⟩
    refine hVk ?_ (Kp.refl.put (by simp):Kp [dn] st3 _)
    by_cases hi:i < S.length
    ·rw [List.getElem?_append_left hi] at e1
     rw [List.getElem?_append_left (by omega)] at e2
     exact hVk (hVk (vS i c' d' e1 e2) K2) (K3.more (by simp))
    ·rw [List.getElem?_append_right (by omega)] at e1
     rw [List.getElem?_append_right (by omega)] at e2
     have hi0:i - S.length=0:=by
      have:=(List.getElem?_eq_some_iff.mp e1).1
      simp at this;omega
     rw [hi0] at e1
     rw [show i - ds.length=0 by omega] at e2
     cases e1;cases e2;exact vd
   walk_at "ek"
   walk_at "es"
   rw [isLR_r (.inl hd)]
   refine ⟨trivial,callD_of hM ?_⟩
   walk_at "ek"
   by_cases h0:(subs h).length=0
   ·rw [if_neg (by omega)]
    intro la hla
    have exs:xs=[]:=List.eq_nil_of_length_eq_zero (by omega)
    subst exs
    exact main la _ (none_of K hla) (neNew hd hla).symm updS_same (keepNew (by simpa using hd) hla) (Kp.refl.new hla)
   ·rw [if_pos (by omega)]
    refine ⟨by rw [T0.taken];rfl,?_⟩
    exact sp_taken T0 hlx hd (by omega) fun la st2 hla hne hl2 hd2 K2=>main la st2 (none_of K hla) hne hl2 hd2 K2
end
noncomputable def rowsOver:Nat→List D→List (List D)
 | 0,_=>[[]]
 | n + 1,cs=>(rowsOver n cs).flatMap fun r=>cs.map fun c=>r++[c]
noncomputable def Kd.things:Kd→List D
 | .non=>[]
 | .one=>[.tup []]
 | .eith a b=>a.things.map (fun t=>.tup [.str "l",t])++b.things.map (fun t=>.tup [.str "r",t])
 | .both a b=>a.things.flatMap fun x=>b.things.map fun y=>.tup [.str "p",x,y]
 | .way a b=>(rowsOver a.things.length b.things).map fun r=>.tup [.str "w",.tup r]
theorem flat_len {α β:Type} (f:α→List β) (k:Nat) (h:∀ x,(f x).length=k):∀ l:List α,(l.flatMap f).length=l.length * k
 | []=>by simp
 | x::l=>by rw [List.flatMap_cons,List.length_append,h x,flat_len f k h l,List.length_cons,Nat.add_mul,Nat.one_mul,Nat.add_comm]
theorem rows_len:∀ (n:Nat) (cs:List D),(rowsOver n cs).length=cs.length ^ n
 | 0,_=>rfl
 | n + 1,cs=>by rw [rowsOver,flat_len _ cs.length (fun r=>by simp),rows_len n cs,Nat.pow_succ]
theorem things_len:∀ k:Kd,k.things.length=k.cnt
 | .non=>rfl
 | .one=>rfl
 | .eith a b=>by simp only [Kd.things,List.length_append,List.length_map,things_len a,things_len b,Kd.cnt]
 | .both a b=>by rw [Kd.things,flat_len _ b.things.length (fun x=>by simp),things_len a,things_len b,Kd.cnt]
 | .way a b=>by rw [Kd.things,List.length_map,rows_len,things_len a,things_len b,Kd.cnt]
noncomputable def Kd.subs:Kd→List Kd
 | .non=>[] | .one=>[] | .eith a b=>[a,b] | .both a b=>[a,b] | .way a b=>[a,b]
noncomputable def Kd.w:Kd→String
 | .non=>"none" | .one=>"one" | .eith _ _=>"either" | .both _ _=>"both" | .way _ _=>"way"
theorem Kd.d_w (k:Kd):k.d=.tup (.str k.w::k.subs.map Kd.d):=by cases k <;> rfl
theorem sl_kd {k:Kd} {st:Sto} {Q:DK}:slR k.d (some 1) none st Q=Q (.tup (k.subs.map Kd.d)) st:=by
 rw [Kd.d_w k,sl_t]
 have e:(1:Int)=((1:Nat):Int):=rfl
 rw [e,cut_from,sx_nat]
 refine propext ⟨fun h=>h.2,fun h=>⟨fun z=>?_,h⟩⟩
 rw [List.length_cons] at z;omega
noncomputable def Kd.pre:Kd→List Kd
 | .non=>[.non] | .one=>[.one]
 | .eith a b=>.eith a b::(b.pre++a.pre)
 | .both a b=>.both a b::(b.pre++a.pre)
 | .way a b=>.way a b::(b.pre++a.pre)
noncomputable def Kd.size:Kd→Nat
 | .non=>1 | .one=>1
 | .eith a b=>1 + a.size + b.size
 | .both a b=>1 + a.size + b.size
 | .way a b=>1 + a.size + b.size
theorem pre_subs (k:Kd):k.pre=k::(k.subs.reverse.flatMap Kd.pre):=by cases k <;> simp [Kd.pre,Kd.subs]
theorem size_subs (k:Kd):k.size=1 + (k.subs.map Kd.size).sum:=by cases k <;> simp [Kd.size,Kd.subs] <;> omega
theorem size_nest (k:Kd):k.size + 1≤2 ^ (k.nest + 1):=by
 have two:∀ a b:Kd,a.size + 1≤2 ^ (a.nest + 1)→b.size + 1≤2 ^ (b.nest + 1)→1 + a.size + b.size + 1≤2 ^ (1 + max a.nest b.nest + 1):=fun a b ha hb=>by
  have e1:2 ^ (a.nest + 1)≤2 ^ (max a.nest b.nest + 1):=Nat.pow_le_pow_right (by decide) (by omega)
  have e2:2 ^ (b.nest + 1)≤2 ^ (max a.nest b.nest + 1):=Nat.pow_le_pow_right (by decide) (by omega)
  have e3:2 ^ (1 + max a.nest b.nest + 1)=2 * 2 ^ (max a.nest b.nest + 1):=by rw [show 1 + max a.nest b.nest + 1=(max a.nest b.nest + 1) + 1 by omega,Nat.pow_succ,Nat.mul_comm]
  omega
 induction k with
 | non=>decide
 | one=>decide
 | eith a b iha ihb=>exact two a b iha ihb
 | both a b iha ihb=>exact two a b iha ihb
 | way a b iha ihb=>exact two a b iha ihb
theorem pre_self (k:Kd):k ∈ k.pre:=by cases k <;> simp [Kd.pre]
theorem pre_trans:∀ {k h c:Kd},h ∈ k.pre→c ∈ h.pre→c ∈ k.pre:=by
 intro k
 induction k with
 | non=>intro h c hh hc;simp [Kd.pre] at hh;subst hh;exact hc
 | one=>intro h c hh hc;simp [Kd.pre] at hh;subst hh;exact hc
 | eith a b iha ihb | both a b iha ihb | way a b iha ihb=>
  intro h c hh hc
  simp only [Kd.pre,List.mem_cons,List.mem_append] at hh
  rcases hh with rfl | hh | hh
  ·exact hc
  ·simp only [Kd.pre,List.mem_cons,List.mem_append];exact .inr (.inl (ihb hh hc))
  ·simp only [Kd.pre,List.mem_cons,List.mem_append];exact .inr (.inr (iha hh hc))
theorem pre_in {k h c:Kd} (hh:h ∈ k.pre) (hc:c ∈ h.subs):c ∈ k.pre:=by
 refine pre_trans hh ?_
 rw [pre_subs h]
 exact List.mem_cons_of_mem _ (List.mem_flatMap.mpr ⟨c,by simpa using hc,pre_self c⟩)
theorem pre_size:∀ {k c:Kd},c ∈ k.pre→c.size≤k.size:=by
 intro k
 induction k with
 | non=>intro c hc;simp [Kd.pre] at hc;subst hc;exact Nat.le_refl _
 | one=>intro c hc;simp [Kd.pre] at hc;subst hc;exact Nat.le_refl _
 | eith a b iha ihb | both a b iha ihb | way a b iha ihb=>
  intro c hc
  simp only [Kd.pre,List.mem_cons,List.mem_append] at hc
  simp only [Kd.size]
  rcases hc with rfl | hc | hc
  ·exact Nat.le_refl _
  ·have:=ihb hc;omega
  ·have:=iha hc;omega
structure PT0 (P:Prog) (G:Gs):Prop extends PM P G where
 bu:P "built_up"=some d_built_up
structure PT1 (P:Prog) (G:Gs):Prop extends PT0 P G where
 things:P "things"=some d_things
 joined:P "joined_things"=some d_joined_things
 pairs:P "pairs"=some d_pairs
 rows:P "rows_over"=some d_rows_over
section
variable {P:Prog} {G:Gs} (T:PT0 P G) {n:Nat} {st:Sto} {Q:DK}
include T
theorem sp_built {V:Addr→Kd→D→Sto→Prop} {J:Str} (hVk:∀ {dn k d st st'},V dn k d st→Kp [dn] st st'→V dn k d st') (k:Kd) (hs:k.size≤2000) (hn:1≤n) {pd:Addr} {v0 v1:D} (hpd:st pd=some (.dct [(.inr "none",v0),(.inr "one",v1)])) (hJ0:(P J).isSome=true)
  (h0:∀ dn st',st dn=none→Kp [] st st'→V dn .non v0 st') (h1:∀ dn st',st dn=none→Kp [] st st'→V dn .one v1 st')
  (hJ:∀ (h a b:Kd) (dn:Addr) (d1 d2:D) (st':Sto) (Q:DK),h ∈ k.pre→Kp [] st st'→h.subs=[a,b]→V dn a d1 st'→V dn b d2 st'→(∃ ds,st' dn=some (.lst ds))→(∀ d st2,V dn h d st2→Kp [] st' st2→Q d st2)→sem P G n J [.str h.w,d1,d2] st' Q)
  (q:∀ dn d st',st dn=none→V dn k d st'→Kp [] st st'→Q d st'):sem P G (n + 3) "built_up" [k.d,.ref pd,.fn J] st Q:=by
 obtain ⟨n,rfl⟩:∃ m,n=m + 1:=⟨n - 1,by omega⟩
 refine sem_in T.bu rfl [some k.d,some (.ref pd),some (.fn J),none,none,none,none] rfl ?_
 unfold d_built_up
 walk_at "es"
 walk_at "es"
 refine ⟨by rw [T.mop];rfl,sp_mop T.toPM (n:=n + 1) (enc:=Kd.d) (subs:=Kd.subs) (size:=Kd.size) (Good:=fun h=>h ∈ k.pre) size_subs (V:=V) (fun h hh c hc=>pre_in hh hc) (show Cok P (.clo _ _ _ _) from trivial) (show Cok P (.clo _ _ _ _) from trivial) k hs (pre_self k) hVk (fun c st' Q hc K q=>?_) (fun c dn la st' Q ds hc hdn K hla hne hl hlen hv hxs q=>?_) fun dn d st' hdn v K=>EndQ_rt (q dn d st' hdn v K)⟩
 ·refine sem_clo rfl [some c.d] rfl ?_
  walk_at "es"
  rw [sl_kd]
  exact EndQ_rt (q _ _ (.inl rfl) Kp.refl)
 ·refine sem_clo rfl [some c.d,some (.ref la),some (.ref pd),some (.fn J)] rfl ?_
  have hpd':=K.at' hpd (by simp)
  walk_at "es"
  rw [Kd.d_w c]
  walk_at "ek"
  rw [in_d hpd']
  have lk:lookK [((Sum.inr "none":Key),v0),(.inr "one",v1)] (.inr c.w)=if c=.non then some v0 else if c=.one then some v1 else none:=by
   cases c <;> simp [lookK,Kd.w,ofString_inj]
  rw [lk]
  walk_at "ek"
  have leaf:∀ v,(if c=Kd.non then some v0 else if c=.one then some v1 else none)=some v→V dn c v st'→if (if c=Kd.non then some v0 else if c=Kd.one then some v1 else none).isSome=true then ixR (D.ref pd) (D.str (Str.ofString c.w)) st' (EndQ Q).rt else (P J).isSome=true∧ixR (D.ref la) (D.int 0) st' fun d st1=>ixR (D.ref la) (D.int 1) st1 fun d_1 st1=>sem P G (n + 1) J [D.str (Str.ofString c.w),d,d_1] st1 (EndQ Q).rt:=fun v hv1 hv2=>by
   rw [hv1]
   simp only [Option.isSome_some,if_true]
   rw [ix_d hpd' (lk.trans hv1)]
   exact EndQ_rt (q v st' hv2 Kp.refl)
  have node:∀ a b:Kd,c.subs=[a,b]→(if c=Kd.non then some v0 else if c=.one then some v1 else none)=none→if (if c=Kd.non then some v0 else if c=Kd.one then some v1 else none).isSome=true then ixR (D.ref pd) (D.str (Str.ofString c.w)) st' (EndQ Q).rt else (P J).isSome=true∧ixR (D.ref la) (D.int 0) st' fun d st1=>ixR (D.ref la) (D.int 1) st1 fun d_1 st1=>sem P G (n + 1) J [D.str (Str.ofString c.w),d,d_1] st1 (EndQ Q).rt:=fun a b hsub hno=>by
   rw [hno]
   simp only [Option.isSome_none,Bool.false_eq_true,if_false]
   rw [hsub] at hlen hv
   obtain ⟨d1,d2,rfl⟩:∃ d1 d2,ds=[d1,d2]:=by match ds,hlen with | [d1,d2],_=>exact ⟨d1,d2,rfl⟩
   refine ⟨hJ0,?_⟩
   rw [ix_rd (.inl hl)]
   refine ⟨d1,rfl,?_⟩
   rw [ix_rd (.inl hl)]
   exact ⟨d2,rfl,hJ c a b dn d1 d2 st' _ hc K hsub (hv 0 a d1 rfl rfl) (hv 1 b d2 rfl rfl) hxs fun d st2 v K2=>EndQ_rt (q d st2 v K2)⟩
  cases c with
  | non=>exact leaf v0 (by simp) (h0 dn st' hdn K)
  | one=>exact leaf v1 (by simp) (h1 dn st' hdn K)
  | eith a b=>exact node a b rfl (by simp)
  | both a b=>exact node a b rfl (by simp)
  | way a b=>exact node a b rfl (by simp)
end
theorem comp_map {chk:Sto→Prop} {i:Nat} {tc:DB} {te:DT} {R:List D→Sto→Prop} {st:Sto} (f:D→D) (Ok:DEnv→Prop) (hset:∀ env d,Ok env→Ok (env.set i (some d))) (htc:∀ env K,K true st→tc env st K) (hte:∀ env d K,Ok env→K (f d) st→te (env.set i (some d)) st K) (hc:chk st) :
  ∀ (ds acc:List D) (env:DEnv),Ok env→R (acc++ds.map f) st→compL chk (.n i) tc te R ds acc env st
 | [],acc,env,hE,hR=>by rw [comp_nil];exact ⟨hc,by simpa using hR⟩
 | d::ds,acc,env,hE,hR=>by
  rw [comp_cons,bind_n]
  refine ⟨hc,htc _ _ ?_⟩
  rw [if_pos rfl]
  exact hte env d _ hE (comp_map f Ok hset htc hte hc ds (acc++[f d]) _ (hset env d hE) (by simpa using hR))
theorem pow_le_of {c i n:Nat} (h:i≤n):c ^ i≤max 1 (c ^ n):=by
 cases c with
 | zero=>
  cases i with
  | zero=>simp;omega
  | succ i=>rw [Nat.zero_pow (by omega)];omega
 | succ c=>exact Nat.le_trans (Nat.pow_le_pow_right (by omega) h) (by omega)
section
variable {P:Prog} {G:Gs} (T:PT1 P G) {n:Nat} {st:Sto} {Q:DK}
include T
theorem sp_pairs {fa sa:Addr} {xs ys:List D} (h1:st fa=some (.lst xs)) (h2:st sa=some (.lst ys)) (hz:xs.length * ys.length≤1000000) (hy:ys.length≤1000000) (q:∀ a st',st a=none→st' a=some (.lst (xs.flatMap fun x=>ys.map fun y=>.tup [.str "p",x,y]))→Kp [] st st'→Q (.ref a) st'):sem P G (n + 1) "pairs" [.ref fa,.ref sa] st Q:=by
 refine sem_in T.pairs rfl [some (.ref fa),some (.ref sa),none,none] rfl ?_
 unfold d_pairs
 walk_at "es"
 intro an han
 have n1:fa ≠ an:=neNew h1 han
 have n2:sa ≠ an:=neNew h2 han
 walk_at "es"
 refine ⟨_,.inl (keepNew h1 han),?_⟩
 refine for_inv (fun l env st'=>∃ (pre:List D) (x:Option D),xs=pre++l∧env=[some (.ref fa),some (.ref sa),some (.ref an),x]∧st' an=some (.lst (pre.flatMap fun x=>ys.map fun y=>.tup [.str "p",x,y]))∧Kp [] st st') ?_ ?_ _ _ _ ⟨[],none,rfl,rfl,updS_same,Kp.refl.new han⟩
 ·rintro env st' ⟨pre,x,e,rfl,hs,K⟩
  refine ⟨.inl (K.at' h1 (by simp)),?_⟩
  walk_at "es"
  rw [List.append_nil] at e
  subst e
  exact EndQ_rt (q an st' han hs K)
 ·rintro d ds env st' ih ⟨pre,x,e,rfl,hs,K⟩
  refine ⟨.inl (K.at' h1 (by simp)),?_⟩
  walk_at "ek"
  walk_at "es"
  rw [isLR_r (.inl hs)]
  have h2':=K.at' h2 (by simp)
  refine ⟨trivial,ys,.inl h2',hy,?_⟩
  refine comp_map (fun y=>.tup [.str "p",d,y]) (fun env=>∃ x,env=[some d,x]) (fun env y h=>by obtain ⟨x,rfl⟩:=h;exact ⟨_,rfl⟩) (fun env K h=>h) (fun env y K h hk=>by
   obtain ⟨x,rfl⟩:=h
   walk_at "ek"
   exact hk) (.inl h2') _ _ _ ⟨none,rfl⟩ ?_
  intro p hp
  have hnp:an ≠ p:=neNew hs hp
  rw [ext_r (keepNew hs hp) updS_same]
  have el:(pre.flatMap fun x=>ys.map fun y=>D.tup [.str "p",x,y]).length=pre.length * ys.length:=flat_len _ _ (fun x=>by simp) _
  have hle:pre.length * ys.length + ys.length≤1000000:=by
   have:xs.length=pre.length + (ds.length + 1):=by rw [e];simp
   have h3:(pre.length + 1) * ys.length≤xs.length * ys.length:=Nat.mul_le_mul_right _ (by omega)
   rw [Nat.add_mul,Nat.one_mul] at h3
   omega
  refine ⟨szLine (by rw [el];simp only [List.nil_append,List.length_map];omega),?_⟩
  walk_at "ek"
  refine ih _ _ ⟨pre++[d],_,by rw [e];simp,rfl,by rw [updS_same,List.flatMap_append];simp,fun b u nb eb=>keepNe (keepNew (K b u nb eb) hp) (neNew eb han)⟩
theorem sp_rows {m:Nat} {sa:Addr} {cs:List D} (h2:st sa=some (.lst cs)) (hz:max 1 (cs.length ^ m)≤100000) (hm:m≤1000) (hc:cs.length≤100000) (q:∀ a st',st a=none→st' a=some (.lst ((rowsOver m cs).map D.tup))→Kp [] st st'→Q (.ref a) st'):sem P G (n + 1) "rows_over" [.int m,.ref sa] st Q:=by
 refine sem_in T.rows rfl [some (.int m),some (.ref sa),none,none,none,none] rfl ?_
 unfold d_rows_over
 walk_at "es"
 intro ra hra
 walk_at "es"
 refine ⟨by omega,?_⟩
 refine for_inv (fun l env st'=>∃ (i:Nat) (ra:Addr) (x3 x4 x5:Option D),i + l.length=m∧env=[some (.int m),some (.ref sa),some (.ref ra),x3,x4,x5]∧st ra=none∧st' ra=some (.lst ((rowsOver i cs).map D.tup))∧Kp [] st st') ?_ ?_ _ _ _ ⟨0,ra,none,none,none,by simp [rangeD],rfl,hra,updS_same,Kp.refl.new hra⟩
 ·rintro env st' ⟨i,ra,x3,x4,x5,hi,rfl,hra,hs,K⟩
  refine ⟨trivial,?_⟩
  walk_at "es"
  simp only [List.length_nil,Nat.add_zero] at hi
  subst hi
  exact EndQ_rt (q ra st' hra hs K)
 ·rintro d ds env st' ih ⟨i,ra,x3,x4,x5,hi,rfl,hra,hs,K⟩
  refine ⟨trivial,?_⟩
  simp only [List.length_cons] at hi
  walk_at "ek"
  walk_at "es"
  intro la hla
  have hrl:ra ≠ la:=neNew hs hla
  have hsl:st la=none:=by
   cases z:st la with
   | none=>rfl
   | some u=>rw [K.at' z (by simp)] at hla;cases hla
  walk_at "es"
  refine ⟨_,.inl (keepNew hs hla),?_⟩
  have b1:=pow_le_of (c:=cs.length) (i:=i + 1) (n:=m) (by omega)
  have b0:=pow_le_of (c:=cs.length) (i:=i) (n:=m) (by omega)
  refine for_inv (fun l env st2=>∃ (pre suf:List (List D)) (x5:Option D),rowsOver i cs=pre++suf∧l=suf.map D.tup∧env=[some (.int m),some (.ref sa),some (.ref ra),some d,some (.ref la),x5]∧st2 la=some (.lst ((pre.flatMap fun r=>cs.map fun c=>r++[c]).map D.tup))∧st2 ra=some (.lst ((rowsOver i cs).map D.tup))∧Kp [] st st2) ?_ ?_ _ _ _ ⟨[],rowsOver i cs,_,rfl,rfl,rfl,updS_same,keepNew hs hla,K.new hla⟩
  ·rintro env st2 ⟨pre,suf,x5,e,el,rfl,hl,hr,K2⟩
   refine ⟨.inl hr,?_⟩
   have es:suf=[]:=by simpa using el.symm
   subst es
   rw [List.append_nil] at e
   walk_at "es"
   exact ih _ _ ⟨i + 1,la,_,_,_,by omega,rfl,hsl,by rw [rowsOver,e];exact hl,K2⟩
  ·rintro d2 ds2 env st2 ih2 ⟨pre,suf,x5,e,el,rfl,hl,hr,K2⟩
   refine ⟨.inl hr,?_⟩
   cases suf with
   | nil=>simp at el
   | cons r suf=>
    simp only [List.map_cons,List.cons.injEq] at el
    obtain ⟨rfl,rfl⟩:=el
    have h2':=K2.at' h2 (by simp)
    have hlr:pre.length + (suf.length + 1)=cs.length ^ i:=by have:=rows_len i cs;rw [e] at this;simpa using this
    have hrl2:r.length≤1000:=by
     have rl:∀ (i:Nat),∀ r ∈ rowsOver i cs,r.length=i:=fun i=>by
      induction i with
      | zero=>intro r hr;simp [rowsOver] at hr;simp [hr]
      | succ i ihh=>
       intro r hr
       simp only [rowsOver,List.mem_flatMap,List.mem_map] at hr
       obtain ⟨r',hr',c,_,rfl⟩:=hr
       simp [ihh r' hr']
     have:=rl i r (by rw [e];simp)
     omega
    walk_at "ek"
    walk_at "es"
    rw [isLR_r (.inl hl)]
    refine ⟨trivial,cs,.inl h2',by omega,?_⟩
    refine comp_map (fun c=>.tup (r++[c])) (fun env=>∃ x,env=[some (.tup r),x]) (fun env y h=>by obtain ⟨x,rfl⟩:=h;exact ⟨_,rfl⟩) (fun env K h=>h) (fun env y K h hk=>by
     obtain ⟨x,rfl⟩:=h
     walk_at "ek"
     exact ⟨szLine (by omega),hk⟩) (.inl h2') _ _ _ ⟨none,rfl⟩ ?_
    intro p hp
    rw [ext_r (keepNew hl hp) updS_same]
    have el2:(pre.flatMap fun r=>cs.map fun c=>r++[c]).length=pre.length * cs.length:=flat_len _ _ (fun x=>by simp) _
    have hle:pre.length * cs.length + cs.length≤100000:=by
     have h3:(pre.length + 1) * cs.length≤cs.length ^ i * cs.length:=Nat.mul_le_mul_right _ (by omega)
     rw [Nat.add_mul,Nat.one_mul] at h3
     rw [Nat.pow_succ] at b1
     omega
    refine ⟨szLine (by rw [List.length_map,el2];simp only [List.nil_append,List.length_map];omega),?_⟩
    walk_at "ek"
    have hrp:ra ≠ p:=neNew hr hp
    refine ih2 _ _ ⟨pre++[r],suf,_,by rw [e];simp,rfl,rfl,?_,keepNe (keepNew hr hp) hrl,fun b u nb eb=>keepNe (keepNew (K2 b u nb eb) hp) (fun z=>by rw [z,hsl] at eb;cases eb)⟩
    rw [updS_same,List.flatMap_append,List.map_append]
    simp [List.map_map,Function.comp_def]
noncomputable def VT (s0:Sto) (dn:Addr) (k:Kd) (d:D) (st:Sto):Prop:=∃ a,d=.ref a∧a ≠ dn∧s0 a=none∧st a=some (.lst k.things)
theorem sp_joined {s0:Sto} {h a b:Kd} {dn:Addr} {d1 d2:D} (K0:Kp [] s0 st) (hs:h.subs=[a,b]) (hb:h.bd 100) (hn:1≤n) (v1:VT s0 dn a d1 st) (v2:VT s0 dn b d2 st) (hdn:∃ ds,st dn=some (.lst ds)) (q:∀ d st2,VT s0 dn h d st2→Kp [] st st2→Q d st2):sem P G (n + 1) "joined_things" [.str h.w,d1,d2] st Q:=by
 obtain ⟨n,rfl⟩:∃ m,n=m + 1:=⟨n - 1,by omega⟩
 obtain ⟨fa,rfl,nf,_,hf⟩:=v1
 obtain ⟨sa,rfl,ns,_,hsa⟩:=v2
 obtain ⟨dsn,hdn⟩:=hdn
 have fresh:∀ (p:Addr) (st2:Sto),st p=none→p ≠ dn:=fun p st2 hp z=>by rw [z,hdn] at hp;cases hp
 refine sem_in T.joined rfl [some (.str h.w),some (.ref fa),some (.ref sa)] rfl ?_
 unfold d_joined_things
 have la:=things_len a
 have lb:=things_len b
 cases h with
 | non=>cases hs
 | one=>cases hs
 | eith a' b'=>
  cases hs
  have ba:=Kd.bd_le hb.1
  have bb:=Kd.bd_le hb.2.1
  simp only [Kd.w]
  walk_at "es"
  walk_at "es"
  refine ⟨_,.inl hf,by omega,?_⟩
  refine comp_map (fun t=>.tup [.str "l",t]) (fun env=>∃ x,env=[x]) (fun env y h=>by obtain ⟨x,rfl⟩:=h;exact ⟨_,rfl⟩) (fun env K h=>h) (fun env y K h hk=>by
   obtain ⟨x,rfl⟩:=h
   walk_at "ek"
   exact hk) (.inl hf) _ _ _ ⟨none,rfl⟩ ?_
  intro p hp
  have hsa':=keepNew (u:=.lst ([]++a.things.map fun t=>D.tup [.str "l",t])) hsa hp
  refine ⟨_,.inl hsa',by omega,?_⟩
  refine comp_map (fun t=>.tup [.str "r",t]) (fun env=>∃ x,env=[x]) (fun env y h=>by obtain ⟨x,rfl⟩:=h;exact ⟨_,rfl⟩) (fun env K h=>h) (fun env y K h hk=>by
   obtain ⟨x,rfl⟩:=h
   walk_at "ek"
   exact hk) (.inl hsa') _ _ _ ⟨none,rfl⟩ ?_
  intro p2 hp2
  rw [add_rr]
  refine ⟨_,_,keepNew updS_same hp2,updS_same,szLine (by simp only [List.nil_append,List.length_map];omega),fun p3 hp3=>EndQ_rt (q _ _ ⟨p3,rfl,?_,none_of (((K0.new hp).new hp2)) hp3,?_⟩ (((Kp.refl.new hp).new hp2).new hp3))⟩
  ·exact (neNew (keepNew (keepNew hdn hp) hp2) hp3).symm
  ·rw [updS_same];rfl
 | both a' b'=>
  cases hs
  have ba:=Kd.bd_le hb.1
  have bb:=Kd.bd_le hb.2.1
  simp only [Kd.w]
  walk_at "es"
  walk_at "es"
  walk_at "es"
  refine ⟨by rw [T.pairs];rfl,sp_pairs T hf hsa (by rw [la,lb];have:=hb.2.2;omega) (by omega) fun p st2 hp hs2 K=>EndQ_rt (q _ _ ⟨p,rfl,fresh p st2 hp,none_of K0 hp,hs2⟩ K)⟩
 | way a' b'=>
  cases hs
  have ba:=Kd.bd_le hb.1
  have bb:=Kd.bd_le hb.2.1
  have bw:b.cnt ^ a.cnt≤100:=hb.2.2
  simp only [Kd.w]
  walk_at "es"
  walk_at "es"
  walk_at "es"
  rw [len_r (.inl hf)]
  refine ⟨by rw [T.rows];rfl,sp_rows T hsa (by rw [la,lb];omega) (by omega) (by omega) fun p st2 hp hs2 K=>?_⟩
  walk_at "ek"
  refine ⟨_,.inl hs2,by rw [List.length_map,rows_len,la,lb];omega,?_⟩
  refine comp_map (fun r=>.tup [.str "w",r]) (fun env=>∃ x,env=[x]) (fun env y h=>by obtain ⟨x,rfl⟩:=h;exact ⟨_,rfl⟩) (fun env K h=>h) (fun env y K h hk=>by
   obtain ⟨x,rfl⟩:=h
   walk_at "ek"
   exact hk) (.inl hs2) _ _ _ ⟨none,rfl⟩ ?_
  intro p2 hp2
  have hdn2:=K.at' hdn (by simp)
  refine EndQ_rt (q _ _ ⟨p2,rfl,(neNew hdn2 hp2).symm,none_of (K0.trans K) hp2,?_⟩ (K.new hp2))
  rw [updS_same,List.nil_append,List.map_map];rfl
omit T in
theorem pre_bd {m:Nat}:∀ {k h:Kd},k.bd m→h ∈ k.pre→h.bd m:=by
 intro k
 induction k with
 | non=>intro h hb hm;simp [Kd.pre] at hm;subst hm;exact hb
 | one=>intro h hb hm;simp [Kd.pre] at hm;subst hm;exact hb
 | eith a b iha ihb | both a b iha ihb | way a b iha ihb=>
  intro h hb hm
  simp only [Kd.pre,List.mem_cons,List.mem_append] at hm
  rcases hm with rfl | hm | hm
  ·exact hb
  ·exact ihb hb.2.1 hm
  ·exact iha hb.1 hm
theorem sp_things {k:Kd} (hn:6≤n) (hb:k.bd 100) (hk:k.nest≤9) (q:∀ a st',st a=none→st' a=some (.lst k.things)→Kp [] st st'→Q (.ref a) st'):sem P G n "things" [k.d] st Q:=by
 obtain ⟨n,rfl⟩:∃ m,n=m + 6:=⟨n - 6,by omega⟩
 have hs:k.size≤2000:=by
  have:=size_nest k
  have:2 ^ (k.nest + 1)≤2 ^ 10:=Nat.pow_le_pow_right (by decide) (by omega)
  omega
 refine sem_in T.things rfl [some k.d] rfl ?_
 unfold d_things
 walk_at "es"
 refine ⟨by rw [T.bu];rfl,fun p0 hp0 p1 hp1 pd hpd=>⟨by rw [T.joined];rfl,?_⟩⟩
 have hp1':=none_of (Kp.refl.new hp0) hp1
 generalize hst3:updS (updS (updS st p0 (.lst [])) p1 (.lst [D.tup []])) pd _=st3
 have e0:st3 p0=some (.lst []):=by rw [← hst3];exact keepNew (keepNew updS_same hp1) hpd
 have e1:st3 p1=some (.lst [D.tup []]):=by rw [← hst3];exact keepNew updS_same hpd
 have e2:st3 pd=some (.dct [(.inr "none",.ref p0),(.inr "one",.ref p1)]):=by rw [← hst3];exact updS_same
 have K0:Kp [] st st3:=by rw [← hst3];exact ((Kp.refl.new hp0).new hp1).new hpd
 refine sp_built T.toPT0 (n:=n + 2) (V:=VT st) (fun {dn k d st1 st'} v K=>?_) k hs (by omega) (v0:=.ref p0) (v1:=.ref p1) e2 (by rw [T.joined];rfl) (fun dn st' hdn K=>⟨p0,rfl,fun z=>?_,hp0,K.at' e0 (by simp)⟩) (fun dn st' hdn K=>⟨p1,rfl,fun z=>?_,hp1',K.at' e1 (by simp)⟩) (fun h a b dn d1 d2 st' Q hh KK hsub v1 v2 hdn q=>sp_joined T (n:=n + 1) (K0.trans KK) hsub (pre_bd hb hh) (by omega) v1 v2 hdn q) fun dn d st' hdn v K=>?_
 ·obtain ⟨a,rfl,ne,hz,e⟩:=v
  exact ⟨a,rfl,ne,hz,K.at' e (by simp;exact ne)⟩
 ·rw [← z,e0] at hdn;cases hdn
 ·rw [← z,e1] at hdn;cases hdn
 ·obtain ⟨a,rfl,ne,hz,e⟩:=v
  exact EndQ_rt (q a st' hz e (K0.trans K))
end
mutual
noncomputable def D.lit:D→Bool
 | .int _=>true
 | .str x=>PyData.canLay0 (.str x)
 | .tup ds=>D.lits ds
 | _=>false
noncomputable def D.lits:List D→Bool
 | []=>true
 | d::r=>d.lit && D.lits r
end
mutual
theorem lit_pure:∀ d:D,d.lit=true→d.pure=true
 | .int _,_=>rfl
 | .str _,h=>h
 | .tup ds,h=>by rw [pure_tup];exact lits_pures ds h
 | .non,h=>nomatch h
 | .bl _,h=>nomatch h
 | .ref _,h=>nomatch h
 | .fn _,h=>nomatch h
theorem lits_pures:∀ ds:List D,D.lits ds=true→D.pures ds=true
 | [],_=>rfl
 | d::r,h=>by
  have h':d.lit=true∧D.lits r=true:=by simpa [D.lits] using h
  rw [pures_cons,lit_pure d h'.1,lits_pures r h'.2];rfl
end
mutual
theorem deq_lit:∀ x y:D,x.lit=true→y.lit=true→(deq x y=true ↔ x=y)
 | .int i,y,hx,hy=>by
  cases y <;> first | (simp [D.lit] at hy;done) | skip
  ·rw [deq_int];simp
  ·constructor
   ·intro h;simp [deq,D.py,PyData.eqv] at h
   ·intro h;cases h
  ·constructor
   ·intro h;simp [deq,D.py,PyData.eqv] at h
   ·intro h;cases h
 | .str x,y,hx,hy=>by
  cases y <;> first | (simp [D.lit] at hy;done) | skip
  ·constructor
   ·intro h;simp [deq,D.py,PyData.eqv] at h
   ·intro h;cases h
  ·rw [deq_str];simp
  ·constructor
   ·intro h;simp [deq,D.py,PyData.eqv] at h
   ·intro h;cases h
 | .tup xs,y,hx,hy=>by
  cases y <;> first | (simp [D.lit] at hy;done) | skip
  ·constructor
   ·intro h;simp [deq,D.py,PyData.eqv] at h
   ·intro h;cases h
  ·constructor
   ·intro h;simp [deq,D.py,PyData.eqv] at h
   ·intro h;cases h
  ·rename_i ys
   rw [deq_tup,deqs_lit xs ys hx hy];simp
 | .non,y,hx,hy=>nomatch hx
 | .bl _,y,hx,hy=>nomatch hx
 | .ref _,y,hx,hy=>nomatch hx
 | .fn _,y,hx,hy=>nomatch hx
theorem deqs_lit:∀ xs ys:List D,D.lits xs=true→D.lits ys=true→(deqs xs ys=true ↔ xs=ys)
 | [],[],_,_=>by simp [deqs]
 | [],y::ys,_,_=>by simp [deqs]
 | x::xs,[],_,_=>by simp [deqs]
 | x::xs,y::ys,hx,hy=>by
  have h1:x.lit=true∧D.lits xs=true:=by simpa [D.lits] using hx
  have h2:y.lit=true∧D.lits ys=true:=by simpa [D.lits] using hy
  rw [deqs,Bool.and_eq_true,deq_lit x y h1.1 h2.1,deqs_lit xs ys h1.2 h2.2,List.cons.injEq]
end
theorem deq_litF {x y:D} (hx:x.lit=true) (hy:y.lit=true) (h:x ≠ y):deq x y=false:=by
 cases e:deq x y with
 | false=>rfl
 | true=>exact absurd ((deq_lit x y hx hy).mp e) h
theorem deq_litT {x:D} (hx:x.lit=true):deq x x=true:=(deq_lit x x hx hx).mpr rfl
theorem lits_all {ds:List D}:D.lits ds=true ↔ ∀ d ∈ ds,d.lit=true:=by
 induction ds with
 | nil=>simp [D.lits]
 | cons d r ih=>simp [D.lits,ih]
theorem lit_ofString (s:String):(D.str (Str.ofString s)).lit=true:=pure_ofString s
theorem lit_tup {ds:List D}:(D.tup ds).lit=D.lits ds:=rfl
theorem lits_cons {d:D} {r:List D}:D.lits (d::r)=(d.lit && D.lits r):=rfl
theorem lits_nil:D.lits []=true:=rfl
theorem rows_mem:∀ (n:Nat) (cs r:List D),r ∈ rowsOver n cs→r.length=n∧∀ d ∈ r,d ∈ cs
 | 0,cs,r,h=>by simp [rowsOver] at h;subst h;simp
 | n + 1,cs,r,h=>by
  simp only [rowsOver,List.mem_flatMap,List.mem_map] at h
  obtain ⟨r',hr,c,hc,rfl⟩:=h
  obtain ⟨h1,h2⟩:=rows_mem n cs r' hr
  refine ⟨by simp [h1],fun d hd=>?_⟩
  rcases List.mem_append.mp hd with hd | hd
  ·exact h2 d hd
  ·simp only [List.mem_singleton] at hd;subst hd;exact hc
theorem things_lit:∀ (k:Kd) (t:D),t ∈ k.things→t.lit=true∧dpth t≤2 * k.nest + 1
 | .non,t,h=>by simp [Kd.things] at h
 | .one,t,h=>by simp only [Kd.things,List.mem_singleton] at h;subst h;exact ⟨rfl,by rw [dp_tup];simp [dpths,Kd.nest]⟩
 | .eith a b,t,h=>by
  simp only [Kd.things,List.mem_append,List.mem_map] at h
  simp only [Kd.nest]
  rcases h with ⟨x,hx,rfl⟩ | ⟨x,hx,rfl⟩
  ·obtain ⟨h1,h2⟩:=things_lit a x hx
   exact ⟨by simp only [lit_tup,lits_cons,lits_nil,lit_ofString,h1,Bool.and_self],by simp only [dp_tup,dpths,dp_str];omega⟩
  ·obtain ⟨h1,h2⟩:=things_lit b x hx
   exact ⟨by simp only [lit_tup,lits_cons,lits_nil,lit_ofString,h1,Bool.and_self],by simp only [dp_tup,dpths,dp_str];omega⟩
 | .both a b,t,h=>by
  simp only [Kd.things,List.mem_flatMap,List.mem_map] at h
  simp only [Kd.nest]
  obtain ⟨x,hx,y,hy,rfl⟩:=h
  obtain ⟨h1,h2⟩:=things_lit a x hx
  obtain ⟨h3,h4⟩:=things_lit b y hy
  exact ⟨by simp only [lit_tup,lits_cons,lits_nil,lit_ofString,h1,h3,Bool.and_self],by simp only [dp_tup,dpths,dp_str];omega⟩
 | .way a b,t,h=>by
  simp only [Kd.things,List.mem_map] at h
  simp only [Kd.nest]
  obtain ⟨r,hr,rfl⟩:=h
  obtain ⟨_,hm⟩:=rows_mem _ _ _ hr
  have hd:dpths r≤2 * b.nest + 1:=by
   have:∀ r:List D,(∀ d ∈ r,d ∈ b.things)→dpths r≤2 * b.nest + 1:=fun r=>by
    induction r with
    | nil=>intro _;exact Nat.zero_le _
    | cons d r ih=>
     intro hm
     have:=(things_lit b d (hm d (by simp))).2
     have:=ih fun d hd=>hm d (by simp [hd])
     rw [dpths];exact Nat.max_le.mpr ⟨by omega,by omega⟩
   exact this r hm
  refine ⟨?_,by simp only [dp_tup,dpths,dp_str];omega⟩
  simp only [lit_tup,lits_cons,lits_nil,lit_ofString,Bool.and_true,Bool.true_and]
  exact lits_all.mpr fun d hd=>(things_lit b d (hm d hd)).1
theorem nodup_flat {α β:Type} {f:α→List β}:∀ {l:List α},l.Nodup→(∀ x ∈ l,(f x).Nodup)→(∀ x ∈ l,∀ y ∈ l,∀ z,z ∈ f x→z ∈ f y→x=y)→(l.flatMap f).Nodup
 | [],_,_,_=>by simp
 | x::l,hn,hf,hd=>by
  rw [List.flatMap_cons,List.nodup_append]
  have hn':=List.nodup_cons.mp hn
  refine ⟨hf x (by simp),nodup_flat hn'.2 (fun y hy=>hf y (by simp [hy])) (fun y hy z hz=>hd y (by simp [hy]) z (by simp [hz])),fun a ha b hb e=>?_⟩
  subst e
  obtain ⟨y,hy,hay⟩:=List.mem_flatMap.mp hb
  exact hn'.1 (hd x (by simp) y (by simp [hy]) a ha hay ▸ hy)
theorem nodup_map {α β:Type} {f:α→β} (hf:∀ x y,f x=f y→x=y) {l:List α} (h:l.Nodup):(l.map f).Nodup:=List.Pairwise.map f (fun a b hab e=>hab (hf a b e)) h
theorem rows_nodup {cs:List D} (h:cs.Nodup):∀ n,(rowsOver n cs).Nodup
 | 0=>by simp [rowsOver]
 | n + 1=>by
  rw [rowsOver]
  refine nodup_flat (rows_nodup h n) (fun r _=>nodup_map (fun x y e=>by simpa using e) h) (fun r _ r' _ z hz hz'=>?_)
  obtain ⟨c,_,rfl⟩:=List.mem_map.mp hz
  obtain ⟨c',_,e⟩:=List.mem_map.mp hz'
  exact (List.append_inj' e rfl).1.symm
theorem things_nodup:∀ k:Kd,k.things.Nodup
 | .non=>by simp [Kd.things]
 | .one=>by simp [Kd.things]
 | .eith a b=>by
  rw [Kd.things,List.nodup_append]
  refine ⟨nodup_map (fun x y e=>by simpa using e) (things_nodup a),nodup_map (fun x y e=>by simpa using e) (things_nodup b),fun x hx y hy e=>?_⟩
  obtain ⟨t,_,rfl⟩:=List.mem_map.mp hx
  obtain ⟨t',_,rfl⟩:=List.mem_map.mp hy
  simp [ofString_inj] at e
 | .both a b=>by
  rw [Kd.things]
  refine nodup_flat (things_nodup a) (fun x _=>nodup_map (fun y y' e=>by simpa using e) (things_nodup b)) (fun x _ x' _ z hz hz'=>?_)
  obtain ⟨y,_,rfl⟩:=List.mem_map.mp hz
  obtain ⟨y',_,e⟩:=List.mem_map.mp hz'
  simp at e;exact e.1.symm
 | .way a b=>by
  rw [Kd.things]
  exact nodup_map (fun x y e=>by simpa using e) (rows_nodup (things_nodup b) _)
theorem nodup_inj {α:Type}:∀ {l:List α},l.Nodup→∀ (i j:Nat) (x:α),l[i]?=some x→l[j]?=some x→i=j
 | [],_,i,j,x,h,_=>by simp at h
 | a::l,hn,i,j,x,hi,hj=>by
  have hn':=List.nodup_cons.mp hn
  cases i with
  | zero=>
   cases j with
   | zero=>rfl
   | succ j=>
    simp at hi;subst hi
    exact absurd (List.mem_of_getElem? (by simpa using hj)) hn'.1
  | succ i=>
   cases j with
   | zero=>
    simp at hj;subst hj
    exact absurd (List.mem_of_getElem? (by simpa using hi)) hn'.1
   | succ j=>rw [nodup_inj hn'.2 i j x (by simpa using hi) (by simpa using hj)]
theorem idx_th {st:Sto} {a:Addr} {k:Kd} {j:Nat} {t:D} {Q:DK} (h:st a=some (.lst k.things)) (hn:k.nest≤20) (hj:k.things[j]?=some t) (q:Q (.int j) st):indexR (.ref a) t st Q:=by
 have hm:=List.mem_of_getElem? hj
 obtain ⟨lt,dt⟩:=things_lit k t hm
 refine ⟨k.things,.inl h,lit_pure t lt,lits_pures _ (lits_all.mpr fun d hd=>(things_lit k d hd).1),by omega,j,t,hj,deq_litT lt,fun i e hi he=>?_,q⟩
 refine deq_litF (things_lit k e (List.mem_of_getElem? he)).1 lt fun z=>?_
 subst z
 have:=nodup_inj (things_nodup k) i j _ he hj
 omega
end Ek
set_option Elab.async false
set_option linter.all false
set_option maxRecDepth 100000
namespace Ek
open PySem L2
inductive Lk where
 | fst | snd | giv (p:D)
noncomputable def Lk.d:Lk→D
 | .fst=>.tup [.str "first"] | .snd=>.tup [.str "second"] | .giv p=>.tup [.str "give",p]
noncomputable def Lk.on (e:D):Lk→D
 | .fst=>.tup [.str "first",e] | .snd=>.tup [.str "second",e] | .giv p=>.tup [.str "give",e,p]
noncomputable def exD (i:Nat) (ls:List Lk):D:=ls.foldl Lk.on (.tup [.str "name",.int i])
theorem exD_snoc {i:Nat} {ls:List Lk} {l:Lk}:exD i (ls++[l])=l.on (exD i ls):=by simp [exD]
structure Ask where
 lv:Nat
 ls:List Lk
 k:Kd
noncomputable def Kd.mute:Kd→Bool
 | .non=>false | .one=>true | .eith _ _=>false
 | .both a b=>a.mute && b.mute
 | .way a b=>a.cnt == 0 || b.mute
noncomputable def Kd.rk:Kd→Nat
 | .non=>1 | .one=>1
 | .eith a b=>2 + max a.rk b.rk
 | .both a b=>1 + a.rk + b.rk
 | .way a b=>1 + a.cnt * b.rk
noncomputable def rks (l:List Ask):Nat:=(l.map fun q=>q.k.rk).sum
theorem rk_pos (k:Kd):1≤k.rk:=by cases k <;> simp [Kd.rk] <;> omega
theorem rks_cons {q:Ask} {l:List Ask}:rks (q::l)=q.k.rk + rks l:=by simp [rks]
theorem rks_app {a b:List Ask}:rks (a++b)=rks a + rks b:=by simp [rks]
mutual
inductive Pl:Kd→D→D→Prop where
 | one:Pl .one (.tup []) (.tup [.str "star"])
 | l {a b:Kd} {t p:D}:Pl a t p→Pl (.eith a b) (.tup [.str "l",t]) (.tup [.str "left",b.d,p])
 | r {a b:Kd} {t p:D}:Pl b t p→Pl (.eith a b) (.tup [.str "r",t]) (.tup [.str "right",a.d,p])
 | both {a b:Kd} {t u p q:D}:Pl a t p→Pl b u q→Pl (.both a b) (.tup [.str "p",t,u]) (.tup [.str "pair",p,q])
 | way {a b:Kd} {row ps:List D} {x:D}:Pls b row ps→Tr b 1 [⟨0,[],a⟩] ps x []→Pl (.way a b) (.tup [.str "w",.tup row]) (.tup [.str "way",a.d,x])
inductive Pls:Kd→List D→List D→Prop where
 | nil {k:Kd}:Pls k [] []
 | cons {k:Kd} {t p:D} {ts ps:List D}:Pl k t p→Pls k ts ps→Pls k (t::ts) (p::ps)
inductive Tr:Kd→Nat→List Ask→List D→D→List D→Prop where
 | nil {g:Kd} {dp:Nat} {p:D} {ps:List D}:Tr g dp [] (p::ps) p ps
 | mute {g:Kd} {dp:Nat} {q:Ask} {r:List Ask} {ps p':List D} {x:D}:q.k.mute=true→Tr g dp r ps x p'→Tr g dp (q::r) ps x p'
 | non {g:Kd} {dp lv:Nat} {ls:List Lk} {r:List Ask} {ps:List D}:Tr g dp (⟨lv,ls,.non⟩::r) ps (.tup [.str "never",g.d,exD (dp - 1 - lv) ls]) ps
 | eith {g a b:Kd} {dp lv:Nat} {ls:List Lk} {r:List Ask} {ps p1 p2:List D} {x y:D}:Tr g (dp + 1) (⟨dp,[],a⟩::r) ps x p1→Tr g (dp + 1) (⟨dp,[],b⟩::r) p1 y p2→Tr g dp (⟨lv,ls,.eith a b⟩::r) ps (.tup [.str "case",exD (dp - 1 - lv) ls,x,y]) p2
 | both {g a b:Kd} {dp lv:Nat} {ls:List Lk} {r:List Ask} {ps p':List D} {x:D}:Tr g dp (⟨lv,ls++[.fst],a⟩::⟨lv,ls++[.snd],b⟩::r) ps x p'→Tr g dp (⟨lv,ls,.both a b⟩::r) ps x p'
 | way {g a b:Kd} {dp lv:Nat} {ls:List Lk} {r:List Ask} {gs ps p':List D} {x:D}:Pls a a.things gs→Tr g dp (gs.map (fun p=>⟨lv,ls++[.giv p],b⟩)++r) ps x p'→Tr g dp (⟨lv,ls,.way a b⟩::r) ps x p'
end
theorem Pls.len {k:Kd}:∀ {ts ps:List D},Pls k ts ps→ts.length=ps.length
 | [],ps,h=>by cases h;rfl
 | t::ts,ps,h=>by cases h with | cons _ h=>simp [Pls.len h]
theorem unmute:∀ (k:Kd),k.mute=true→∀ {g:Kd} {dp lv:Nat} {ls:List Lk} {r:List Ask} {ps p':List D} {x:D},Tr g dp (⟨lv,ls,k⟩::r) ps x p'→Tr g dp r ps x p'
 | .non,h=>by cases h
 | .one,_=>by
  intro t
  cases t with | mute _ t=>exact t
 | .eith _ _,h=>by cases h
 | .both a b,h=>by
  intro t
  simp only [Kd.mute,Bool.and_eq_true] at h
  cases t with
  | mute _ t=>exact t
  | both t=>exact unmute b h.2 (unmute a h.1 t)
 | .way a b,h=>by
  intro t
  simp only [Kd.mute,Bool.or_eq_true,beq_iff_eq] at h
  cases t with
  | mute _ t=>exact t
  | @way _ _ _ _ _ _ _ gs _ _ _ hg t=>
   have hl:=hg.len
   rw [things_len] at hl
   rcases h with h | h
   ·have e:gs=[]:=List.eq_nil_of_length_eq_zero (by omega)
    subst e
    simpa using t
   ·clear hg hl
    induction gs with
    | nil=>simpa using t
    | cons p gs ih=>
     rw [List.map_cons,List.cons_append] at t
     exact ih (unmute b h t)
noncomputable def PlDet (k:Kd):Prop:=∀ t p q,Pl k t p→Pl k t q→p=q
theorem plsDet {k:Kd} (h:PlDet k):∀ {ts ps qs:List D},Pls k ts ps→Pls k ts qs→ps=qs
 | [],ps,qs,a,b=>by cases a;cases b;rfl
 | t::ts,ps,qs,a,b=>by
  cases a with
  | cons a1 a2=>cases b with
   | cons b1 b2=>rw [h _ _ _ a1 b1,plsDet h a2 b2]
theorem trDet:∀ (n:Nat) {asks:List Ask} (hn:rks asks≤n) (hP:∀ q ∈ asks,∀ k:Kd,k ∈ q.k.pre→k ≠ q.k→PlDet k) {g:Kd} {dp:Nat} {ps p1 p2:List D} {x y:D},Tr g dp asks ps x p1→Tr g dp asks ps y p2→x=y∧p1=p2:=by
 intro n
 induction n with
 | zero=>
  intro asks hn hP g dp ps p1 p2 x y t u
  cases asks with
  | nil=>cases t;cases u;exact ⟨rfl,rfl⟩
  | cons q r=>rw [rks_cons] at hn;have:=rk_pos q.k;omega
 | succ n ih=>
  intro asks hn hP g dp ps p1 p2 x y t u
  cases asks with
  | nil=>cases t;cases u;exact ⟨rfl,rfl⟩
  | cons q r=>
   obtain ⟨lv,ls,k⟩:=q
   rw [rks_cons] at hn
   have pk:=rk_pos k
   simp only at hn
   have hPr:∀ q ∈ r,∀ k:Kd,k ∈ q.k.pre→k ≠ q.k→PlDet k:=fun q hq=>hP q (by simp [hq])
   have hPk:∀ c:Kd,c ∈ k.pre→c ≠ k→PlDet c:=hP ⟨lv,ls,k⟩ (by simp)
   by_cases hm:k.mute=true
   ·exact ih (by omega) hPr (unmute k hm t) (unmute k hm u)
   have sub:∀ {c d:Kd},c ∈ k.subs→d ∈ c.pre→PlDet d:=fun {c d} hc hd=>by
    refine hPk d (pre_trans (pre_in (pre_self k) hc) hd) fun z=>?_
    subst z
    have h1:=pre_size hd
    have h2:=size_subs d
    have h3:c.size≤(d.subs.map Kd.size).sum:=sum_mem Kd.size hc
    omega
   cases t with
   | mute h _=>exact absurd h hm
   | non=>cases u with
    | mute h _=>exact absurd h hm
    | non=>exact ⟨rfl,rfl⟩
   | @eith _ a b _ _ _ _ _ _ _ _ _ t1 t2=>cases u with
    | mute h _=>exact absurd h hm
    | eith u1 u2=>
     simp only [Kd.rk] at hn
     have hA:∀ c ∈ (Kd.eith a b).subs,∀ q ∈ (⟨dp,[],c⟩:Ask)::r,∀ k:Kd,k ∈ q.k.pre→k ≠ q.k→PlDet k:=fun c hc q hq d hd hne=>by
      rcases List.mem_cons.mp hq with rfl | hq
      ·exact sub hc hd
      ·exact hPr q hq d hd hne
     obtain ⟨rfl,rfl⟩:=ih (by rw [rks_cons];simp only;omega) (hA a (by simp [Kd.subs])) t1 u1
     obtain ⟨rfl,rfl⟩:=ih (by rw [rks_cons];simp only;omega) (hA b (by simp [Kd.subs])) t2 u2
     exact ⟨rfl,rfl⟩
   | @both _ a b _ _ _ _ _ _ _ t1=>cases u with
    | mute h _=>exact absurd h hm
    | both u1=>
     simp only [Kd.rk] at hn
     refine ih (by rw [rks_cons,rks_cons];simp only;omega) (fun q hq d hd hne=>?_) t1 u1
     simp only [List.mem_cons] at hq
     rcases hq with rfl | rfl | hq
     ·exact sub (c:=a) (by simp [Kd.subs]) hd
     ·exact sub (c:=b) (by simp [Kd.subs]) hd
     ·exact hPr q hq d hd hne
   | @way _ a b _ _ _ _ gs _ _ _ g1 t1=>cases u with
    | mute h _=>exact absurd h hm
    | way g2 u1=>
     have e:=plsDet (sub (c:=a) (by simp [Kd.subs]) (pre_self a)) g1 g2
     subst e
     simp only [Kd.rk] at hn
     have hl:=g1.len
     rw [things_len] at hl
     have hr:rks (gs.map (fun p=>(⟨lv,ls++[.giv p],b⟩:Ask)))=gs.length * b.rk:=by
      generalize gs=l
      induction l with
      | nil=>simp [rks]
      | cons p l ih=>rw [List.map_cons,rks_cons,ih,List.length_cons,Nat.add_mul,Nat.one_mul,Nat.add_comm]
     refine ih (by rw [rks_app,hr,← hl];omega) (fun q hq d hd hne=>?_) t1 u1
     rcases List.mem_append.mp hq with hq | hq
     ·obtain ⟨p,_,rfl⟩:=List.mem_map.mp hq
      exact sub (c:=b) (by simp [Kd.subs]) hd
     ·exact hPr q hq d hd hne
theorem plDet:∀ (n:Nat) (k:Kd),k.size≤n→PlDet k:=by
 intro n
 induction n with
 | zero=>intro k h;have:=size_subs k;omega
 | succ n ih=>
  intro k hk t p q hp hq
  have sub:∀ c ∈ k.subs,PlDet c:=fun c hc=>ih c (by have:=size_subs k;have:=sum_mem Kd.size hc;omega)
  cases hp with
  | one=>cases hq;rfl
  | l a=>cases hq with | l b=>rw [sub _ (by simp [Kd.subs]) _ _ _ a b]
  | r a=>cases hq with | r b=>rw [sub _ (by simp [Kd.subs]) _ _ _ a b]
  | both a c=>cases hq with | both b d=>rw [sub _ (by simp [Kd.subs]) _ _ _ a b,sub _ (by simp [Kd.subs]) _ _ _ c d]
  | @way a b row ps x h1 t1=>cases hq with
   | way h2 t2=>
    have e:=plsDet (sub b (by simp [Kd.subs])) h1 h2
    subst e
    have:=trDet (rks [⟨0,[],a⟩]) (Nat.le_refl _) (fun q hq d hd hne=>by
     simp only [List.mem_singleton] at hq
     subst hq
     refine ih d ?_
     have h1:=pre_size hd
     have h2:=size_subs (.way a b)
     simp only [Kd.subs,List.map_cons,List.map_nil,List.sum_cons,List.sum_nil] at h2
     simp only at h1
     omega) t1 t2
    rw [this.1]
end Ek
set_option maxRecDepth 100000
namespace Ek
open PySem L2
set_option hygiene false
local macro_rules | `(tactic| walk_at "ek")=>`(tactic| try simp only [s_set,s_put,s_unp,s_ex,s_iff,s_ret,s_retN,s_for,s_while,s_cont,s_pass,s_nil,e_non,e_bl,e_int,e_str,e_v,e_tup,e_lst,e_bin,e_neg,e_cmp,e_isN,e_notN,e_and,e_or,e_not,e_ite,e_ix,e_sl,bnd_non,bnd_int,bnd_bin,bnd_v,bnd_len,bnd_neg,bnd_ix,bnd_call,tst_non,tst_cmp,tst_and,tst_or,tst_not,tst_call,e_dsel,e_len,e_abs,e_toInt,e_sum,e_list,e_tuple,e_max,e_min,e_call,e_gf,e_callv,cd_fn,cd_clo,e_lam,s_dfn,capW_nil,capW_cons,e_gc,s_dead,e_dict,e_cmpl,e_app,e_ext,e_popAt,e_pop,e_lrl,e_lrev,e_lclr,e_index,e_comp,es_nil,es_cons,i_seq,i_rng,i_rng2,i_enumr,i_enum,i_zip,i_rev,ev_0,ev_s,x_ss,x_fn,x_int,x_bl,x_tup,x_some,x_str,x_2int,x_tr,x_rt,x_rr,or_false,false_or,add_ii,add_tt,sub_ii,mul_ii,mod_ii,div_ii,pow_ii,eq_ii,ne_ii,eq_ss,ne_ss,lt_ii,le_ii,gt_ii,ge_ii,in_t,nin_t,ix_t,ix_up,at_0,at_1,at_2,at_3,sl_t,len_t,len_up,int_b,int_i,list_t,tuple_t,tuple_up,isl_up,isLR_up,isTR_t,bind_n,bind_t,setAll_cons,setAll_nil,seq_t,enum_t,List.set_cons_zero,List.set_cons_succ,List.getElem?_cons_zero,List.getElem?_cons_succ,decide_eq_true_eq,Bool.not_eq_true',decide_eq_false_iff_not,if_true,if_false,true_and,and_true,Bool.false_eq_true,Bool.true_eq_false,List.length_cons,List.length_nil,String.reduceEq,decide_true,decide_false,Bool.not_true,Bool.not_false])
set_option hygiene true
set_option hygiene false
local macro_rules | `(tactic| walk_at "es")=>`(tactic| ((try dsimp only);rw [s_cons];walk_at "ek"))
set_option hygiene true
structure PKs (P:Prog) (G:Gs):Prop extends PT1 P G where
 within:P "things_within"=some d_things_within_k61
 plt:P "plain_thing"=some d_plain_thing_k61
 plb:P "plain_by_parts"=some d_plain_by_parts_k61
 pltab:P "plain_table"=some d_plain_table_k61
 anames:P "asked_names"=some d_asked_names_k61
 expr:P "expression"=some d_expression_k61
 opened:P "opened"=some d_opened_k61
 nothing:P "asks_nothing"=some d_asks_nothing_k61
 jask:P "joined_asking"=some d_joined_asking_k61
 looked:P "looked_at"=some d_looked_at_k61
 asking:P "asking"=some d_asking_k61
 nexta:P "next_asked"=some d_next_asked_k61
 deck:P "_law_deck"=some d_law_deck_k61
 next:P "_law_next"=some d_law_next_k61
 crossed:P "_law_crossed"=some d_law_crossed_k61
 lthings:P "_law_things"=some d_law_things_k61
 many:P "_law_many"=some d_law_many_k61
 lrows:P "_law_rows"=some d_law_rows_k61
 kind:P "_law_kind"=some d_law_kind_k61
 names:P "_law_names"=some d_law_names_k61
inductive Lv:Nat→Kd→Prop where
 | one {d:Nat}:Lv d .one
 | non {d:Nat}:Lv (d + 1) .non
 | two {d:Nat}:Lv d (.eith .one .one)
 | eith {d:Nat} {a b:Kd}:Lv d a→Lv d b→Lv (d + 1) (.eith a b)
 | both {d:Nat} {a b:Kd}:Lv d a→Lv d b→Lv (d + 1) (.both a b)
 | way {d:Nat} {a b:Kd}:Lv d a→Lv d b→Lv (d + 1) (.way a b)
theorem Lv.nest {d:Nat} {k:Kd} (h:Lv d k):k.nest≤d + 1:=by
 induction h with
 | one=>exact Nat.zero_le _
 | non=>exact Nat.zero_le _
 | two=>simp [Kd.nest]
 | eith _ _ ha hb | both _ _ ha hb | way _ _ ha hb=>simp only [Kd.nest];omega
theorem Lv.mono {d:Nat} {k:Kd} (h:Lv d k):Lv (d + 1) k:=by
 induction h with
 | one=>exact .one
 | non=>exact .non
 | two=>exact .two
 | eith _ _ ha hb=>exact .eith ha hb
 | both _ _ ha hb=>exact .both ha hb
 | way _ _ ha hb=>exact .way ha hb
theorem Lv.subs {d:Nat} {k c:Kd} (h:Lv (d + 1) k) (hc:c ∈ k.subs):Lv d c:=by
 cases h with
 | one=>simp [Kd.subs] at hc
 | non=>simp [Kd.subs] at hc
 | two=>simp [Kd.subs] at hc;subst hc;exact .one
 | eith ha hb | both ha hb | way ha hb=>simp only [Kd.subs,List.mem_cons,List.not_mem_nil,or_false] at hc;rcases hc with rfl | rfl <;> assumption
theorem Lv.subs' {d:Nat} {k c:Kd} (h:Lv d k) (hc:c ∈ k.subs):Lv d c:=by
 cases h with
 | one=>simp [Kd.subs] at hc
 | non=>simp [Kd.subs] at hc
 | two=>simp [Kd.subs] at hc;subst hc;exact .one
 | eith ha hb | both ha hb | way ha hb=>simp only [Kd.subs,List.mem_cons,List.not_mem_nil,or_false] at hc;rcases hc with rfl | rfl <;> (refine Lv.mono ?_;assumption)
noncomputable def rkb:Nat→Nat
 | 0=>3 | 1=>7 | _=>29
theorem lv0 {k:Kd} (h:Lv 0 k):k.cnt≤2∧k.rk≤3:=by
 cases h <;> simp [Kd.cnt,Kd.rk]
theorem lv1 {k:Kd} (h:Lv 1 k):k.cnt≤4∧k.rk≤7:=by
 cases h with
 | one=>simp [Kd.cnt,Kd.rk]
 | non=>simp [Kd.cnt,Kd.rk]
 | two=>simp [Kd.cnt,Kd.rk]
 | eith ha hb=>have:=lv0 ha;have:=lv0 hb;simp only [Kd.cnt,Kd.rk];omega
 | @both _ a b ha hb=>
  have h1:=lv0 ha;have h2:=lv0 hb;simp only [Kd.cnt,Kd.rk]
  have:a.cnt * b.cnt≤2 * 2:=Nat.mul_le_mul h1.1 h2.1
  omega
 | @way _ a b ha hb=>
  have h1:=lv0 ha;have h2:=lv0 hb;simp only [Kd.cnt,Kd.rk]
  have e1:b.cnt ^ a.cnt≤2 ^ 2:=Nat.le_trans (Nat.pow_le_pow_left h2.1 _) (Nat.pow_le_pow_right (by decide) h1.1)
  have e2:a.cnt * b.rk≤2 * 3:=Nat.mul_le_mul h1.1 h2.2
  omega
theorem lv2 {k:Kd} (h:Lv 2 k):k.rk≤29:=by
 cases h with
 | one=>simp [Kd.rk]
 | non=>simp [Kd.rk]
 | two=>simp [Kd.rk]
 | eith ha hb=>have:=lv1 ha;have:=lv1 hb;simp only [Kd.rk];omega
 | both ha hb=>have:=lv1 ha;have:=lv1 hb;simp only [Kd.rk];omega
 | @way _ a b ha hb=>
  have h1:=lv1 ha;have h2:=lv1 hb;simp only [Kd.rk]
  have e2:a.cnt * b.rk≤4 * 7:=Nat.mul_le_mul h1.1 h2.2
  omega
theorem lv_rk {d:Nat} {k:Kd} (hd:d≤2) (h:Lv d k):k.rk≤rkb d:=by
 obtain rfl | rfl | rfl:d=0 ∨ d=1 ∨ d=2:=by omega
 ·exact (lv0 h).2
 ·exact (lv1 h).2
 ·exact lv2 h
section
variable {P:Prog} {G:Gs} (T:PKs P G)
include T
theorem sp_next6 {n:Nat} {st:Sto} {Q:DK} {a:Addr} {m:Int} (hm:0 < m) (h:Ints st a) (q:∀ r st',0≤r→r < m→Ints st' a→Kp [a] st st'→Q (.int r) st'):sem P G (n + 1) "_law_next" [.ref a,.int m] st Q:=by
 obtain ⟨l,h⟩:=h
 refine sem_in T.next rfl [some (.ref a),some (.int m)] rfl ?_
 unfold d_law_next_k61
 dsimp only
 walk_at "es"
 rw [len_r (.inl h)]
 walk_at "ek"
 cases l with
 | nil=>
  rw [if_pos (by simp)]
  walk_at "es"
  exact EndQ_rt (q 0 st (Int.le_refl _) hm ⟨[],h⟩ Kp.refl)
 | cons x l=>
  rw [if_neg (by simp only [List.map_cons,List.length_cons];omega)]
  walk_at "es"
  rw [isLR_r (.inl h)]
  refine ⟨trivial,⟨by decide,by decide⟩,_,0,.int x,h,by simp [ixN],rfl,?_⟩
  simp only [mod_ii]
  refine ⟨hm,EndQ_rt (q _ _ (Int.emod_nonneg _ (by omega)) (Int.emod_lt_of_pos _ hm) ⟨l,?_⟩ (Kp.refl.put (by simp)))⟩
  rw [updS_same];rfl
theorem sp_many6 {m:Nat} (hm:m≤2 ^ 40):∀ (k:Kd) {n:Nat} {st:Sto} {Q:DK},k.nest + 1≤n→(∀ a b,k=.eith a b ∨ k=.both a b ∨ k=.way a b→a.bd m∧b.bd m)→Q (.int k.cnt) st→sem P G n "_law_many" [k.d] st Q:=by
 have leaf:∀ (w:String) (n:Nat) (st:Sto) (Q:DK),(w="none" ∨ w="one")→Q (.int (if w="one" then 1 else 0)) st→sem P G (n + 1) "_law_many" [.tup [.str w]] st Q:=fun w n st Q hw q=>by
  refine sem_in T.many rfl [some (.tup [.str w]),none,none,none,none] rfl ?_
  unfold d_law_many_k61
  walk_at "es"
  rcases hw with rfl | rfl
  ·walk_at "ek"
   walk_at "es"
   exact EndQ_rt (by simpa using q)
  ·walk_at "ek"
   walk_at "es"
   exact EndQ_rt (by simpa using q)
 have node:∀ (w:String) (a b:Kd) (n:Nat) (st:Sto) (Q:DK) (v:Nat),(∀ Q:DK,Q (.int a.cnt) st→sem P G n "_law_many" [a.d] st Q)→(∀ Q:DK,Q (.int b.cnt) st→sem P G n "_law_many" [b.d] st Q)→a.bd m→b.bd m →
   ((w="either"∧v=a.cnt + b.cnt) ∨ (w="both"∧v=a.cnt * b.cnt) ∨ (w="way"∧v=b.cnt ^ a.cnt))→Q (.int v) st→sem P G (n + 1) "_law_many" [.tup [.str w,a.d,b.d]] st Q:=fun w a b n st Q v ha hb ba bb hw q=>by
  have la:=Kd.bd_le ba
  have lb:=Kd.bd_le bb
  refine sem_in T.many rfl [some (.tup [.str w,a.d,b.d]),none,none,none,none] rfl ?_
  unfold d_law_many_k61
  walk_at "es"
  have e1:¬ (w="none"):=by rcases hw with ⟨rfl,_⟩ | ⟨rfl,_⟩ | ⟨rfl,_⟩ <;> decide
  have e2:¬ (w="one"):=by rcases hw with ⟨rfl,_⟩ | ⟨rfl,_⟩ | ⟨rfl,_⟩ <;> decide
  simp only [ofString_inj,e1,e2,decide_false,if_false,Bool.false_eq_true]
  walk_at "es"
  refine ⟨by rw [T.many];rfl,ha _ ?_⟩
  walk_at "es"
  refine ⟨by rw [T.many];rfl,hb _ ?_⟩
  rcases hw with ⟨rfl,rfl⟩ | ⟨rfl,rfl⟩ | ⟨rfl,rfl⟩
  ·walk_at "es"
   walk_at "es"
   exact EndQ_rt (by simpa using q)
  ·walk_at "es"
   walk_at "es"
   walk_at "es"
   exact ⟨cmul_r ⟨by omega,by omega⟩,EndQ_rt (by simpa using q)⟩
  ·walk_at "es"
   walk_at "es"
   walk_at "es"
   walk_at "es"
   refine ⟨by omega,?_⟩
   refine for_inv (fun l env st'=>st'=st∧∃ (f:Nat) (x:Option D),env=[some (.tup [.str "way",a.d,b.d]),some (.int a.cnt),some (.int b.cnt),some (.int f),x]∧f * b.cnt ^ l.length=b.cnt ^ a.cnt) ?_ ?_ _ _ _ ⟨rfl,1,none,rfl,by simp [rangeD]⟩
   ·rintro env st' ⟨rfl,f,x,rfl,e⟩
    refine ⟨trivial,?_⟩
    walk_at "es"
    have:f=b.cnt ^ a.cnt:=by rw [← e];simp
    rw [this];exact EndQ_rt q
   ·rintro d ds env st' ih ⟨rfl,f,x,rfl,e⟩
    refine ⟨trivial,?_⟩
    walk_at "ek"
    walk_at "es"
    refine ⟨cmul_r ⟨by omega,by omega⟩,ih _ _ ⟨rfl,f * b.cnt,_,by rw [Int.natCast_mul],?_⟩⟩
    rw [← e,List.length_cons,Nat.pow_succ,Nat.mul_assoc,Nat.mul_comm b.cnt]
 intro k
 induction k with
 | non=>intro n st Q hn _ q;obtain ⟨n,rfl⟩:∃ k,n=k + 1:=⟨n - 1,by omega⟩;exact leaf "none" n st Q (.inl rfl) q
 | one=>intro n st Q hn _ q;obtain ⟨n,rfl⟩:∃ k,n=k + 1:=⟨n - 1,by omega⟩;exact leaf "one" n st Q (.inr rfl) q
 | eith a b iha ihb=>
  intro n st Q hn hb q
  obtain ⟨n,rfl⟩:∃ k,n=k + 1:=⟨n - 1,by omega⟩
  simp only [Kd.nest] at hn
  have ⟨ba,bb⟩:=hb a b (.inl rfl)
  exact node "either" a b n st Q _ (fun Q q=>iha (by omega) (bdSub ba) q) (fun Q q=>ihb (by omega) (bdSub bb) q) ba bb (.inl ⟨rfl,rfl⟩) q
 | both a b iha ihb=>
  intro n st Q hn hb q
  obtain ⟨n,rfl⟩:∃ k,n=k + 1:=⟨n - 1,by omega⟩
  simp only [Kd.nest] at hn
  have ⟨ba,bb⟩:=hb a b (.inr (.inl rfl))
  exact node "both" a b n st Q _ (fun Q q=>iha (by omega) (bdSub ba) q) (fun Q q=>ihb (by omega) (bdSub bb) q) ba bb (.inr (.inl ⟨rfl,rfl⟩)) q
 | way a b iha ihb=>
  intro n st Q hn hb q
  obtain ⟨n,rfl⟩:∃ k,n=k + 1:=⟨n - 1,by omega⟩
  simp only [Kd.nest] at hn
  have ⟨ba,bb⟩:=hb a b (.inr (.inr rfl))
  exact node "way" a b n st Q _ (fun Q q=>iha (by omega) (bdSub ba) q) (fun Q q=>ihb (by omega) (bdSub bb) q) ba bb (.inr (.inr ⟨rfl,rfl⟩)) q
theorem sp_kind6 {most:Nat} (h1:2≤most) (h2:most≤20):∀ (d:Nat) {n:Nat} {st:Sto} {Q:DK} {da:Addr},2 * d + 4≤n→Ints st da→(∀ k st',Lv d k→k.bd most→Ints st' da→Kp [da] st st'→Q k.d st')→sem P G n "_law_kind" [.ref da,.int d,.int most] st Q:=by
 have b1:Kd.one.bd most:=show 1≤most by omega
 have bt:(Kd.eith .one .one).bd most:=⟨b1,b1,h1⟩
 have leaf:∀ (d:Nat) {n:Nat} {st:Sto} {Q:DK} {da:Addr} (r:Int),Ints st da→(∀ k st',Lv d k→k.bd most→Ints st' da→Kp [da] st st'→Q k.d st')→wpSs (Zg P G (n + 1)) (match d_law_kind_k61.body.drop 2 with | .cons (.iff _ b _) _=>b | _=>.nil) ⟨wpSs (Zg P G (n + 1)) (d_law_kind_k61.body.drop 3) (EndQ Q),(EndQ Q).rt,(EndQ Q).bk,(EndQ Q).ct⟩ [some (.ref da),some (.int d),some (.int most),some (.int r),some (.tup [.str "either",.tup [.str "one"],.tup [.str "one"]]),none,none,none] st:=by
  intro d n st Q da r I q
  simp only [d_law_kind_k61,Ss.drop]
  walk_at "es"
  intro p hp
  refine ⟨by rw [T.next];rfl,sp_next6 T (by decide) (I.new hp) fun j st2 j0 j1 I2 K2=>?_⟩
  rw [ix_rd (.inl (K2.at' updS_same (by simp;exact fun z=>I.ne hp z.symm)))]
  have K3:Kp [da] st st2:=(Kp.refl.new hp).trans K2
  rcases (show j=0 ∨ j=1 ∨ j=2 by omega) with rfl | rfl | rfl
  ·exact ⟨Kd.one.d,rfl,EndQ_rt (q .one _ .one b1 I2 K3)⟩
  ·exact ⟨(Kd.eith .one .one).d,rfl,EndQ_rt (q _ _ .two bt I2 K3)⟩
  ·exact ⟨(Kd.eith .one .one).d,rfl,EndQ_rt (q _ _ .two bt I2 K3)⟩
 intro d
 induction d with
 | zero=>
  intro n st Q da hn I q
  obtain ⟨n,rfl⟩:∃ m,n=m + 2:=⟨n - 2,by omega⟩
  refine sem_in T.kind rfl [some (.ref da),some (.int (0:Nat)),some (.int most),none,none,none,none,none] rfl ?_
  unfold d_law_kind_k61
  walk_at "es"
  refine ⟨by rw [T.next];rfl,sp_next6 T (by decide) I fun r st2 r0 r1 I2 K2=>?_⟩
  walk_at "es"
  walk_at "es"
  exact leaf 0 r I2 fun k st' a b c e=>q k st' a b c (K2.trans e)
 | succ d ih=>
  intro n st Q da hn I q
  obtain ⟨n,rfl⟩:∃ m,n=m + 2:=⟨n - 2,by omega⟩
  refine sem_in T.kind rfl [some (.ref da),some (.int (d + 1:Nat)),some (.int most),none,none,none,none,none] rfl ?_
  unfold d_law_kind_k61
  walk_at "es"
  refine ⟨by rw [T.next];rfl,sp_next6 T (by decide) I fun r st2 r0 r1 I2 K2=>?_⟩
  walk_at "es"
  walk_at "es"
  have hd0:¬ (((d + 1:Nat):Int)=0):=by omega
  have hd1:((d + 1:Nat):Int) - 1=(d:Int):=by omega
  simp only [hd0,if_false]
  by_cases e0:r=0
  ·subst e0
   simp only [if_true]
   exact leaf (d + 1) 0 I2 fun k st' a b c e=>q k st' a b c (K2.trans e)
  simp only [e0,if_false]
  walk_at "es"
  by_cases e1:r=1
  ·subst e1
   simp only [if_true]
   walk_at "es"
   intro p hp
   refine ⟨by rw [T.next];rfl,sp_next6 T (by decide) (I2.new hp) fun j st3 j0 j1 I3 K3=>?_⟩
   rw [ix_rd (.inl (K3.at' updS_same (by simp;exact fun z=>I2.ne hp z.symm)))]
   have K4:Kp [da] st st3:=(K2.new hp).trans K3
   rcases (show j=0 ∨ j=1 by omega) with rfl | rfl
   ·exact ⟨Kd.non.d,rfl,EndQ_rt (q .non _ .non trivial I3 K4)⟩
   ·exact ⟨Kd.one.d,rfl,EndQ_rt (q .one _ .one b1 I3 K4)⟩
  simp only [e1,if_false]
  walk_at "es"
  rw [hd1]
  refine ⟨by rw [T.kind];rfl,ih (by omega) I2 fun ka st3 la ba I3 K3=>?_⟩
  walk_at "es"
  rw [hd1]
  refine ⟨by rw [T.kind];rfl,ih (by omega) I3 fun kb st4 lb bb I4 K4=>?_⟩
  walk_at "es"
  intro p hp
  have I5:=I4.new (u:=.lst [.str "either",.str "both",.str "way"]) hp
  have K5:=((K2.trans K3).trans K4).new (o:=.lst [.str "either",.str "both",.str "way"]) hp
  have na:=la.nest
  have nb:=lb.nest
  have ca:=Kd.bd_le ba
  have cb:=Kd.bd_le bb
  have fin:∀ (w:String) (k:Kd),k.d=.tup [.str w,ka.d,kb.d]→Lv (d + 1) k→(∀ a b,k=.eith a b ∨ k=.both a b ∨ k=.way a b→a.bd 20∧b.bd 20)→(k.cnt≤most→k.bd most)→k.nest≤d + 2→wpSs (Zg P G (n + 1)) (d_law_kind_k61.body.drop 7) (EndQ Q) [some (.ref da),some (.int (d + 1:Nat)),some (.int most),some (.int r),some (.tup [.str "either",.tup [.str "one"],.tup [.str "one"]]),some ka.d,some kb.d,some (.tup [.str w,ka.d,kb.d])] (updS st4 p (.lst [.str "either",.str "both",.str "way"])):=by
   intro w k hk lk bk bm nk
   simp only [d_law_kind_k61,Ss.drop]
   walk_at "es"
   rw [← hk]
   refine ⟨by rw [T.many];rfl,sp_many6 T (m:=20) (by decide) k (by omega) bk ?_⟩
   walk_at "ek"
   by_cases hgt:(most:Int) < k.cnt
   ·simp only [hgt,if_true]
    walk_at "es"
    exact EndQ_rt (q (.eith .one .one) _ .two bt I5 K5)
   ·simp only [hgt,if_false]
    walk_at "es"
    exact EndQ_rt (q k _ lk (bm (by omega)) I5 K5)
  have b2:ka.bd 20∧kb.bd 20:=⟨Kd.bd_mono h2 ba,Kd.bd_mono h2 bb⟩
  have m3:r % 3=0 ∨ r % 3=1 ∨ r % 3=2:=by omega
  refine ⟨by decide,?_⟩
  rcases m3 with e | e | e
  ·rw [e]
   refine ⟨.str "either",rfl,?_⟩
   exact fin "either" (.eith ka kb) rfl (.eith la lb) (fun a b e=>by rcases e with e | e | e <;> cases e;exact b2) (fun h=>⟨ba,bb,h⟩) (by simp only [Kd.nest];omega)
  ·rw [e]
   refine ⟨.str "both",rfl,?_⟩
   exact fin "both" (.both ka kb) rfl (.both la lb) (fun a b e=>by rcases e with e | e | e <;> cases e;exact b2) (fun h=>⟨ba,bb,h⟩) (by simp only [Kd.nest];omega)
  ·rw [e]
   refine ⟨.str "way",rfl,?_⟩
   exact fin "way" (.way ka kb) rfl (.way la lb) (fun a b e=>by rcases e with e | e | e <;> cases e;exact b2) (fun h=>⟨ba,bb,h⟩) (by simp only [Kd.nest];omega)
end
section
variable {P:Prog} {G:Gs} (T:PKs P G)
include T
theorem sp_deck6 {n:Nat} {st:Sto} {Q:DK} {a:Addr} {ns:List Int} (hl:ns.length≤63) (h:rdS st a (ns.map D.int)) (q:∀ p st',Ints st' p→Kp [] st st'→Q (.ref p) st'):sem P G (n + 1) "_law_deck" [.ref a] st Q:=by
 refine sem_in T.deck rfl [some (.ref a),none,none,none,none] rfl ?_
 unfold d_law_deck_k61
 walk_at "es"
 intro p hp
 have hpa:a ≠ p:=h.elim (fun h=>neNew h hp) (fun h=>neNew h hp)
 walk_at "es"
 have h1:rdS (updS st p (.lst [])) a (ns.map D.int):=h.elim (fun h=>.inl (keepNew h hp)) (fun h=>.inr (keepNew h hp))
 rw [sl_r h1]
 obtain ⟨ms,em,hms⟩:=cut_ints (ns:=ns) (lo:=none) (hi:=some 63)
 rw [em]
 intro s hs
 have hsp:p ≠ s:=neNew updS_same hs
 have hsa:s ≠ a:=fun z=>by subst z;exact h1.elim (fun h=>absurd rfl (neNew h hs)) (fun h=>absurd rfl (neNew h hs))
 have keepA:∀ {st':Sto} {u:Ob},rdS st' a (ns.map D.int)→rdS (updS st' p u) a (ns.map D.int):=fun h=>h.elim (fun h=>.inl (keepNe h hpa)) (fun h=>.inr (keepNe h hpa))
 have keepS:∀ {st':Sto} {u:Ob},rdS st' s (ms.map D.int)→rdS (updS st' p u) s (ms.map D.int):=fun h=>h.elim (fun h=>.inl (keepNe h hsp.symm)) (fun h=>.inr (keepNe h hsp.symm))
 have keepK:∀ {st':Sto} {u:Ob},Kp [] st st'→Kp [] st (updS st' p u):=fun K b o nb e=>keepNe (K b o nb e) (neNew e hp)
 walk_at "ek"
 refine ⟨_,rd_up,?_⟩
 refine for_inv (fun l env st'=>∃ (js:List Int) (dk:List Int) (x2 x3 x4:Option D),l=js.map D.int∧env=[some (.ref a),some (.ref p),x2,x3,x4]∧st' p=some (.lst (dk.map D.int))∧dk.length + 60 * js.length≤60 * 63∧rdS st' s (ms.map D.int)∧rdS st' a (ns.map D.int)∧Kp [] st st') ?_ ?_ _ _ _ ⟨ms,[],_,_,_,rfl,rfl,keepNew updS_same hs,by simp;omega,rd_up,h1.elim (fun h=>.inl (keepNew h hs)) (fun h=>.inr (keepNew h hs)),(Kp.refl.new hp).new hs⟩
 ·rintro env st' ⟨js,dk,x2,x3,x4,el,rfl,hd,hb,hrs,hra,K⟩
  refine ⟨hrs,?_⟩
  walk_at "es"
  rw [len_r (.inl hd)]
  walk_at "ek"
  simp only [List.length_map]
  refine ⟨by omega,?_⟩
  refine for_inv (fun l env st'=>∃ (dk:List Int) (x2 x3 x4:Option D),(∀ d ∈ l,∃ i:Int,d=.int i∧0≤i)∧env=[some (.ref a),some (.ref p),x2,x3,x4]∧st' p=some (.lst (dk.map D.int))∧dk.length + l.length≤10000∧rdS st' a (ns.map D.int)∧Kp [] st st') ?_ ?_ _ _ _ ⟨dk,_,_,_,fun d hd=>by simp only [rangeD,List.mem_map] at hd;obtain ⟨i,_,rfl⟩:=hd;exact ⟨_,rfl,by omega⟩,rfl,hd,by rw [rangeD_length];omega,hra,K⟩
  ·rintro env st' ⟨dk,x2,x3,x4,el,rfl,hd,hb,hra,K⟩
   refine ⟨trivial,?_⟩
   walk_at "es"
   rw [sl_r (.inl hd)]
   intro r hr
   obtain ⟨ks,ek,_⟩:=cut_ints (ns:=dk) (lo:=none) (hi:=some 200)
   rw [ek]
   exact EndQ_rt (q r _ ⟨ks,updS_same⟩ (K.new hr))
  ·rintro d ds env st' ih ⟨dk,x2,x3,x4,el,rfl,hd,hb,hra,K⟩
   obtain ⟨i,rfl,hi0⟩:=el d (by simp)
   simp only [List.length_cons] at hb
   refine ⟨trivial,?_⟩
   have fin:∀ num:Int,wpSs (Zg P G n) (match d_law_deck_k61.body.drop 2 with | .cons (.for _ _ b) _=>b.drop 2 | _=>.nil) ⟨forL (fun _=>True) (.n 4) (wpSs (Zg P G n) (match d_law_deck_k61.body.drop 2 with | .cons (.for _ _ b) _=>b | _=>.nil)) ⟨wpSs (Zg P G n) (d_law_deck_k61.body.drop 3) (EndQ Q),(EndQ Q).rt,(EndQ Q).bk,(EndQ Q).ct⟩ ds,(EndQ Q).rt,wpSs (Zg P G n) (d_law_deck_k61.body.drop 3) (EndQ Q),forL (fun _=>True) (.n 4) (wpSs (Zg P G n) (match d_law_deck_k61.body.drop 2 with | .cons (.for _ _ b) _=>b | _=>.nil)) ⟨wpSs (Zg P G n) (d_law_deck_k61.body.drop 3) (EndQ Q),(EndQ Q).rt,(EndQ Q).bk,(EndQ Q).ct⟩ ds⟩ [some (.ref a),some (.ref p),some (.int num),x3,some (.int i)] st':=by
    intro num
    simp only [d_law_deck_k61,Ss.drop]
    walk_at "es"
    refine ⟨cmul_r ⟨by decide,by decide⟩,cmul_l ⟨by decide,by decide⟩,by decide,?_⟩
    walk_at "es"
    have e0:∀ z:Int,0≤z % 2147483629∧z % 2147483629 < 2147483629:=fun z=>⟨Int.emod_nonneg _ (by decide),Int.emod_lt_of_pos _ (by decide)⟩
    refine ⟨⟨by decide,by decide⟩,cmul_l (by have:=e0 (num * 48271 + 7919 * i + 13);omega),cmul_l ⟨by decide,by decide⟩,by decide,?_⟩
    walk_at "es"
    rw [isLR_r (.inl hd)]
    refine ⟨trivial,cmul_r ⟨by decide,by decide⟩,⟨by decide,by decide⟩,by decide,?_⟩
    rw [app_r hd]
    refine ⟨szLt (by simp only [List.length_map];omega),?_⟩
    refine ih _ _ ⟨dk++[_],_,_,_,fun d hd=>el d (by simp [hd]),rfl,by rw [updS_same,List.map_append];rfl,by simp only [List.length_append,List.length_cons,List.length_nil];omega,keepA hra,keepK K⟩
   walk_at "ek"
   walk_at "es"
   refine ⟨cmul_l ⟨by decide,by decide⟩,?_⟩
   walk_at "es"
   rw [len_r hra]
   walk_at "ek"
   by_cases h0:(0:Int) < ((ns.map D.int).length:Int)
   ·simp only [h0,if_true]
    walk_at "es"
    rw [len_r hra]
    walk_at "ek"
    simp only [List.length_map] at h0 ⊢
    have hmin:(if (ns.length:Int) < 63 then (ns.length:Int) else 63)=(ns.length:Int):=by split <;> omega
    rw [hmin]
    refine ⟨h0,?_⟩
    rw [ix_rd hra]
    obtain ⟨j,hj⟩:=Int.eq_ofNat_of_zero_le (Int.emod_nonneg i (show (ns.length:Int) ≠ 0 by omega))
    have hjl:j < ns.length:=by have:=Int.emod_lt_of_pos i h0;omega
    rw [hj]
    refine ⟨.int ns[j],by rw [at_nat,List.getElem?_map,List.getElem?_eq_getElem hjl];rfl,?_⟩
    walk_at "ek"
    exact ⟨by decide,fin _⟩
   ·simp only [h0,if_false]
    walk_at "ek"
    exact fin _
 ·rintro d ds env st' ih ⟨js,dk,x2,x3,x4,el,rfl,hd,hb,hrs,hra,K⟩
  refine ⟨hrs,?_⟩
  cases js with
  | nil=>simp at el
  | cons j js=>
   simp only [List.map_cons,List.cons.injEq] at el
   obtain ⟨rfl,rfl⟩:=el
   simp only [List.length_cons] at hb
   walk_at "ek"
   walk_at "es"
   refine ⟨⟨by decide,by decide,by decide⟩,?_⟩
   refine ⟨cmul_r (by split <;> decide),?_⟩
   generalize j * _=num
   walk_at "es"
   refine ⟨by decide,?_⟩
   refine for_inv (fun l env st'=>∃ (dk:List Int) (c:Int) (x4:Option D),env=[some (.ref a),some (.ref p),some (.int j),some (.int c),x4]∧st' p=some (.lst (dk.map D.int))∧dk.length + l.length + 60 * js.length≤60 * 63∧rdS st' s (ms.map D.int)∧rdS st' a (ns.map D.int)∧Kp [] st st') ?_ ?_ _ _ _ ⟨dk,num,_,rfl,hd,by rw [rangeD_length];have:Int.toNat 60=60:=rfl;omega,hrs,hra,K⟩
   ·rintro env st' ⟨dk,c,x4,rfl,hd,hb,hrs,hra,K⟩
    refine ⟨trivial,?_⟩
    walk_at "ek"
    exact ih _ _ ⟨js,dk,_,_,_,rfl,rfl,hd,by simpa using hb,hrs,hra,K⟩
   ·rintro d' ds' env st' ih2 ⟨dk,c,x4,rfl,hd,hb,hrs,hra,K⟩
    refine ⟨trivial,?_⟩
    simp only [List.length_cons] at hb
    walk_at "ek"
    walk_at "es"
    by_cases h0:0 < c
    ·simp only [h0,if_true]
     walk_at "es"
     rw [isLR_r (.inl hd)]
     refine ⟨trivial,by decide,?_⟩
     rw [app_r hd]
     refine ⟨szLt (by simp only [List.length_map];omega),?_⟩
     walk_at "es"
     refine ⟨⟨by decide,by decide⟩,ih2 _ _ ⟨dk++[_],_,_,rfl,by rw [updS_same,List.map_append];rfl,by simp only [List.length_append,List.length_cons,List.length_nil];omega,keepS hrs,keepA hra,keepK K⟩⟩
    ·simp only [h0,if_false]
     walk_at "ek"
     exact ih2 _ _ ⟨dk,_,_,rfl,hd,by omega,hrs,hra,K⟩
noncomputable def crossD (xs ys:List D):List D:=xs.flatMap fun x=>ys.map fun y=>.tup [x,y]
omit T in
theorem cross_len {xs ys:List D}:(crossD xs ys).length=xs.length * ys.length:=flat_len _ _ (fun x=>by simp) _
theorem sp_cross {n:Nat} {st:Sto} {Q:DK} {fa sa:Addr} {xs ys:List D} (h1:st fa=some (.lst xs)) (h2:st sa=some (.lst ys)) (hz:xs.length * ys.length≤1000000) (hy:ys.length≤1000000) (q:∀ a st',st a=none→st' a=some (.lst (crossD xs ys))→Kp [] st st'→Q (.ref a) st'):sem P G (n + 1) "_law_crossed" [.ref fa,.ref sa] st Q:=by
 refine sem_in T.crossed rfl [some (.ref fa),some (.ref sa),none,none] rfl ?_
 unfold d_law_crossed_k61
 walk_at "es"
 intro an han
 have n1:fa ≠ an:=neNew h1 han
 have n2:sa ≠ an:=neNew h2 han
 walk_at "es"
 refine ⟨_,.inl (keepNew h1 han),?_⟩
 refine for_inv (fun l env st'=>∃ (pre:List D) (x:Option D),xs=pre++l∧env=[some (.ref fa),some (.ref sa),some (.ref an),x]∧st' an=some (.lst (crossD pre ys))∧Kp [] st st') ?_ ?_ _ _ _ ⟨[],none,rfl,rfl,updS_same,Kp.refl.new han⟩
 ·rintro env st' ⟨pre,x,e,rfl,hs,K⟩
  refine ⟨.inl (K.at' h1 (by simp)),?_⟩
  walk_at "es"
  rw [List.append_nil] at e
  subst e
  exact EndQ_rt (q an st' han hs K)
 ·rintro d ds env st' ih ⟨pre,x,e,rfl,hs,K⟩
  refine ⟨.inl (K.at' h1 (by simp)),?_⟩
  walk_at "ek"
  walk_at "es"
  rw [isLR_r (.inl hs)]
  have h2':=K.at' h2 (by simp)
  refine ⟨trivial,ys,.inl h2',hy,?_⟩
  refine comp_map (fun y=>.tup [d,y]) (fun env=>∃ x,env=[some d,x]) (fun env y h=>by obtain ⟨x,rfl⟩:=h;exact ⟨_,rfl⟩) (fun env K h=>h) (fun env y K h hk=>by
   obtain ⟨x,rfl⟩:=h
   walk_at "ek"
   exact hk) (.inl h2') _ _ _ ⟨none,rfl⟩ ?_
  intro p hp
  have hnp:an ≠ p:=neNew hs hp
  rw [ext_r (keepNew hs hp) updS_same]
  have hle:pre.length * ys.length + ys.length≤1000000:=by
   have:xs.length=pre.length + (ds.length + 1):=by rw [e];simp
   have h3:(pre.length + 1) * ys.length≤xs.length * ys.length:=Nat.mul_le_mul_right _ (by omega)
   rw [Nat.add_mul,Nat.one_mul] at h3
   omega
  refine ⟨szLine (by rw [cross_len];simp only [List.nil_append,List.length_map];omega),?_⟩
  walk_at "ek"
  refine ih _ _ ⟨pre++[d],_,by rw [e];simp,rfl,by rw [updS_same];unfold crossD;rw [List.flatMap_append];simp,fun b u nb eb=>keepNe (keepNew (K b u nb eb) hp) (neNew eb han)⟩
omit T in
theorem cross_rows {rs:List (List D)} {ys:List D}:(crossD (rs.map D.tup) ys)=(rs.flatMap fun r=>ys.map fun y=>(r,y)).map fun p=>.tup [.tup p.1,p.2]:=by
 unfold crossD
 rw [List.flatMap_map,List.map_flatMap]
 simp [List.map_map,Function.comp_def]
omit T in
theorem comp_pairs {chk:Sto→Prop} {tc:DB} {te:DT} {R:List D→Sto→Prop} {st:Sto} (htc:∀ env K,K true st→tc env st K) (hte:∀ (r:List D) (y:D) K,r.length≤1000→K (.tup (r++[y])) st→te [some (.tup r),some y] st K) (hc:chk st):∀ (ps:List (List D × D)) (acc:List D) (x y:Option D),(∀ p ∈ ps,p.1.length≤1000)→R (acc++ps.map fun p=>.tup (p.1++[p.2])) st→compL chk (.tup [0,1]) tc te R (ps.map fun p=>.tup [.tup p.1,p.2]) acc [x,y] st
 | [],acc,x,y,_,hR=>by rw [List.map_nil,comp_nil];exact ⟨hc,by simpa using hR⟩
 | (r,c)::ps,acc,x,y,hl,hR=>by
  rw [List.map_cons,comp_cons,bind_t]
  refine ⟨hc,rfl,?_⟩
  simp only [setAll_cons,setAll_nil,List.set_cons_zero,List.set_cons_succ]
  refine htc _ _ ?_
  rw [if_pos rfl]
  exact hte r c _ (hl (r,c) (by simp)) (comp_pairs htc hte hc ps _ _ _ (fun p hp=>hl p (by simp [hp])) (by simpa using hR))
theorem sp_lth6:∀ (k:Kd) {n:Nat} {st:Sto} {Q:DK},k.nest + 2≤n→k.bd 100→(∀ a st',st a=none→st' a=some (.lst k.things)→Kp [] st st'→Q (.ref a) st')→sem P G n "_law_things" [k.d] st Q:=by
 intro k
 induction k with
 | non=>
  intro n st Q hn _ q
  obtain ⟨n,rfl⟩:∃ k,n=k + 1:=⟨n - 1,by omega⟩
  refine sem_in T.lthings rfl [some Kd.non.d,none,none,none,none] rfl ?_
  unfold d_law_things_k61
  simp only [Kd.d]
  walk_at "es"
  walk_at "es"
  exact fun p hp=>EndQ_rt (q p _ hp updS_same (Kp.refl.new hp))
 | one=>
  intro n st Q hn _ q
  obtain ⟨n,rfl⟩:∃ k,n=k + 1:=⟨n - 1,by omega⟩
  refine sem_in T.lthings rfl [some Kd.one.d,none,none,none,none] rfl ?_
  unfold d_law_things_k61
  simp only [Kd.d]
  walk_at "es"
  walk_at "es"
  walk_at "es"
  exact fun p hp=>EndQ_rt (q p _ hp updS_same (Kp.refl.new hp))
 | eith a b iha ihb=>
  intro n st Q hn hb q
  obtain ⟨n,rfl⟩:∃ k,n=k + 1:=⟨n - 1,by omega⟩
  simp only [Kd.nest] at hn
  have la:=things_len a
  have lb:=things_len b
  have ba:=Kd.bd_le hb.1
  have bb:=Kd.bd_le hb.2.1
  refine sem_in T.lthings rfl [some (Kd.eith a b).d,none,none,none,none] rfl ?_
  unfold d_law_things_k61
  simp only [Kd.d]
  walk_at "es"
  walk_at "es"
  walk_at "es"
  refine ⟨by rw [T.lthings];rfl,iha (by omega) hb.1 fun fa st1 hf0 hf K1=>?_⟩
  walk_at "es"
  refine ⟨by rw [T.lthings];rfl,ihb (by omega) hb.2.1 fun sa st2 hs0 hsa K2=>?_⟩
  have hf2:=K2.at' hf (by simp)
  walk_at "es"
  walk_at "es"
  refine ⟨_,.inl hf2,by omega,?_⟩
  refine comp_map (fun t=>.tup [.str "l",t]) (fun env=>∃ x,env=[x]) (fun env y h=>by obtain ⟨x,rfl⟩:=h;exact ⟨_,rfl⟩) (fun env K h=>h) (fun env y K h hk=>by
   obtain ⟨x,rfl⟩:=h
   walk_at "ek"
   exact hk) (.inl hf2) _ _ _ ⟨none,rfl⟩ ?_
  intro p hp
  have hsa':=keepNew (u:=.lst ([]++a.things.map fun t=>D.tup [.str "l",t])) hsa hp
  refine ⟨_,.inl hsa',by omega,?_⟩
  refine comp_map (fun t=>.tup [.str "r",t]) (fun env=>∃ x,env=[x]) (fun env y h=>by obtain ⟨x,rfl⟩:=h;exact ⟨_,rfl⟩) (fun env K h=>h) (fun env y K h hk=>by
   obtain ⟨x,rfl⟩:=h
   walk_at "ek"
   exact hk) (.inl hsa') _ _ _ ⟨none,rfl⟩ ?_
  intro p2 hp2
  rw [add_rr]
  have KK:=(K1.trans K2).new (o:=.lst ([]++a.things.map fun t=>D.tup [.str "l",t])) hp
  refine ⟨_,_,keepNew updS_same hp2,updS_same,szLine (by simp only [List.nil_append,List.length_map];omega),fun p3 hp3=>EndQ_rt (q p3 _ (none_of (KK.new hp2) hp3) ?_ ((KK.new hp2).new hp3))⟩
  rw [updS_same];rfl
 | both a b iha ihb=>
  intro n st Q hn hb q
  obtain ⟨n,rfl⟩:∃ k,n=k + 2:=⟨n - 2,by omega⟩
  simp only [Kd.nest] at hn
  have la:=things_len a
  have lb:=things_len b
  have ba:=Kd.bd_le hb.1
  have bb:=Kd.bd_le hb.2.1
  have bw:a.cnt * b.cnt≤100:=hb.2.2
  refine sem_in T.lthings rfl [some (Kd.both a b).d,none,none,none,none] rfl ?_
  unfold d_law_things_k61
  simp only [Kd.d]
  walk_at "es"
  walk_at "es"
  walk_at "es"
  refine ⟨by rw [T.lthings];rfl,iha (by omega) hb.1 fun fa st1 hf0 hf K1=>?_⟩
  walk_at "es"
  refine ⟨by rw [T.lthings];rfl,ihb (by omega) hb.2.1 fun sa st2 hs0 hsa K2=>?_⟩
  have hf2:=K2.at' hf (by simp)
  have K12:=K1.trans K2
  walk_at "es"
  walk_at "es"
  walk_at "es"
  refine ⟨by rw [T.crossed];rfl,sp_cross T hf2 hsa (by rw [la,lb];omega) (by omega) fun p st3 hp hs2 K3=>?_⟩
  walk_at "ek"
  refine ⟨_,.inl hs2,by rw [cross_len,la,lb];omega,?_⟩
  refine comp_inv (fun l acc env' st'=>st'=st3∧∃ (ps:List (D × D)) (dn:List D) (x:Option D),env'=[x]∧l=ps.map (fun p=>.tup [p.1,p.2])∧acc=dn∧dn++ps.map (fun p=>.tup [.str "p",p.1,p.2])=(Kd.both a b).things) ?_ ?_ _ _ _ _ ⟨rfl,a.things.flatMap (fun x=>b.things.map fun y=>(x,y)),[],none,rfl,?_,rfl,?_⟩
  ·rintro acc env' st' ⟨rfl,ps,dn,x,rfl,el,rfl,e⟩
   have:ps=[]:=by simpa using el.symm
   subst this
   refine ⟨.inl hs2,fun p2 hp2=>EndQ_rt (q p2 _ (none_of (K12.trans K3) hp2) ?_ ((K12.trans K3).new hp2))⟩
   rw [updS_same];simp at e;rw [e]
  ·rintro d ds acc env' st' ih ⟨rfl,ps,dn,x,rfl,el,rfl,e⟩
   refine ⟨.inl hs2,?_⟩
   cases ps with
   | nil=>simp at el
   | cons pr ps=>
    simp only [List.map_cons,List.cons.injEq] at el
    obtain ⟨rfl,rfl⟩:=el
    walk_at "ek"
    refine ⟨szLine (by decide),ih _ _ _ ⟨rfl,ps,_,_,rfl,rfl,rfl,?_⟩⟩
    rw [← e];simp
  ·unfold crossD;rw [List.map_flatMap];simp [List.map_map,Function.comp_def]
  ·rw [List.map_flatMap];simp [List.map_map,Function.comp_def,Kd.things]
 | way a b iha ihb=>
  intro n st Q hn hb q
  obtain ⟨n,rfl⟩:∃ k,n=k + 2:=⟨n - 2,by omega⟩
  simp only [Kd.nest] at hn
  have la:=things_len a
  have lb:=things_len b
  have ba:=Kd.bd_le hb.1
  have bb:=Kd.bd_le hb.2.1
  have bw:b.cnt ^ a.cnt≤100:=hb.2.2
  refine sem_in T.lthings rfl [some (Kd.way a b).d,none,none,none,none] rfl ?_
  unfold d_law_things_k61
  simp only [Kd.d]
  walk_at "es"
  walk_at "es"
  walk_at "es"
  refine ⟨by rw [T.lthings];rfl,iha (by omega) hb.1 fun fa st1 hf0 hf K1=>?_⟩
  walk_at "es"
  refine ⟨by rw [T.lthings];rfl,ihb (by omega) hb.2.1 fun sa st2 hs0 hsa K2=>?_⟩
  have hf2:=K2.at' hf (by simp)
  have K12:=K1.trans K2
  walk_at "es"
  walk_at "es"
  walk_at "es"
  intro ra hra
  walk_at "es"
  refine ⟨_,.inl (keepNew hf2 hra),?_⟩
  refine for_inv (fun l env st'=>∃ (i:Nat) (ra:Addr) (x:Option D),i + l.length=a.things.length∧env=[some (.tup [.str "way",a.d,b.d]),some (.ref fa),some (.ref sa),some (.ref ra),x]∧st' ra=some (.lst ((rowsOver i b.things).map D.tup))∧Kp [] st2 st') ?_ ?_ _ _ _ ⟨0,ra,none,by simp,rfl,updS_same,Kp.refl.new hra⟩
  ·rintro env st' ⟨i,ra,x,hi,rfl,hs,K⟩
   refine ⟨.inl (K.at' hf2 (by simp)),?_⟩
   walk_at "es"
   simp only [List.length_nil,Nat.add_zero] at hi
   subst hi
   refine ⟨_,.inl hs,by rw [List.length_map,rows_len,la,lb];omega,?_⟩
   refine comp_map (fun r=>.tup [.str "w",r]) (fun env=>∃ x,env=[x]) (fun env y h=>by obtain ⟨x,rfl⟩:=h;exact ⟨_,rfl⟩) (fun env K h=>h) (fun env y K h hk=>by
    obtain ⟨x,rfl⟩:=h
    walk_at "ek"
    exact hk) (.inl hs) _ _ _ ⟨none,rfl⟩ ?_
   intro p2 hp2
   have KK:=K12.trans K
   refine EndQ_rt (q p2 _ (none_of KK hp2) ?_ (KK.new hp2))
   rw [updS_same,List.nil_append,List.map_map];rfl
  ·rintro d ds env st' ih ⟨i,ra,x,hi,rfl,hs,K⟩
   refine ⟨.inl (K.at' hf2 (by simp)),?_⟩
   simp only [List.length_cons] at hi
   have b1:=pow_le_of (c:=b.cnt) (i:=i + 1) (n:=a.cnt) (by omega)
   have b0:=pow_le_of (c:=b.cnt) (i:=i) (n:=a.cnt) (by omega)
   rw [Nat.pow_succ] at b1
   walk_at "ek"
   walk_at "es"
   refine ⟨by rw [T.crossed];rfl,sp_cross T hs (K.at' hsa (by simp)) (by rw [List.length_map,rows_len,lb];omega) (by omega) fun p st3 hp hs2 K3=>?_⟩
   walk_at "ek"
   rw [cross_rows] at hs2
   refine ⟨_,.inl hs2,by rw [List.length_map,flat_len _ b.things.length (fun x=>by simp),rows_len,lb];omega,?_⟩
   refine comp_pairs (fun env K h=>h) (fun r y K hr hk=>?_) (.inl hs2) _ _ _ _ ?_ ?_
   ·walk_at "ek"
    exact ⟨szLine (by omega),hk⟩
   ·intro pr hpr
    obtain ⟨r,hr,h2⟩:=List.mem_flatMap.mp hpr
    obtain ⟨y,_,rfl⟩:=List.mem_map.mp h2
    have:=(rows_mem _ _ _ hr).1
    show r.length≤1000
    omega
   ·intro p2 hp2
    walk_at "ek"
    refine ih _ _ ⟨i + 1,p2,_,by omega,rfl,?_,(K.trans K3).new hp2⟩
    rw [updS_same,List.nil_append,rowsOver,List.map_flatMap,List.map_flatMap]
    simp [List.map_map,Function.comp_def]
end
noncomputable def linesOf:List Kd→List (List D)
 | []=>[[]]
 | k::r=>k.things.flatMap fun t=>(linesOf r).map (t::·)
noncomputable def lns:List Kd→Nat
 | []=>1
 | k::r=>k.cnt * lns r
theorem lines_len:∀ ks:List Kd,(linesOf ks).length=lns ks
 | []=>rfl
 | k::r=>by rw [linesOf,flat_len _ (lns r) (fun t=>by rw [List.length_map,lines_len r]),things_len,lns]
theorem lines_snoc:∀ (ks:List Kd) (k:Kd),linesOf (ks++[k])=(linesOf ks).flatMap fun r=>k.things.map fun t=>r++[t]
 | [],k=>by simp [linesOf,List.flatMap];induction k.things <;> simp [*]
 | j::ks,k=>by
  rw [List.cons_append,linesOf,lines_snoc ks k,linesOf,List.flatMap_assoc]
  congr 1;funext t
  rw [List.map_flatMap,List.flatMap_map]
  congr 1;funext r
  rw [List.map_map];rfl
theorem lns_snoc:∀ (ks:List Kd) (k:Kd),lns (ks++[k])=lns ks * k.cnt
 | [],k=>by simp [lns]
 | j::ks,k=>by rw [List.cons_append,lns,lns_snoc ks k,lns,Nat.mul_assoc]
theorem lines_ne {k:Kd} {r:List Kd} {l:List D} (h:l ∈ linesOf (k::r)):∃ t l',l=t::l'∧t ∈ k.things∧l' ∈ linesOf r:=by
 simp only [linesOf,List.mem_flatMap,List.mem_map] at h
 obtain ⟨t,ht,l',hl',rfl⟩:=h
 exact ⟨t,l',rfl,ht,hl'⟩
noncomputable def jnB:List D→List D
 | t::u::l=>.tup [.str "p",t,u]::l
 | l=>l
theorem lines_both {a b:Kd} {r:List Kd}:linesOf (.both a b::r)=(linesOf (a::b::r)).map jnB:=by
 simp only [linesOf,Kd.things]
 rw [List.flatMap_assoc,List.map_flatMap]
 congr 1;funext t
 rw [List.flatMap_map,List.map_map,List.map_flatMap]
 congr 1;funext u
 rw [List.map_map];rfl
noncomputable def jnW (n:Nat) (l:List D):List D:=.tup [.str "w",.tup (l.take n)]::l.drop n
theorem lines_rows {b:Kd} {r:List Kd}:∀ n,linesOf (List.replicate n b++r)=(rowsOver n b.things).flatMap fun row=>(linesOf r).map (row++·):=by
 have key:∀ (n:Nat) (ks:List Kd),linesOf (List.replicate n b++ks)=(linesOf (List.replicate n b)).flatMap fun row=>(linesOf ks).map (row++·):=by
  intro n ks
  induction n with
  | zero=>simp [linesOf]
  | succ n ih=>
   rw [List.replicate_succ,List.cons_append,linesOf,ih,linesOf,List.flatMap_assoc]
   congr 1;funext t
   rw [List.map_flatMap,List.flatMap_map]
   congr 1;funext row
   rw [List.map_map];rfl
 have rows:∀ n,linesOf (List.replicate n b)=rowsOver n b.things:=by
  intro n
  induction n with
  | zero=>rfl
  | succ n ih=>rw [List.replicate_succ',lines_snoc,ih,rowsOver]
 intro n
 rw [key,rows]
theorem flat_congr {α β:Type} {f g:α→List β}:∀ {l:List α},(∀ x ∈ l,f x=g x)→l.flatMap f=l.flatMap g
 | [],_=>rfl
 | x::l,h=>by rw [List.flatMap_cons,List.flatMap_cons,h x (by simp),flat_congr fun y hy=>h y (by simp [hy])]
theorem lines_way {a b:Kd} {r:List Kd}:linesOf (.way a b::r)=(linesOf (List.replicate a.things.length b++r)).map (jnW a.things.length):=by
 rw [lines_rows,linesOf,Kd.things,List.flatMap_map,List.map_flatMap]
 refine flat_congr fun row hr=>?_
 have hl:=(rows_mem _ _ _ hr).1
 rw [List.map_map]
 refine List.map_congr_left fun l _=>?_
 simp [jnW,← hl]
noncomputable def lfD (s:String):List D→List D
 | t::l=>.tup [.str s,t]::l
 | []=>[]
theorem lines_eith {a b:Kd} {r:List Kd}:linesOf (.eith a b::r)=(linesOf (a::r)).map (lfD "l")++(linesOf (b::r)).map (lfD "r"):=by
 simp only [linesOf,Kd.things]
 rw [List.flatMap_append,List.flatMap_map,List.flatMap_map,List.map_flatMap,List.map_flatMap]
 congr 1
 ·congr 1;funext t;rw [List.map_map];rfl
 ·congr 1;funext t;rw [List.map_map];rfl
noncomputable def flt {α:Type} (sg:String):List (String × D)→List α→List α
 | (s,_)::r,x::xs=>if s=sg then x::flt sg r xs else flt sg r xs
 | _,_=>[]
theorem lines_length:∀ {ks:List Kd} {l:List D},l ∈ linesOf ks→l.length=ks.length
 | [],l,h=>by simp [linesOf] at h;subst h;rfl
 | k::r,l,h=>by
  obtain ⟨t,l',rfl,_,h'⟩:=lines_ne h
  rw [List.length_cons,List.length_cons,lines_length h']
theorem rks_rep {gs:List D} {lv:Nat} {ls:List Lk} {b:Kd}:rks (gs.map (fun p=>(⟨lv,ls++[.giv p],b⟩:Ask)))=gs.length * b.rk:=by
 induction gs with
 | nil=>simp [rks]
 | cons p l ih=>rw [List.map_cons,rks_cons,ih,List.length_cons,Nat.add_mul,Nat.one_mul,Nat.add_comm]
noncomputable def nA:List Kd→List Ask
 | []=>[]
 | k::r=>⟨r.length,[],k⟩::nA r
theorem nA_ks:∀ Γ:List Kd,(nA Γ).map (·.k)=Γ
 | []=>rfl
 | k::r=>by rw [nA,List.map_cons,nA_ks r]
theorem nA_mem:∀ {Γ:List Kd} {q:Ask},q ∈ nA Γ→q.k ∈ Γ∧q.ls=[]∧q.lv < Γ.length
 | [],q,h=>by cases h
 | k::r,q,h=>by
  rcases List.mem_cons.mp h with rfl | h
  ·exact ⟨by simp,rfl,by simp⟩
  ·obtain ⟨a,b,c⟩:=nA_mem h
   exact ⟨by simp [a],b,by simp;omega⟩
theorem nA_rks {b:Nat}:∀ {Γ:List Kd},(∀ k ∈ Γ,k.rk≤b)→rks (nA Γ)≤Γ.length * b
 | [],_=>by simp [nA,rks]
 | k::r,h=>by
  have:=nA_rks (Γ:=r) fun k hk=>h k (by simp [hk])
  have:=h k (by simp)
  rw [nA,rks_cons,List.length_cons,Nat.add_mul,Nat.one_mul]
  simp only
  omega
section
variable {P:Prog} {G:Gs} (T:PKs P G)
include T
theorem sp_lrows {n:Nat} {st:Sto} {Q:DK} {Γ:List Kd} (hn:8≤n) (hl:Γ.length≤3) (hk:∀ k ∈ Γ,Lv 2 k∧k.bd 12) (hb:∀ i,lns (Γ.take i)≤12) (q:∀ a st',st a=none→st' a=some (.lst ((linesOf Γ).map D.tup))→Kp [] st st'→Q (.ref a) st'):sem P G n "_law_rows" [.tup (Γ.map Kd.d)] st Q:=by
 obtain ⟨n,rfl⟩:∃ m,n=m + 2:=⟨n - 2,by omega⟩
 refine sem_in T.lrows rfl [some (.tup (Γ.map Kd.d)),none,none] rfl ?_
 unfold d_law_rows_k61
 walk_at "es"
 intro ra hra
 walk_at "es"
 refine for_inv (fun l env st'=>∃ (pre r:List Kd) (ra:Addr) (x:Option D),Γ=pre++r∧l=r.map Kd.d∧env=[some (.tup (Γ.map Kd.d)),some (.ref ra),x]∧st ra=none∧st' ra=some (.lst ((linesOf pre).map D.tup))∧Kp [] st st') ?_ ?_ _ _ _ ⟨[],Γ,ra,none,rfl,rfl,rfl,hra,updS_same,Kp.refl.new hra⟩
 ·rintro env st' ⟨pre,r,ra,x,e,el,rfl,h0,hs,K⟩
  refine ⟨trivial,?_⟩
  have:r=[]:=by simpa using el.symm
  subst this
  rw [List.append_nil] at e
  subst e
  walk_at "es"
  exact EndQ_rt (q ra st' h0 hs K)
 ·rintro d ds env st' ih ⟨pre,r,ra,x,e,el,rfl,h0,hs,K⟩
  refine ⟨trivial,?_⟩
  cases r with
  | nil=>simp at el
  | cons k r=>
   simp only [List.map_cons,List.cons.injEq] at el
   obtain ⟨rfl,rfl⟩:=el
   obtain ⟨lk,bk⟩:=hk k (by rw [e];simp)
   have nk:=lk.nest
   have lb:=things_len k
   have cb:=Kd.bd_le bk
   have b1:=hb (pre.length + 1)
   rw [e,show (pre++k::r).take (pre.length + 1)=pre++[k] by rw [List.take_append,List.take_of_length_le (by omega)];simp,lns_snoc] at b1
   have b0:=hb pre.length
   rw [e,List.take_left] at b0
   have ll:=lines_len pre
   walk_at "ek"
   walk_at "es"
   refine ⟨by rw [T.crossed];rfl,by rw [T.lthings];rfl,sp_lth6 T k (by omega) (Kd.bd_mono (by decide) bk) fun ta st1 hta0 hta K1=>?_⟩
   walk_at "ek"
   refine sp_cross T (K1.at' hs (by simp)) hta (by rw [List.length_map,ll,lb];omega) (by omega) fun p st3 hp hs2 K3=>?_
   walk_at "ek"
   rw [cross_rows] at hs2
   refine ⟨_,.inl hs2,by rw [List.length_map,flat_len _ k.things.length (fun x=>by simp),ll,lb];omega,?_⟩
   refine comp_pairs (fun env K h=>h) (fun r y K hr hk=>?_) (.inl hs2) _ _ _ _ ?_ ?_
   ·walk_at "ek"
    exact ⟨szLine (by omega),hk⟩
   ·intro pr hpr
    obtain ⟨r',hr,h2⟩:=List.mem_flatMap.mp hpr
    obtain ⟨y,_,rfl⟩:=List.mem_map.mp h2
    have:=lines_length hr
    have:Γ.length=pre.length + (r.length + 1):=by rw [e];simp
    show r'.length≤1000
    omega
   ·intro p2 hp2
    have K5:=(K.trans K1).trans K3
    refine ih _ _ ⟨pre++[k],r,p2,_,by rw [e];simp,rfl,rfl,none_of K5 hp2,?_,K5.new hp2⟩
    rw [updS_same,List.nil_append,lines_snoc,List.map_flatMap,List.map_flatMap]
    simp [List.map_map,Function.comp_def]
theorem sp_names6 {n:Nat} {st:Sto} {Q:DK} {da:Addr} (hn:12≤n) (I:Ints st da) (q:∀ (Γ:List Kd) st',Γ.length≤3→(∀ k ∈ Γ,Lv 2 k∧k.bd 12)→(∀ i,lns (Γ.take i)≤12)→Ints st' da→Kp [da] st st'→Q (.tup (Γ.map Kd.d)) st'):sem P G n "_law_names" [.ref da,.int 12] st Q:=by
 obtain ⟨n,rfl⟩:∃ m,n=m + 1:=⟨n - 1,by omega⟩
 obtain ⟨n,rfl⟩:∃ m,n=m + 1:=⟨n - 1,by omega⟩
 refine sem_in T.names rfl [some (.ref da),some (.int 12),none,none,none,none] rfl ?_
 unfold d_law_names_k61
 walk_at "es"
 walk_at "es"
 walk_at "es"
 refine ⟨by rw [T.next];rfl,sp_next6 T (by decide) I fun m st1 m0 m1 I1 K1=>?_⟩
 walk_at "ek"
 refine ⟨by omega,?_⟩
 refine for_inv (fun l env st'=>∃ (Γ:List Kd) (x4 x5:Option D),Γ.length + l.length≤3∧(∀ k ∈ Γ,Lv 2 k∧k.bd 12)∧(∀ i,lns (Γ.take i)≤12)∧env=[some (.ref da),some (.int 12),some (.tup (Γ.map Kd.d)),some (.int (lns Γ)),x4,x5]∧Ints st' da∧Kp [da] st st') ?_ ?_ _ _ _ ⟨[],none,none,by rw [rangeD_length];simp only [List.length_nil];omega,by simp,by simp [lns],rfl,I1,K1⟩
 ·rintro env st' ⟨Γ,x4,x5,hl,hk,hb,rfl,I2,K2⟩
  refine ⟨trivial,?_⟩
  walk_at "es"
  exact EndQ_rt (q Γ st' (by simpa using hl) hk hb I2 K2)
 ·rintro d ds env st' ih ⟨Γ,x4,x5,hl,hk,hb,rfl,I2,K2⟩
  refine ⟨trivial,?_⟩
  have lG:lns Γ≤12:=by have:=hb Γ.length;rwa [List.take_length] at this
  simp only [List.length_cons] at hl
  walk_at "ek"
  walk_at "es"
  refine ⟨by rw [T.kind];rfl,sp_kind6 T (most:=12) (by decide) (by decide) 2 (by omega) I2 fun k st3 lk bk I3 K3=>?_⟩
  have nk:=lk.nest
  have ck:=Kd.bd_le bk
  have hsub:=bdSub bk
  walk_at "es"
  refine ⟨by rw [T.many];rfl,sp_many6 T (m:=12) (by decide) k (by omega) hsub ?_⟩
  walk_at "ek"
  refine ⟨cmul_r ⟨by omega,by omega⟩,?_⟩
  rw [← Int.natCast_mul]
  by_cases hle:((lns Γ * k.cnt:Nat):Int)≤12
  ·simp only [hle,if_true]
   walk_at "es"
   refine ⟨szLine (by simp only [List.length_map];omega),?_⟩
   walk_at "es"
   refine ⟨by rw [T.many];rfl,sp_many6 T (m:=12) (by decide) k (by omega) hsub ?_⟩
   walk_at "ek"
   refine ⟨cmul_r ⟨by omega,by omega⟩,ih _ _ ⟨Γ++[k],some d,some k.d,by simp;omega,fun c hc=>?_,fun i=>?_,?_,I3,K2.trans K3⟩⟩
   ·rcases List.mem_append.mp hc with hc | hc
    ·exact hk c hc
    ·rw [List.mem_singleton] at hc;subst hc;exact ⟨lk,bk⟩
   ·rcases Nat.lt_or_ge Γ.length i with h | h
    ·rw [List.take_of_length_le (by simp;omega),lns_snoc];omega
    ·rw [List.take_append_of_le_length h];exact hb i
   ·rw [List.map_append,lns_snoc,Int.natCast_mul];rfl
  ·simp only [hle,if_false]
   walk_at "ek"
   exact ih _ _ ⟨Γ,_,_,by omega,hk,hb,rfl,I3,K2.trans K3⟩
end
noncomputable def askD (q:Ask):D:=.tup [.int q.lv,.tup (q.ls.map Lk.d),q.k.d]
noncomputable def chD:List Ask→D
 | []=>.non
 | q::r=>.tup [askD q,chD r]
theorem drop_mute:∀ (n:Nat) {u:List Ask},rks u≤n→∀ {q:Ask} {v:List Ask} {g:Kd} {dp:Nat} {ps p':List D} {x:D},q.k.mute=true→Tr g dp (u++q::v) ps x p'→Tr g dp (u++v) ps x p':=by
 intro n
 induction n with
 | zero=>
  intro u hu q v g dp ps p' x hm t
  cases u with
  | nil=>exact unmute q.k hm t
  | cons h u=>rw [rks_cons] at hu;have:=rk_pos h.k;omega
 | succ n ih=>
  intro u hu q v g dp ps p' x hm t
  cases u with
  | nil=>exact unmute q.k hm t
  | cons h u=>
   rw [rks_cons] at hu
   have hp:=rk_pos h.k
   rw [List.cons_append] at t ⊢
   cases t with
   | mute hh t=>exact .mute hh (ih (by omega) hm t)
   | non=>exact .non
   | @eith _ a b _ lv ls _ _ _ _ _ _ t1 t2=>
    simp only [Kd.rk] at hu
    exact .eith (ih (u:=⟨dp,[],a⟩::u) (by rw [rks_cons];simp only;omega) hm t1) (ih (u:=⟨dp,[],b⟩::u) (by rw [rks_cons];simp only;omega) hm t2)
   | @both _ a b _ lv ls _ _ _ _ t1=>
    simp only [Kd.rk] at hu
    exact .both (ih (u:=⟨lv,ls++[.fst],a⟩::⟨lv,ls++[.snd],b⟩::u) (by rw [rks_cons,rks_cons];simp only;omega) hm t1)
   | @way _ a b _ lv ls _ gs _ _ _ hg t1=>
    simp only [Kd.rk] at hu
    have hl:=hg.len
    rw [things_len] at hl
    refine .way hg ?_
    rw [← List.append_assoc] at t1 ⊢
    refine ih (by rw [rks_app,rks_rep,← hl];omega) hm t1
noncomputable def loud (qs:List Ask):List Ask:=qs.filter fun q=>!q.k.mute
theorem loud_t {q:Ask} {qs:List Ask} (h:q.k.mute=true):loud (q::qs)=loud qs:=by simp [loud,List.filter_cons,h]
theorem loud_f {q:Ask} {qs:List Ask} (h:q.k.mute=false):loud (q::qs)=q::loud qs:=by simp [loud,List.filter_cons,h]
theorem loud_tr:∀ {qs u r:List Ask} {g:Kd} {dp:Nat} {ps p':List D} {x:D},Tr g dp (u++(qs++r)) ps x p'→Tr g dp (u++(loud qs++r)) ps x p'
 | [],u,r,_,_,_,_,_,t=>t
 | q::qs,u,r,g,dp,ps,p',x,t=>by
  unfold loud
  rw [List.filter_cons]
  cases hm:q.k.mute with
  | true=>
   simp only [Bool.not_true,Bool.false_eq_true,if_false]
   exact loud_tr (drop_mute _ (Nat.le_refl _) hm t)
  | false=>
   simp only [Bool.not_false,if_true]
   have:=loud_tr (qs:=qs) (u:=u++[q]) (r:=r) (by rw [List.append_assoc];exact t)
   rw [List.append_assoc] at this
   exact this
theorem loud_rks:∀ qs:List Ask,rks (loud qs)≤rks qs
 | []=>Nat.le_refl _
 | q::qs=>by
  have ih:=loud_rks qs
  unfold loud at ih ⊢
  rw [List.filter_cons]
  split
  ·rw [rks_cons,rks_cons];omega
  ·rw [rks_cons];omega
theorem loud_mem {q:Ask} {qs:List Ask} (h:q ∈ loud qs):q ∈ qs:=(List.mem_filter.mp h).1
structure AskOk (m dp:Nat) (q:Ask):Prop where
 lv:q.lv < dp
 bd:q.k.bd 20
 ns:Lv m q.k
 ll:q.ls.length + q.k.nest≤9
noncomputable def PlT (P:Prog) (G:Gs) (n:Nat) (c:Kd):Prop:=∀ t p,t ∈ c.things→Pl c t p→∀ m,n≤m→∀ st (Q:DK),(∀ st',Kp [] st st'→Q p st')→sem P G m "plain_thing" [c.d,t] st Q
theorem size_small {k:Kd} (h:k.nest≤9):k.size≤2000:=by
 have:=size_nest k
 have:2 ^ (k.nest + 1)≤2 ^ 10:=Nat.pow_le_pow_right (by decide) (by omega)
 omega
section
variable {P:Prog} {G:Gs} (T:PKs P G)
include T
theorem sp_jask {n:Nat} {st:Sto} {Q:DK} {h a b:Kd} (hs:h.subs=[a,b]) (q:Q (.tup [.bl (!h.mute),.bl (decide (0 < h.cnt))]) st):sem P G (n + 1) "joined_asking" [.str h.w,.tup [.bl (!a.mute),.bl (decide (0 < a.cnt))],.tup [.bl (!b.mute),.bl (decide (0 < b.cnt))]] st Q:=by
 refine sem_in T.jask rfl [some (.str h.w),some (.tup [.bl (!a.mute),.bl (decide (0 < a.cnt))]),some (.tup [.bl (!b.mute),.bl (decide (0 < b.cnt))])] rfl ?_
 unfold d_joined_asking_k61
 have key:∀ x (y:Bool),x=(!h.mute)→(y=true ↔ 0 < h.cnt)→(EndQ Q).rt (.tup [.bl x,.bl y]) st:=by
  rintro _ y rfl hy
  have:y=decide (0 < h.cnt):=by
   cases y with
   | true=>exact (decide_eq_true (hy.mp rfl)).symm
   | false=>exact (decide_eq_false fun z=>by cases hy.mpr z).symm
  rw [this];exact EndQ_rt q
 cases h with
 | non=>cases hs
 | one=>cases hs
 | eith a' b'=>
  cases hs
  simp only [Kd.w]
  walk_at "es"
  walk_at "es"
  simp only [Kd.mute,Kd.cnt] at key
  split
  ·exact key _ _ rfl ⟨fun _=>by omega,fun _=>rfl⟩
  ·exact key _ _ rfl (by rw [decide_eq_true_eq];omega)
 | both a' b'=>
  cases hs
  simp only [Kd.w]
  walk_at "es"
  walk_at "es"
  walk_at "es"
  simp only [Kd.mute,Kd.cnt] at key
  have c1:0 < a.cnt→(decide (0 < b.cnt)=true ↔ 0 < a.cnt * b.cnt):=fun z=>by rw [decide_eq_true_eq];exact ⟨fun y=>Nat.mul_pos z y,fun y=>Nat.pos_of_mul_pos_left y⟩
  have c2:¬ 0 < a.cnt→(false=true ↔ 0 < a.cnt * b.cnt):=fun z=>by rw [show a.cnt=0 by omega,Nat.zero_mul];simp
  split
  ·rename_i hm
   split
   ·rename_i hc;exact key _ _ (by rw [hm];rfl) (c1 hc)
   ·rename_i hc;exact key _ _ (by rw [hm];rfl) (c2 hc)
  ·rename_i hm
   rw [Bool.not_eq_false] at hm
   split
   ·rename_i hc;exact key _ _ (by rw [hm];rfl) (c1 hc)
   ·rename_i hc;exact key _ _ (by rw [hm];rfl) (c2 hc)
 | way a' b'=>
  cases hs
  simp only [Kd.w]
  walk_at "es"
  walk_at "es"
  walk_at "es"
  simp only [Kd.mute,Kd.cnt] at key
  split
  ·rename_i ha
   have e1:(!b.mute)=!(a.cnt == 0 || b.mute):=by rw [show (a.cnt == 0)=false by rw [beq_eq_false_iff_ne];omega];rfl
   split
   ·rename_i hb;exact key _ _ e1 ⟨fun _=>Nat.pow_pos hb,fun _=>rfl⟩
   ·rename_i hb;exact key _ _ e1 (by rw [show b.cnt=0 by omega,Nat.zero_pow ha,decide_eq_true ha];simp)
  ·rename_i ha
   have a0:a.cnt=0:=by omega
   have e1:false=!(a.cnt == 0 || b.mute):=by rw [a0];rfl
   split
   ·exact key _ _ e1 (by rw [a0,Nat.pow_zero];simp)
   ·exact key _ _ e1 (by rw [a0,Nat.pow_zero];simp)
theorem sp_noth {k:Kd} {n:Nat} {st:Sto} {Q:DK} (hn:6≤n) (hk:k.nest≤9) (q:∀ st',Kp [] st st'→Q (.bl k.mute) st'):sem P G n "asks_nothing" [k.d] st Q:=by
 obtain ⟨n,rfl⟩:∃ m,n=m + 6:=⟨n - 6,by omega⟩
 refine sem_in T.nothing rfl [some k.d] rfl ?_
 unfold d_asks_nothing_k61
 walk_at "es"
 refine ⟨by rw [T.bu];rfl,fun pd hpd=>⟨by rw [T.jask];rfl,?_⟩⟩
 refine sp_built T.toPT0 (n:=n + 2) (V:=fun _ k d _=>d=.tup [.bl (!k.mute),.bl (decide (0 < k.cnt))]) (fun v _=>v) k (size_small hk) (by omega) updS_same (by rw [T.jask];rfl) (fun dn st' _ _=>by simp [Kd.mute,Kd.cnt]) (fun dn st' _ _=>by simp [Kd.mute,Kd.cnt]) (fun h a b dn d1 d2 st' Q hh KK hsub v1 v2 hdn q=>?_) fun dn d st' hdn v K=>?_
 ·subst v1;subst v2
  exact sp_jask T hsub (q _ _ rfl Kp.refl)
 ·subst v
  walk_at "ek"
  rw [Bool.not_not]
  exact EndQ_rt (q st' ((Kp.refl.new hpd).trans K))
theorem sp_look {n:Nat} {st:Sto} {Q:DK} {q:Ask} {l:Lk} {k:Kd} (hl:q.ls.length≤1000) (h:Q (askD ⟨q.lv,q.ls++[l],k⟩) st):sem P G (n + 1) "looked_at" [askD q,l.d,k.d] st Q:=by
 refine sem_in T.looked rfl [some (askD q),some l.d,some k.d] rfl ?_
 unfold d_looked_at_k61
 unfold askD
 walk_at "es"
 refine ⟨szLine (by simp only [List.length_map];omega),EndQ_rt ?_⟩
 unfold askD at h
 rw [List.map_append] at h
 exact h
theorem sp_expr {n dp lv:Nat} {ls:List Lk} {st:Sto} {Q:DK} (hlv:lv < dp) (h:Q (exD (dp - 1 - lv) ls) st):sem P G (n + 1) "expression" [.int lv,.tup (ls.map Lk.d),.int dp] st Q:=by
 refine sem_in T.expr rfl [some (.int lv),some (.tup (ls.map Lk.d)),some (.int dp),none,none] rfl ?_
 unfold d_expression_k61
 walk_at "es"
 walk_at "es"
 rw [show (dp:Int) - 1 - lv=((dp - 1 - lv:Nat):Int) by omega]
 refine for_inv (fun l env st'=>st'=st∧∃ (pre suf:List Lk) (x:Option D),ls=pre++suf∧l=suf.map Lk.d∧env=[some (.int lv),some (.tup (ls.map Lk.d)),some (.int dp),some (exD (dp - 1 - lv) pre),x]) ?_ ?_ _ _ _ ⟨rfl,[],ls,none,rfl,rfl,rfl⟩
 ·rintro env st' ⟨rfl,pre,suf,x,e,el,rfl⟩
  refine ⟨trivial,?_⟩
  have:suf=[]:=by simpa using el.symm
  subst this
  rw [List.append_nil] at e
  subst e
  walk_at "es"
  exact EndQ_rt h
 ·rintro d ds env st' ih ⟨rfl,pre,suf,x,e,el,rfl⟩
  refine ⟨trivial,?_⟩
  cases suf with
  | nil=>simp at el
  | cons l suf=>
   simp only [List.map_cons,List.cons.injEq] at el
   obtain ⟨rfl,rfl⟩:=el
   cases l with
   | fst=>
    simp only [Lk.d]
    walk_at "ek"
    walk_at "es"
    exact ⟨by simp [HT.sIx],szLine (by simp [cutD,HT.sIx]),ih _ _ ⟨rfl,pre++[.fst],suf,some (Lk.d .fst),by rw [e];simp,rfl,by rw [exD_snoc];rfl⟩⟩
   | snd=>
    simp only [Lk.d]
    walk_at "ek"
    walk_at "es"
    exact ⟨by simp [HT.sIx],szLine (by simp [cutD,HT.sIx]),ih _ _ ⟨rfl,pre++[.snd],suf,some (Lk.d .snd),by rw [e];simp,rfl,by rw [exD_snoc];rfl⟩⟩
   | giv p=>
    simp only [Lk.d]
    walk_at "ek"
    walk_at "es"
    exact ⟨by simp [HT.sIx],szLine (by simp [cutD,HT.sIx]),ih _ _ ⟨rfl,pre++[(.giv p)],suf,some (Lk.d (.giv p)),by rw [e];simp,rfl,by rw [exD_snoc];rfl⟩⟩
theorem sp_oloop {n:Nat} {st:Sto} {Q:DK} {x0 x2:Option D} {pa:Addr} {qs r:List Ask} (hn:6≤n) (hp:st pa=some (.lst (qs.map askD))) (hq:∀ q ∈ qs,q.k.nest≤9) (q:∀ st',Kp [] st st'→Q (chD (loud qs++r)) st') :
  wpSs (Zg P G n) (d_opened_k61.body.drop 4) (EndQ Q) [x0,some (chD r),x2,some (.ref pa),none] st:=by
 simp only [d_opened_k61,Ss.drop]
 walk_at "es"
 refine ⟨_,.inl hp,?_⟩
 rw [← List.map_reverse]
 refine for_inv (fun l env st'=>∃ (pre suf:List Ask) (x:Option D),qs=pre++suf∧l=pre.reverse.map askD∧env=[x0,some (chD (loud suf++r)),x2,some (.ref pa),x]∧Kp [] st st') ?_ ?_ _ _ _ ⟨qs,[],none,by simp,rfl,rfl,Kp.refl⟩
 ·rintro env st' ⟨pre,suf,x,e,el,rfl,K⟩
  refine ⟨.inl (K.at' hp (by simp)),?_⟩
  have:pre=[]:=by simpa using el.symm
  subst this
  rw [List.nil_append] at e
  subst e
  walk_at "es"
  exact EndQ_rt (q st' K)
 ·rintro d ds env st' ih ⟨pre,suf,x,e,el,rfl,K⟩
  refine ⟨.inl (K.at' hp (by simp)),?_⟩
  rcases snoc_cases pre with rfl | ⟨pre,c,rfl⟩
  ·simp at el
  rw [List.reverse_append,List.reverse_cons,List.reverse_nil,List.nil_append,List.map_append,List.map_cons,List.map_nil,List.cons_append,List.nil_append] at el
  simp only [List.cons.injEq] at el
  obtain ⟨rfl,rfl⟩:=el
  rw [List.append_assoc,List.cons_append,List.nil_append] at e
  walk_at "ek"
  walk_at "es"
  rw [askD]
  walk_at "ek"
  refine ⟨by rw [T.nothing];rfl,sp_noth T hn (hq c (by rw [e];simp)) fun st2 K2=>?_⟩
  walk_at "ek"
  cases hm:c.k.mute with
  | true=>
   walk_at "ek"
   refine ih _ _ ⟨pre,c::suf,some (askD c),e,rfl,?_,K.trans K2⟩
   rw [loud_t hm];rfl
  | false=>
   walk_at "ek"
   walk_at "es"
   refine ih _ _ ⟨pre,c::suf,some (askD c),e,rfl,?_,K.trans K2⟩
   rw [loud_f hm];rfl
end
section
variable {P:Prog} {G:Gs} (T:PKs P G)
include T
theorem sp_opened {n m dp:Nat} {st:Sto} {Q:DK} {g:Kd} {q:Ask} {r:List Ask} {ps p':List D} {x:D} (hn:6≤n) (hPl:∀ c:Kd,Lv m c→c.bd 20→PlT P G n c) (ok:AskOk m dp q) (h1:q.k ≠ .non) (h2:∀ a b,q.k ≠ .eith a b) (t:Tr g dp (q::r) ps x p') (h:∀ qs st',Kp [] st st'→Tr g dp (qs++r) ps x p'→rks qs < q.k.rk→(∀ q' ∈ qs,AskOk m dp q')→Q (chD (qs++r)) st'):sem P G (n + 1) "opened" [askD q,chD r] st Q:=by
 obtain ⟨lv,ls,k⟩:=q
 refine sem_in T.opened rfl [some (askD ⟨lv,ls,k⟩),some (chD r),none,none,none] rfl ?_
 unfold d_opened_k61
 simp only [askD]
 obtain ⟨o1,o2,o3,o4⟩:=ok
 simp only at h1 h2 h o1 o2 o3 o4
 walk_at "es"
 walk_at "es"
 intro pa hpa
 cases k with
 | non=>exact absurd rfl h1
 | eith a b=>exact absurd rfl (h2 a b)
 | one=>
  simp only [Kd.d]
  walk_at "es"
  walk_at "es"
  refine sp_oloop T (qs:=[]) hn updS_same (by simp) fun st' K=>h [] st' ((Kp.refl.new hpa).trans K) (unmute .one rfl t) (by simp [rks,Kd.rk]) (by simp)
 | both a b=>
  simp only [Kd.d]
  simp only [Kd.nest] at o4
  walk_at "es"
  walk_at "es"
  obtain ⟨n,rfl⟩:∃ k,n=k + 1:=⟨n - 1,by omega⟩
  refine ⟨by rw [T.looked];rfl,sp_look T (q:=⟨lv,ls,.both a b⟩) (l:=.fst) (k:=a) (by show ls.length≤1000;omega) ⟨by rw [T.looked];rfl,sp_look T (q:=⟨lv,ls,.both a b⟩) (l:=.snd) (k:=b) (by show ls.length≤1000;omega) fun p2 hp2=>?_⟩⟩
  walk_at "es"
  obtain ⟨qs,eqs⟩:∃ qs:List Ask,qs=[⟨lv,ls++[.fst],a⟩,⟨lv,ls++[.snd],b⟩]:=⟨_,rfl⟩
  have oks:∀ q' ∈ qs,AskOk m dp q':=by
   intro q' hq'
   rw [eqs] at hq'
   simp only [List.mem_cons,List.not_mem_nil,or_false] at hq'
   rcases hq' with rfl | rfl
   ·exact ⟨o1,o2.1,o3.subs' (by simp [Kd.subs]),by simp;omega⟩
   ·exact ⟨o1,o2.2.1,o3.subs' (by simp [Kd.subs]),by simp;omega⟩
  have tl:Tr g dp (loud qs++r) ps x p':=by
   cases t with
   | mute hm t=>
    simp only [Kd.mute,Bool.and_eq_true] at hm
    rw [eqs,loud_t hm.1,loud_t hm.2];exact t
   | both t=>exact loud_tr (u:=[]) (by rw [eqs];exact t)
  have rl:rks (loud qs) < (Kd.both a b).rk:=by
   have h3:=loud_rks qs
   have h4:rks qs=a.rk + (b.rk + 0):=by rw [eqs,rks_cons,rks_cons];rfl
   simp only [Kd.rk];omega
  refine sp_oloop T (qs:=qs) hn ?_ (fun q' hq'=>by have:=(oks q' hq').ll;omega) fun st' K=>h (loud qs) st' (((Kp.refl.new hpa).new hp2).trans K) tl rl fun q' hq'=>oks q' (loud_mem hq')
  rw [updS_same,eqs];rfl
 | way a b=>
  simp only [Kd.d]
  simp only [Kd.nest] at o4
  walk_at "es"
  walk_at "es"
  refine ⟨by rw [T.nothing];rfl,sp_noth T (k:=.way a b) hn (by simp only [Kd.nest];omega) fun st1 K1=>⟨_,rfl,?_⟩⟩
  have hpa1:=K1.at' (updS_same (st:=st) (a:=pa) (o:=.lst [])) (by simp)
  have K01:Kp [] st st1:=(Kp.refl.new hpa).trans K1
  cases hm:(Kd.way a b).mute with
  | true=>
   rw [if_neg (by decide)]
   exact sp_oloop T (qs:=[]) hn hpa1 (by simp) fun st' K=>h [] st' (K01.trans K) (unmute (.way a b) hm t) (by simp only [Kd.rk];rw [show rks []=0 from rfl];omega) (by simp)
  | false=>
   rw [if_pos rfl]
   cases t with
   | mute z _=>rw [show (Kd.way a b).mute=true from z] at hm;cases hm
   | @way _ _ _ _ _ _ _ gs _ _ _ hg t=>
    obtain ⟨n,rfl⟩:∃ k,n=k + 1:=⟨n - 1,by omega⟩
    have la:=things_len a
    have ca:=Kd.bd_le o2.1
    walk_at "es"
    refine ⟨by rw [T.things];rfl,sp_things T.toPT1 (by omega) (Kd.bd_mono (by decide) o2.1) (by omega) fun ta st2 hta0 hta K2=>?_⟩
    walk_at "ek"
    refine ⟨_,.inl hta,by rw [la];omega,?_⟩
    have hgl:=hg.len
    obtain ⟨qs,eqs⟩:∃ qs:List Ask,qs=gs.map fun p=>⟨lv,ls++[.giv p],b⟩:=⟨_,rfl⟩
    refine comp_inv (fun l acc env' st'=>∃ (gpre gsuf:List D) (x:Option D),gs=gpre++gsuf∧(∀ t ∈ l,t ∈ a.things)∧Pls a l gsuf∧acc=gpre.map (fun p=>askD ⟨lv,ls++[.giv p],b⟩)∧env'=[some (askD ⟨lv,ls,.way a b⟩),some (.tup [.str "way",a.d,b.d]),x]∧st' ta=some (.lst a.things)∧Kp [] st2 st') ?_ ?_ _ _ _ _ ⟨[],gs,none,rfl,fun t ht=>ht,hg,rfl,rfl,hta,Kp.refl⟩
    ·rintro acc env' st3 ⟨gpre,gsuf,x,e,hmem,hp,rfl,rfl,hta3,K3⟩
     cases hp
     rw [List.append_nil] at e
     subst e
     refine ⟨.inl hta3,fun p2 hp2=>?_⟩
     have oks:∀ q' ∈ qs,AskOk m dp q':=by
      intro q' hq'
      rw [eqs] at hq'
      obtain ⟨p,_,rfl⟩:=List.mem_map.mp hq'
      exact ⟨o1,o2.2.1,o3.subs' (by simp [Kd.subs]),by simp;omega⟩
     have rl:rks (loud qs) < (Kd.way a b).rk:=by
      have h3:=loud_rks qs
      have h4:rks qs=gs.length * b.rk:=by rw [eqs,rks_rep]
      simp only [Kd.rk];rw [← la,hgl];omega
     refine sp_oloop T (qs:=qs) hn ?_ (fun q' hq'=>by have:=(oks q' hq').ll;omega) fun st' K=>h (loud qs) st' ((K01.trans ((K2.trans K3).new hp2)).trans K) (loud_tr (u:=[]) (by rw [eqs];exact t)) rl fun q' hq'=>oks q' (loud_mem hq')
     rw [updS_same,eqs,List.map_map];rfl
    ·rintro d ds acc env' st3 ih ⟨gpre,gsuf,x,e,hmem,hp,rfl,rfl,hta3,K3⟩
     refine ⟨.inl hta3,?_⟩
     cases hp with
     | @cons _ _ p _ gsuf h1 hp=>
     walk_at "ek"
     refine ⟨by rw [T.looked];rfl,by rw [T.plt];rfl,hPl a (o3.subs' (by simp [Kd.subs])) o2.1 _ _ (hmem _ (by simp)) h1 _ (Nat.le_refl _) _ _ fun st4 K4=>?_⟩
     walk_at "ek"
     exact sp_look T (q:=⟨lv,ls,.way a b⟩) (l:=.giv p) (k:=b) (by show ls.length≤1000;omega) (ih _ _ _ ⟨gpre++[p],gsuf,_,by rw [e];simp,fun t ht=>hmem t (by simp [ht]),hp,by simp,rfl,K4.at' hta3 (by simp),K3.trans K4⟩)
theorem sp_nexta {n m dp:Nat} {st:Sto} {Q:DK} {g:Kd} {asks:List Ask} {ps p':List D} {x:D} (hn:7≤n) (hPl:∀ c:Kd,Lv m c→c.bd 20→PlT P G (n - 1) c) (ok:∀ q ∈ asks,AskOk m dp q) (t:Tr g dp asks ps x p') (h:∀ asks' st',Kp [] st st'→Tr g dp asks' ps x p'→rks asks'≤rks asks→(∀ q ∈ asks',AskOk m dp q)→(asks'=[] ∨ ∃ lv ls k r,asks'=⟨lv,ls,k⟩::r∧(k=.non ∨ ∃ a b,k=.eith a b))→Q (chD asks') st'):sem P G (n + 1) "next_asked" [chD asks] st Q:=by
 obtain ⟨n,rfl⟩:∃ k,n=k + 1:=⟨n - 1,by omega⟩
 rw [Nat.add_sub_cancel] at hPl
 refine sem_in T.nexta rfl [some (chD asks)] rfl ?_
 unfold d_next_asked_k61
 walk_at "es"
 refine while_inv (fun m' env st'=>∃ asks',m'=rks asks'∧env=[some (chD asks')]∧Tr g dp asks' ps x p'∧rks asks'≤rks asks∧(∀ q ∈ asks',AskOk m dp q)∧Kp [] st st') ?_ _ _ _ ⟨asks,rfl,rfl,t,Nat.le_refl _,ok,Kp.refl⟩
 rintro _ env st' W ⟨asks',rfl,rfl,t',hr,ok',K⟩ hW
 have fin:(asks'=[] ∨ ∃ lv ls k r,asks'=⟨lv,ls,k⟩::r∧(k=.non ∨ ∃ a b,k=.eith a b))→wpSs (Zg P G (n + 1)) (.cons (.ret (.v 0)) .nil) (EndQ Q) [some (chD asks')] st':=fun hf=>by
  walk_at "es"
  exact EndQ_rt (h asks' st' K t' hr ok' hf)
 cases asks' with
 | nil=>
  rw [wpT_def]
  walk_at "ek"
  exact .inl ⟨rfl,fin (.inl rfl)⟩
 | cons q r=>
  obtain ⟨lv,ls,k⟩:=q
  rw [wpT_def]
  simp only [chD,askD,Kd.d_w k]
  walk_at "ek"
  refine .inr ⟨by simp,pure_ofString _,by simp [D.pures,pure_ofString],by rw [dp_str];omega,?_⟩
  have ev:([D.str (Str.ofString "none"),D.str (Str.ofString "either")].any fun y=>deq y (D.str (Str.ofString k.w)))=(decide ("none"=k.w) || (decide ("either"=k.w) || false)):=by simp only [List.any_cons,List.any_nil,deq_str,ofString_inj]
  rw [ev]
  have go:k ≠ .non→(∀ a b,k ≠ .eith a b)→wpSs (Zg P G (n + 1)) (.cons (.set 0 (.call "opened" (.cons (.ix (.v 0) (.int 0)) (.cons (.ix (.v 0) (.int 1)) .nil)))) .nil) ⟨W,(EndQ Q).rt,wpSs (Zg P G (n + 1)) (.cons (.ret (.v 0)) .nil) (EndQ Q),W⟩ [some (chD (⟨lv,ls,k⟩::r))] st':=fun k1 k2=>by
   simp only [chD]
   walk_at "es"
   refine ⟨by rw [T.opened];rfl,sp_opened T (m:=m) (by omega) hPl (ok' ⟨lv,ls,k⟩ (by simp)) k1 k2 t' fun qs st2 K2 t2 r2 ok2=>?_⟩
   simp only at r2
   rw [rks_cons] at hr
   simp only at hr
   refine hW _ _ _ ?_ ⟨qs++r,rfl,rfl,t2,?_,fun q hq=>?_,K.trans K2⟩
   ·rw [rks_app,rks_cons];simp only;omega
   ·rw [rks_app];omega
   ·rcases List.mem_append.mp hq with hq | hq
    ·exact ok2 q hq
    ·exact ok' q (by simp [hq])
  cases k with
  | non=>exact fin (.inr ⟨lv,ls,.non,r,rfl,.inl rfl⟩)
  | eith a b=>exact fin (.inr ⟨lv,ls,.eith a b,r,rfl,.inr ⟨a,b,rfl⟩⟩)
  | one=>exact go nofun nofun
  | both a b=>exact go nofun nofun
  | way a b=>exact go nofun nofun
theorem sp_anames {n:Nat} {st:Sto} {Q:DK} {Γ:List Kd} (h:Q (chD (nA Γ)) st):sem P G (n + 1) "asked_names" [.tup (Γ.map Kd.d)] st Q:=by
 refine sem_in T.anames rfl [some (.tup (Γ.map Kd.d)),none,none,none] rfl ?_
 unfold d_asked_names_k61
 walk_at "es"
 walk_at "es"
 rw [← List.map_reverse]
 refine for_inv (fun l env st'=>st'=st∧∃ (pre suf:List Kd) (x2 x3:Option D),Γ=pre++suf∧l=enumD suf.length (pre.reverse.map Kd.d)∧env=[some (.tup (Γ.map Kd.d)),some (chD (nA suf)),x2,x3]) ?_ ?_ _ _ _ ⟨rfl,Γ,[],none,none,by simp,rfl,rfl⟩
 ·rintro env st' ⟨rfl,pre,suf,x2,x3,e,el,rfl⟩
  refine ⟨trivial,?_⟩
  rcases snoc_cases pre with rfl | ⟨pre,c,rfl⟩
  ·rw [List.nil_append] at e
   subst e
   walk_at "es"
   exact EndQ_rt h
  ·simp [enumD] at el
 ·rintro d ds env st' ih ⟨rfl,pre,suf,x2,x3,e,el,rfl⟩
  refine ⟨trivial,?_⟩
  rcases snoc_cases pre with rfl | ⟨pre,c,rfl⟩
  ·simp [enumD] at el
  rw [List.reverse_append,List.reverse_cons,List.reverse_nil,List.nil_append,List.cons_append,List.nil_append,List.map_cons,enumD] at el
  simp only [List.cons.injEq] at el
  obtain ⟨rfl,rfl⟩:=el
  walk_at "ek"
  walk_at "es"
  exact ih _ _ ⟨rfl,pre,c::suf,_,_,by rw [e];simp,rfl,rfl⟩
end
inductive Tk where
 | ask (l:List Ask) (dp:Nat) | join (e:D)
noncomputable def Tk.d:Tk→D
 | .ask l dp=>.tup [.str "ask",chD l,.int dp]
 | .join e=>.tup [.str "join",.tup [.str "case",e]]
inductive Mc (g:Kd) (m B:Nat) (r:D):Nat→List Tk→List D→List D→Prop where
 | done {ps:List D}:Mc g m B r 0 [] ps [r]
 | ask {c:Nat} {S:List Tk} {asks:List Ask} {dp:Nat} {ps p' ds:List D} {x:D}:Tr g dp asks ps x p'→(∀ q ∈ asks,AskOk m dp q)→S.length + 2 * rks asks + 1≤B→Mc g m B r c S p' (ds++[x])→Mc g m B r (c + 3 ^ rks asks) (S++[.ask asks dp]) ps ds
 | join {c:Nat} {S:List Tk} {ps ds:List D} {e x y:D}:S.length + 1≤B→Mc g m B r c S ps (ds++[.tup [.str "case",e,x,y]])→Mc g m B r (c + 1) (S++[.join e]) ps ((ds++[x])++[y])
theorem Mc.len {g:Kd} {m B c:Nat} {r:D} {S:List Tk} {ps ds:List D} (h:Mc g m B r c S ps ds):ds.length≤S.length + 1∧S.length≤B:=by
 induction h with
 | done=>simp
 | ask _ _ hb _ ih=>simp only [List.length_append,List.length_cons,List.length_nil] at ih ⊢;omega
 | join hb _ ih=>simp only [List.length_append,List.length_cons,List.length_nil] at ih ⊢;omega
theorem Mc.inv {g:Kd} {m B c:Nat} {r:D} {S:List Tk} {ps ds:List D} (h:Mc g m B r c S ps ds):(S=[]∧ds=[r]) ∨ (∃ c' S' asks dp p' x,S=S'++[.ask asks dp]∧c=c' + 3 ^ rks asks∧Tr g dp asks ps x p'∧(∀ q ∈ asks,AskOk m dp q)∧S'.length + 2 * rks asks + 1≤B∧Mc g m B r c' S' p' (ds++[x])) ∨ ∃ c' S' ds' e x y,S=S'++[.join e]∧c=c' + 1∧ds=ds'++[x,y]∧S'.length + 1≤B∧Mc g m B r c' S' ps (ds'++[.tup [.str "case",e,x,y]]):=by
 cases h with
 | done=>exact .inl ⟨rfl,rfl⟩
 | ask t ok hb h=>exact .inr (.inl ⟨_,_,_,_,_,_,rfl,rfl,t,ok,hb,h⟩)
 | join hb h=>exact .inr (.inr ⟨_,_,_,_,_,_,rfl,rfl,by simp,hb,h⟩)
section
variable {P:Prog} {G:Gs} (T:PKs P G)
include T
theorem sp_asking {n m:Nat} {st:Sto} {Q:DK} {g:Kd} {Γ:List Kd} {pa:Addr} {ps p':List D} {r:D} (hn:8≤n) (hPl:∀ c:Kd,Lv m c→c.bd 20→PlT P G (n - 2) c) (hΓ:∀ k ∈ Γ,k.bd 20∧Lv m k∧k.nest≤9) (hR:rks (nA Γ)≤200) (hpa:st pa=some (.lst ps)) (hps:ps.length≤1000) (t:Tr g Γ.length (nA Γ) ps r p') (h:∀ st',Kp [] st st'→Q r st'):sem P G (n + 1) "asking" [.tup (Γ.map Kd.d),g.d,.ref pa] st Q:=by
 obtain ⟨n,rfl⟩:∃ k,n=k + 1:=⟨n - 1,by omega⟩
 refine sem_in T.asking rfl [some (.tup (Γ.map Kd.d)),some g.d,some (.ref pa),none,none,none,none,none,none,none,none] rfl ?_
 unfold d_asking_k61
 walk_at "es"
 refine ⟨_,.inl hpa,by omega,fun lf hlf=>?_⟩
 walk_at "es"
 intro dn hdn
 walk_at "es"
 refine ⟨by rw [T.anames];rfl,sp_anames T ?_⟩
 intro ah hah
 rw [List.length_map]
 walk_at "es"
 have hdn0:st dn=none:=none_of (Kp.refl.new hlf) hdn
 have hah0:st ah=none:=none_of ((Kp.refl.new hlf).new hdn) hah
 have n1:lf ≠ dn:=neNew updS_same hdn
 have n2:lf ≠ ah:=neNew (keepNew updS_same hdn) hah
 have n3:dn ≠ ah:=neNew updS_same hah
 have kp:∀ {st':Sto} {a:Addr} {o:Ob},st a=none→Kp [] st st'→Kp [] st (updS st' a o):=fun {st' a o} ha K b u nb e=>keepNe (K b u nb e) (neNew e ha)
 obtain ⟨B,hB⟩:∃ B,B=2 * rks (nA Γ) + 1:=⟨_,rfl⟩
 refine while_inv (fun c env st'=>∃ (S:List Tk) (qs ds:List D) (x6 x7 x8 x9 x10:Option D),env=[some (.tup (Γ.map Kd.d)),some g.d,some (.ref pa),some (.ref lf),some (.ref dn),some (.ref ah),x6,x7,x8,x9,x10]∧Mc g m B r c S qs ds∧st' lf=some (.lst qs.reverse)∧st' dn=some (.lst ds)∧st' ah=some (.lst (S.map Tk.d))∧Kp [] st st') ?_ _ _ _ ⟨[.ask (nA Γ) Γ.length],ps,[],none,none,none,none,none,rfl,Mc.ask (c:=0) (S:=[]) t (fun q hq=>?_) (by simp;omega) .done,keepNew (keepNew updS_same hdn) hah,keepNew updS_same hah,updS_same,((Kp.refl.new hlf).new hdn).new hah⟩
 ·rintro c env st' W ⟨S,qs,ds,x6,x7,x8,x9,x10,rfl,hm,h3,h4,h5,K⟩ hW
  obtain ⟨l1,l2⟩:=hm.len
  rw [wpT_def]
  walk_at "ek"
  rw [len_r (.inl h5)]
  walk_at "ek"
  rcases hm.inv with ⟨rfl,rfl⟩ | ⟨c',S,asks,dp,p2,x,rfl,rfl,t,ok,hb,hm2⟩ | ⟨c',S,ds,e,x,y,rfl,rfl,rfl,hb,hm2⟩
  ·rw [if_neg (by simp)]
   walk_at "es"
   rw [ix_rd (.inl h4)]
   exact ⟨r,rfl,EndQ_rt (h st' K)⟩
  ·rw [if_pos (by simp)]
   rw [List.map_append] at h5
   walk_at "es"
   rw [pop_r (by exact h5)]
   have h3':=keepNe (u:=.lst (S.map Tk.d)) h3 n2
   have h4':=keepNe (u:=.lst (S.map Tk.d)) h4 n3
   have h5':updS st' ah (.lst (S.map Tk.d)) ah=some (.lst (S.map Tk.d)):=updS_same
   have K':Kp [] st (updS st' ah (.lst (S.map Tk.d))):=kp hah0 K
   revert h3' h4' h5' K'
   generalize updS st' ah (.lst (S.map Tk.d))=st1
   intro h3' h4' h5' K'
   walk_at "es"
   simp only [Tk.d]
   walk_at "ek"
   walk_at "es"
   have lead:∀ {b:Nat},b≤rks asks→3 ^ b≤3 ^ rks asks:=fun hb=>Nat.pow_le_pow_right (by decide) hb
   have pos:∀ b:Nat,1≤3 ^ b:=fun b=>Nat.pow_pos (by decide)
   refine ⟨by rw [T.nexta];rfl,sp_nexta T (n:=n) (m:=m) (by omega) (fun c h1 h2=>by have:=hPl c h1 h2;rwa [show n + 1 - 2=n - 1 by omega] at this) ok t fun asks' st2 K2 t2 r2 ok2 hf=>?_⟩
   have g3:=K2.at' h3' (by simp)
   have g4:=K2.at' h4' (by simp)
   have g5:=K2.at' h5' (by simp)
   have K02:=K'.trans K2
   clear h3 h4 h5 h3' h4' h5' K2 t
   walk_at "es"
   walk_at "es"
   rcases hf with rfl | ⟨lv,ls,k,r',rfl,hk⟩
   ·refine .inl ⟨rfl,?_⟩
    walk_at "ek"
    walk_at "es"
    cases t2
    rw [List.reverse_cons] at g3
    rw [isLR_r (.inl g4),pop_r g3]
    refine ⟨trivial,?_⟩
    rw [app_r (keepNe g4 n1.symm)]
    refine ⟨szLt (by omega),?_⟩
    walk_at "es"
    have:=pos (rks asks)
    exact hW c' _ _ (by omega) ⟨S,p2,ds++[x],_,_,_,_,_,rfl,hm2,keepNe updS_same n1,updS_same,keepNe (keepNe g5 n2.symm) n3.symm,kp hdn0 (kp hlf K02)⟩
   ·refine .inr ⟨nofun,?_⟩
    walk_at "ek"
    obtain ⟨q1,q2,q3,q4⟩:=ok2 ⟨lv,ls,k⟩ (by simp)
    simp only at q1 q2 q3 q4
    walk_at "es"
    simp only [chD,askD]
    walk_at "ek"
    refine ⟨by rw [T.expr];rfl,sp_expr T q1 ?_⟩
    walk_at "es"
    rcases hk with rfl | ⟨a,b,rfl⟩
    ·simp only [Kd.d]
     walk_at "ek"
     walk_at "es"
     cases t2 with
     | mute z _=>cases z
     | non=>
      rw [isLR_r (.inl g4)]
      refine ⟨trivial,?_⟩
      rw [app_r g4]
      refine ⟨szLt (by omega),?_⟩
      walk_at "ek"
      have:=pos (rks asks)
      exact hW c' _ _ (by omega) ⟨S,qs,ds++[_],_,_,_,_,_,rfl,hm2,keepNe g3 n1,updS_same,keepNe g5 n3.symm,kp hdn0 K02⟩
    ·simp only [Kd.d]
     walk_at "ek"
     walk_at "es"
     have ec:cutD [D.str (Str.ofString "either"),a.d,b.d] (some 1) none=[a.d,b.d]:=by rw [show (1:Int)=((1:Nat):Int) from rfl,cut_from];rfl
     refine ⟨by simp [HT.sIx],by rw [ec];simp,?_⟩
     rw [ec]
     obtain ⟨env0,he0⟩:∃ e:DEnv,e=[some (.int dp),some (.tup [.tup [.int lv,.tup (ls.map Lk.d),.tup [.str "either",a.d,b.d]],chD r'])]:=⟨_,rfl⟩
     refine comp_map (fun d=>.tup [.str "ask",.tup [.tup [.int dp,.tup [],d],chD r'],.int ((dp + 1:Nat):Int)]) (fun env=>∃ x,env=[some (.int dp),some (.tup [.tup [.int lv,.tup (ls.map Lk.d),.tup [.str "either",a.d,b.d]],chD r']),x]) (fun env y h=>by obtain ⟨x,rfl⟩:=h;exact ⟨_,rfl⟩) (fun env K h=>h) (fun env y K h hk=>by
      obtain ⟨x,rfl⟩:=h
      walk_at "ek"
      exact hk) trivial _ _ _ ⟨none,rfl⟩ ?_
     intro p hp
     simp only [List.map_cons,List.map_nil,List.nil_append]
     have npa:ah ≠ p:=neNew g5 hp
     walk_at "es"
     rw [isLR_r (.inl (keepNew g5 hp))]
     refine ⟨trivial,fun p3 hp3=>?_⟩
     rw [ext_r (keepNew (keepNew g5 hp) hp3) updS_same]
     refine ⟨szLine (by simp only [List.length_map,List.length_cons,List.length_nil];omega),?_⟩
     walk_at "ek"
     cases t2 with
     | mute z _=>cases z
     | @eith _ _ _ _ _ _ _ _ p1 _ x1 y1 t3 t4=>
     rw [rks_cons] at r2
     simp only [Kd.rk] at r2
     simp only [Kd.nest] at q4
     have okr:∀ q ∈ r',AskOk m (dp + 1) q:=fun q hq=>by
      obtain ⟨w1,w2,w3,w4⟩:=ok2 q (by simp [hq])
      exact ⟨by omega,w2,w3,w4⟩
     have ra:rks (⟨dp,[],a⟩::r') + 2≤rks asks:=by rw [rks_cons];simp only;omega
     have rb:rks (⟨dp,[],b⟩::r') + 2≤rks asks:=by rw [rks_cons];simp only;omega
     have M1:=Mc.join (e:=exD (dp - 1 - lv) ls) (x:=x1) (y:=y1) (by omega) hm2
     have M2:=Mc.ask (asks:=⟨dp,[],b⟩::r') (dp:=dp + 1) t4 (fun q hq=>by
      rcases List.mem_cons.mp hq with rfl | hq
      ·exact ⟨Nat.lt_succ_self _,q2.2.1,q3.subs' (by simp [Kd.subs]),by simp;omega⟩
      ·exact okr q hq) (by simp only [List.length_append,List.length_cons,List.length_nil];omega) M1
     have M3:=Mc.ask (asks:=⟨dp,[],a⟩::r') (dp:=dp + 1) t3 (fun q hq=>by
      rcases List.mem_cons.mp hq with rfl | hq
      ·exact ⟨Nat.lt_succ_self _,q2.1,q3.subs' (by simp [Kd.subs]),by simp;omega⟩
      ·exact okr q hq) (by simp only [List.length_append,List.length_cons,List.length_nil];omega) M2
     refine hW _ _ _ ?_ ⟨_,qs,ds,_,_,_,_,_,rfl,M3,keepNe (keepNew (keepNew g3 hp) hp3) n2,keepNe (keepNew (keepNew g4 hp) hp3) n3,?_,kp hah0 ((K02.new hp).new hp3)⟩
     ·have e1:3 ^ rks (⟨dp,[],a⟩::r')≤3 ^ (rks asks - 2):=Nat.pow_le_pow_right (by decide) (by omega)
      have e2:3 ^ rks (⟨dp,[],b⟩::r')≤3 ^ (rks asks - 2):=Nat.pow_le_pow_right (by decide) (by omega)
      have e3:3 ^ rks asks=3 ^ (rks asks - 2) * 9:=by rw [show (9:Nat)=3 ^ 2 from rfl,← Nat.pow_add,Nat.sub_add_cancel (by omega)]
      have e4:=pos (rks asks - 2)
      omega
     ·rw [updS_same]
      simp only [List.map_append,List.map_cons,List.map_nil,Tk.d,List.append_assoc,List.cons_append,List.nil_append,chD,askD,List.map_nil]
  ·rw [if_pos (by simp)]
   rw [List.map_append] at h5
   walk_at "es"
   rw [pop_r (by exact h5)]
   walk_at "es"
   simp only [Tk.d]
   walk_at "ek"
   walk_at "es"
   rw [isLR_r (.inl (keepNe h4 n3))]
   refine ⟨trivial,by rw [T.taken];rfl,?_⟩
   refine sp_taken T.toPM (m:=2) rfl (keepNe h4 n3) (by simp) fun ta st2 hta hne hta2 hdn2 K2=>?_
   walk_at "ek"
   rw [tuple_r (.inl hta2)]
   walk_at "ek"
   refine ⟨szLine (by decide),?_⟩
   rw [app_r hdn2]
   simp only [List.length_append,List.length_cons,List.length_nil] at l1 l2
   refine ⟨szLt (by omega),?_⟩
   walk_at "es"
   have h3':st2 lf=some (.lst qs.reverse):=K2.at' (keepNe h3 n2) (by simp;exact n1)
   have h5':st2 ah=some (.lst (S.map Tk.d)):=K2.at' updS_same (by simp;exact n3.symm)
   have K3:Kp [] st st2:=fun b u nb e=>K2.at' (kp hah0 K b u nb e) (by simp;exact neNew e hdn0)
   exact hW c' _ _ (by omega) ⟨S,qs,ds++[_],_,_,_,_,_,rfl,hm2,keepNe h3' n1,updS_same,keepNe h5' n3.symm,kp hdn0 K3⟩
 ·obtain ⟨w1,w2,w3⟩:=nA_mem hq
  obtain ⟨k1,k2,k3⟩:=hΓ _ w1
  exact ⟨w3,k1,k2,by rw [w2];simp;omega⟩
end
noncomputable def nsub:Kd × D→List (Kd × D)
 | (.both a b,.tup [_,t,u])=>[(a,t),(b,u)]
 | (.way _ b,.tup [_,.tup row])=>row.map fun g=>(b,g)
 | (.eith a b,.tup [.str s,t])=>[(if s="l" then a else b,t)]
 | _=>[]
noncomputable def tsz:Kd→D→Nat
 | .non,_=>1
 | .one,_=>1
 | .both a b,d=>match d with
  | .tup [_,t,u]=>1 + (tsz a t + tsz b u)
  | _=>1
 | .way _ b,d=>match d with
  | .tup [_,.tup row]=>1 + (row.map fun g=>tsz b g).sum
  | _=>1
 | .eith a b,d=>match d with
  | .tup [.str s,t]=>1 + (if s="l" then tsz a t else tsz b t)
  | _=>1
noncomputable def nsz (c:Kd × D):Nat:=tsz c.1 c.2
noncomputable def nenc (c:Kd × D):D:=.tup [c.1.d,c.2]
theorem nsz_sub (c:Kd × D):nsz c=1 + ((nsub c).map nsz).sum:=by
 obtain ⟨k,t⟩:=c
 unfold nsz nsub
 split
 ·rename_i heq
  cases heq
  simp [tsz]
 ·rename_i heq
  cases heq
  simp only [tsz,List.map_map,Function.comp_def]
 ·rename_i heq
  cases heq
  simp only [tsz,List.map_cons,List.map_nil,List.sum_cons,List.sum_nil]
  split <;> simp
 ·rename_i h1 h2 h3
  simp only [List.map_nil,List.sum_nil]
  cases k with
  | non=>rfl
  | one=>rfl
  | both a b=>
   simp only [tsz]
   split
   ·exact (h1 _ _ _ _ _ rfl).elim
   ·rfl
  | way a b=>
   simp only [tsz]
   split
   ·exact (h2 _ _ _ _ rfl).elim
   ·rfl
  | eith a b=>
   simp only [tsz]
   split
   ·exact (h3 _ _ _ _ rfl).elim
   ·rfl
theorem sum_le {α:Type} {f:α→Nat} {b:Nat}:∀ {l:List α},(∀ x ∈ l,f x≤b)→(l.map f).sum≤l.length * b
 | [],_=>by simp
 | x::l,h=>by
  have:=sum_le (l:=l) fun y hy=>h y (by simp [hy])
  have:=h x (by simp)
  rw [List.map_cons,List.sum_cons,List.length_cons,Nat.add_mul,Nat.one_mul]
  omega
noncomputable def zb:Nat→Nat
 | 0=>2 | 1=>5 | 2=>21 | _=>421
theorem tsz_le:∀ (d:Nat),d≤3→∀ (k:Kd) (t:D),Lv d k→k.bd 20→t ∈ k.things→tsz k t≤zb d:=by
 intro d
 induction d with
 | zero=>
  intro _ k t lk bk ht
  cases lk with
  | one=>simp [tsz,zb]
  | two=>
   simp only [Kd.things,List.map_cons,List.map_nil,List.cons_append,List.nil_append,List.mem_cons,List.not_mem_nil,or_false] at ht
   rcases ht with rfl | rfl <;> simp [tsz,zb]
 | succ d ih=>
  intro hd k t lk bk ht
  have z1:2≤zb d:=by unfold zb;split <;> decide
  have z2:1 + 2 * zb d≤zb (d + 1):=by
   obtain rfl | rfl | rfl:d=0 ∨ d=1 ∨ d=2:=by omega
   all_goals decide
  cases k with
  | non=>simp [Kd.things] at ht
  | one=>simp only [tsz];omega
  | eith a b=>
   have la:=lk.subs (c:=a) (by simp [Kd.subs])
   have lb:=lk.subs (c:=b) (by simp [Kd.subs])
   simp only [Kd.things,List.mem_append,List.mem_map] at ht
   rcases ht with ⟨u,hu,rfl⟩ | ⟨u,hu,rfl⟩
   ·have:=ih (by omega) a u la bk.1 hu
    simp only [tsz,if_true];omega
   ·have:=ih (by omega) b u lb bk.2.1 hu
    simp only [tsz,ofString_inj,String.reduceEq,if_false];omega
  | both a b=>
   have la:=lk.subs (c:=a) (by simp [Kd.subs])
   have lb:=lk.subs (c:=b) (by simp [Kd.subs])
   simp only [Kd.things,List.mem_flatMap,List.mem_map] at ht
   obtain ⟨u,hu,v,hv,rfl⟩:=ht
   have:=ih (by omega) a u la bk.1 hu
   have:=ih (by omega) b v lb bk.2.1 hv
   simp only [tsz];omega
  | way a b=>
   have la:=lk.subs (c:=a) (by simp [Kd.subs])
   have lb:=lk.subs (c:=b) (by simp [Kd.subs])
   simp only [Kd.things,List.mem_map] at ht
   obtain ⟨row,hr,rfl⟩:=ht
   obtain ⟨rl,rm⟩:=rows_mem _ _ _ hr
   have h1:=sum_le (f:=fun g=>tsz b g) (l:=row) fun g hg=>ih (by omega) b g lb bk.2.1 (rm g hg)
   have tl:=things_len a
   have ca:=Kd.bd_le bk.1
   simp only [tsz]
   obtain rfl | rfl | rfl:d=0 ∨ d=1 ∨ d=2:=by omega
   ·have c0:=(lv0 la).1
    have:row.length * zb 0≤2 * zb 0:=Nat.mul_le_mul_right _ (by omega)
    have e:1 + 2 * zb 0≤zb (0 + 1):=by decide
    omega
   ·have c0:=(lv1 la).1
    have:row.length * zb 1≤4 * zb 1:=Nat.mul_le_mul_right _ (by omega)
    have e:1 + 4 * zb 1≤zb (1 + 1):=by decide
    omega
   ·have:row.length * zb 2≤20 * zb 2:=Nat.mul_le_mul_right _ (by omega)
    have e:1 + 20 * zb 2≤zb (2 + 1):=by decide
    omega
theorem pls_of {k:Kd}:∀ {row ds:List D},ds.length=row.length→(∀ (i:Nat) t d,row[i]?=some t→ds[i]?=some d→Pl k t d)→Pls k row ds
 | [],[],_,_=>.nil
 | [],d::ds,h,_=>by simp at h
 | t::row,[],h,_=>by simp at h
 | t::row,d::ds,h,hp=>.cons (hp 0 t d rfl rfl) (pls_of (by simpa using h) fun i t' d' h1 h2=>hp (i + 1) t' d' (by simpa using h1) (by simpa using h2))
structure Gd (d:Nat) (c:Kd × D):Prop where
 lv:Lv d c.1
 bd:c.1.bd 20
 th:c.2 ∈ c.1.things
 pl:∃ p,Pl c.1 c.2 p
theorem Pls.mem {k:Kd}:∀ {ts ps:List D} {t:D},Pls k ts ps→t ∈ ts→∃ p,Pl k t p
 | _,_,t,.nil,h=>by cases h
 | _,_,t,.cons a b,h=>by
  rcases List.mem_cons.mp h with rfl | h
  ·exact ⟨_,a⟩
  ·exact b.mem h
theorem Gd.sub {d:Nat} {c c':Kd × D} (h:Gd d c) (hc:c' ∈ nsub c):Gd d c':=by
 obtain ⟨k,t⟩:=c
 obtain ⟨l,b,m,p,hp⟩:=h
 simp only at l b m hp
 cases hp with
 | one=>simp [nsub] at hc
 | @l a e u p h1=>
  simp only [nsub,if_true,List.mem_singleton] at hc
  subst hc
  refine ⟨l.subs' (by simp [Kd.subs]),b.1,?_,p,h1⟩
  simp only [Kd.things,List.mem_append,List.mem_map] at m
  rcases m with ⟨v,hv,e1⟩ | ⟨v,hv,e1⟩
  ·simp only [D.tup.injEq,List.cons.injEq,and_true,true_and] at e1;subst e1;exact hv
  ·simp [ofString_inj] at e1
 | @r a e u p h1=>
  simp only [nsub,ofString_inj,String.reduceEq,if_false,List.mem_singleton] at hc
  subst hc
  refine ⟨l.subs' (by simp [Kd.subs]),b.2.1,?_,p,h1⟩
  simp only [Kd.things,List.mem_append,List.mem_map] at m
  rcases m with ⟨v,hv,e1⟩ | ⟨v,hv,e1⟩
  ·simp [ofString_inj] at e1
  ·simp only [D.tup.injEq,List.cons.injEq,and_true,true_and] at e1;subst e1;exact hv
 | @both a e u v p q h1 h2=>
  simp only [nsub,List.mem_cons,List.not_mem_nil,or_false] at hc
  simp only [Kd.things,List.mem_flatMap,List.mem_map] at m
  obtain ⟨u',hu,v',hv,e1⟩:=m
  simp only [D.tup.injEq,List.cons.injEq,and_true,true_and] at e1
  obtain ⟨rfl,rfl⟩:=e1
  rcases hc with rfl | rfl
  ·exact ⟨l.subs' (by simp [Kd.subs]),b.1,hu,p,h1⟩
  ·exact ⟨l.subs' (by simp [Kd.subs]),b.2.1,hv,q,h2⟩
 | @way a e row ps x h1 h2=>
  simp only [nsub,List.mem_map] at hc
  obtain ⟨g,hg,rfl⟩:=hc
  simp only [Kd.things,List.mem_map] at m
  obtain ⟨row',hr,e1⟩:=m
  simp only [D.tup.injEq,List.cons.injEq,and_true,true_and] at e1
  subst e1
  exact ⟨l.subs' (by simp [Kd.subs]),b.2.1,(rows_mem _ _ _ hr).2 g hg,h1.mem hg⟩
section
variable {P:Prog} {G:Gs} (T:PKs P G)
include T
theorem sp_within {n d:Nat} {st:Sto} {Q:DK} {c:Kd × D} (gd:Gd d c) (q:∀ x st',PartsR st st' x ((nsub c).map nenc)→Kp [] st st'→Q x st'):sem P G (n + 1) "things_within" [nenc c] st Q:=by
 obtain ⟨k,t⟩:=c
 obtain ⟨l,b,m,p,hp⟩:=gd
 simp only at l b m hp
 refine sem_in T.within rfl [some (nenc (k,t)),none,none] rfl ?_
 unfold d_things_within_k61
 simp only [nenc]
 walk_at "es"
 walk_at "es"
 cases hp with
 | one=>
  simp only [Kd.d]
  walk_at "es"
  walk_at "es"
  exact fun pa hpa=>EndQ_rt (q _ _ (.inr ⟨pa,rfl,hpa,updS_same⟩) (Kp.refl.new hpa))
 | @l a e u p h1=>
  simp only [Kd.d]
  walk_at "es"
  walk_at "es"
  walk_at "es"
  walk_at "es"
  exact fun pa hpa=>EndQ_rt (q _ _ (.inr ⟨pa,rfl,hpa,updS_same⟩) (Kp.refl.new hpa))
 | @r a e u p h1=>
  simp only [Kd.d]
  walk_at "es"
  walk_at "es"
  walk_at "es"
  walk_at "es"
  refine fun pa hpa=>EndQ_rt (q _ _ (.inr ⟨pa,rfl,hpa,?_⟩) (Kp.refl.new hpa))
  rw [updS_same]
  simp only [nsub,ofString_inj,String.reduceEq,if_false,List.map_cons,List.map_nil,nenc]
 | @both a e u v p q h1 h2=>
  simp only [Kd.d]
  walk_at "es"
  walk_at "es"
  walk_at "es"
  exact fun pa hpa=>EndQ_rt (q _ _ (.inr ⟨pa,rfl,hpa,updS_same⟩) (Kp.refl.new hpa))
 | @way a e row ps x h1 h2=>
  simp only [Kd.d]
  walk_at "es"
  walk_at "es"
  walk_at "es"
  walk_at "es"
  simp only [Kd.things,List.mem_map] at m
  obtain ⟨row',hr,e1⟩:=m
  simp only [D.tup.injEq,List.cons.injEq,and_true,true_and] at e1
  subst e1
  have rl:=(rows_mem _ _ _ hr).1
  have tl:=things_len a
  have ca:=Kd.bd_le b.1
  refine ⟨by omega,?_⟩
  refine comp_map (fun g=>.tup [e.d,g]) (fun env=>∃ x,env=[some (.tup [.str "way",a.d,e.d]),x]) (fun env y h=>by obtain ⟨x,rfl⟩:=h;exact ⟨_,rfl⟩) (fun env K h=>h) (fun env y K h hk=>by
   obtain ⟨x,rfl⟩:=h
   walk_at "ek"
   exact hk) trivial _ _ _ ⟨none,rfl⟩ ?_
  refine fun pa hpa=>EndQ_rt (q _ _ (.inr ⟨pa,rfl,hpa,?_⟩) (Kp.refl.new hpa))
  rw [updS_same]
  simp only [nsub,nenc,List.nil_append,List.map_map,Function.comp_def]
theorem sp_pbp {n d:Nat} {st:Sto} {Q:DK} {c:Kd × D} {la:Addr} {ds:List D} (hn:9≤n) (gd:Gd d c) (hW:∀ a b,c.1=.way a b→∃ m,Lv m a∧a.nest≤9∧a.rk≤200∧∀ k:Kd,Lv m k→k.bd 20→PlT P G (n - 3) k) (hla:st la=some (.lst ds)) (hlen:ds.length=(nsub c).length) (hv:∀ (i:Nat) c' x,(nsub c)[i]?=some c'→ds[i]?=some x→Pl c'.1 c'.2 x) (q:∀ x st',Pl c.1 c.2 x→Kp [] st st'→Q x st'):sem P G (n + 1) "plain_by_parts" [nenc c,.ref la] st Q:=by
 obtain ⟨k,t⟩:=c
 obtain ⟨l,b,m,p,hp⟩:=gd
 simp only at l b m hp hW q
 refine sem_in T.plb rfl [some (nenc (k,t)),some (.ref la),none] rfl ?_
 unfold d_plain_by_parts_k61
 simp only [nenc]
 walk_at "es"
 cases hp with
 | one=>
  simp only [Kd.d]
  walk_at "es"
  walk_at "es"
  exact EndQ_rt (q _ _ .one Kp.refl)
 | @l a e u p h1=>
  simp only [nsub,if_true,List.length_cons,List.length_nil] at hlen hv
  obtain ⟨x,rfl⟩:∃ x,ds=[x]:=by match ds,hlen with | [x],_=>exact ⟨x,rfl⟩
  simp only [Kd.d]
  walk_at "es"
  walk_at "es"
  walk_at "es"
  walk_at "es"
  rw [ix_rd (.inl hla)]
  exact ⟨x,rfl,EndQ_rt (q _ _ (.l (hv 0 _ x rfl rfl)) Kp.refl)⟩
 | @r a e u p h1=>
  simp only [nsub,ofString_inj,String.reduceEq,if_false,List.length_cons,List.length_nil] at hlen hv
  obtain ⟨x,rfl⟩:∃ x,ds=[x]:=by match ds,hlen with | [x],_=>exact ⟨x,rfl⟩
  simp only [Kd.d]
  walk_at "es"
  walk_at "es"
  walk_at "es"
  walk_at "es"
  rw [ix_rd (.inl hla)]
  exact ⟨x,rfl,EndQ_rt (q _ _ (.r (hv 0 _ x rfl rfl)) Kp.refl)⟩
 | @both a e u v p p2 h1 h2=>
  simp only [nsub,List.length_cons,List.length_nil] at hlen hv
  obtain ⟨x,y,rfl⟩:∃ x y,ds=[x,y]:=by match ds,hlen with | [x,y],_=>exact ⟨x,y,rfl⟩
  simp only [Kd.d]
  walk_at "es"
  walk_at "es"
  walk_at "es"
  rw [ix_rd (.inl hla)]
  refine ⟨x,rfl,?_⟩
  rw [ix_rd (.inl hla)]
  exact ⟨y,rfl,EndQ_rt (q _ _ (.both (hv 0 _ x rfl rfl) (hv 1 _ y rfl rfl)) Kp.refl)⟩
 | @way a e row ps x h1 h2=>
  obtain ⟨lm,la1,la2,la3,hPl⟩:=hW a e rfl
  simp only [nsub,List.length_map] at hlen hv
  have hp2:Pls e row ds:=pls_of hlen fun i t' d' e1 e2=>hv i (e,t') d' (by rw [List.getElem?_map,e1];rfl) e2
  have eds:=plsDet (plDet _ e (Nat.le_refl _)) hp2 h1
  subst eds
  simp only [Kd.things,List.mem_map] at m
  obtain ⟨row',hr,e1⟩:=m
  simp only [D.tup.injEq,List.cons.injEq,and_true,true_and] at e1
  subst e1
  have rl:=(rows_mem _ _ _ hr).1
  have tl:=things_len a
  have ca:=Kd.bd_le b.1
  obtain ⟨n,rfl⟩:∃ k,n=k + 1:=⟨n - 1,by omega⟩
  simp only [Kd.d]
  walk_at "es"
  walk_at "es"
  walk_at "es"
  walk_at "es"
  have ec:cutD [D.str (Str.ofString "way"),a.d,e.d] (some 1) (some 2)=[a].map Kd.d:=rfl
  rw [ec]
  refine ⟨by rw [T.asking];rfl,by simp [HT.sIx],?_⟩
  exact sp_asking T (Γ:=[a]) (m:=lm) (by omega) (fun c l1 b1=>by have:=hPl c l1 b1;rwa [show n + 1 - 3=n - 2 by omega] at this) (fun k hk=>by rw [List.mem_singleton] at hk;subst hk;exact ⟨b.1,la1,la2⟩) (by simp [nA,rks];omega) hla (by omega) h2 fun st' K=>EndQ_rt (q _ st' (.way h1 h2) K)
theorem plt_step {d N:Nat} (hN:12≤N) (hd:d≤3) {k:Kd} (lk:Lv d k) (bk:k.bd 20) (hW:∀ a b,Lv d (.way a b)→∃ m,Lv m a∧a.nest≤9∧a.rk≤200∧∀ k:Kd,Lv m k→k.bd 20→PlT P G (N - 6) k):PlT P G N k:=by
 intro t p ht hp n hn st Q q
 obtain ⟨n,rfl⟩:∃ m,n=m + 3:=⟨n - 3,by omega⟩
 refine sem_in T.plt rfl [some k.d,some t] rfl ?_
 unfold d_plain_thing_k61
 walk_at "es"
 have z:=tsz_le d hd k t lk bk ht
 have z2:zb d≤421:=by unfold zb;split <;> decide
 refine ⟨by rw [T.mop];rfl,by rw [T.within];rfl,by rw [T.plb];rfl,?_⟩
 refine sp_mop T.toPM (n:=n) (T:=Kd × D) (enc:=nenc) (subs:=nsub) (size:=nsz) (Good:=Gd d) nsz_sub (fun c gc c' hc'=>gc.sub hc') (F:=.fn "things_within") (M:=.fn "plain_by_parts") (show (P _).isSome=true by rw [T.within];rfl) (show (P _).isSome=true by rw [T.plb];rfl) (k,t) (by show tsz k t≤2000;omega) ⟨lk,bk,ht,p,hp⟩ (V:=fun _ c x _=>Pl c.1 c.2 x) (fun v _=>v) (fun c st' Q gc K q=>?_) (fun c dn la st' Q ds gc hdn K hla hne hl hlen hv hxs q=>?_) fun dn x st' hdn v K=>?_
 ·obtain ⟨n,rfl⟩:∃ m,n=m + 1:=⟨n - 1,by omega⟩
  exact sp_within T gc fun x st2 hx K2=>q x st2 hx K2
 ·refine sp_pbp T (by omega) gc (fun a b e=>?_) hl hlen hv q
  obtain ⟨m,h1,h2,h3,h4⟩:=hW a b (by rw [← e];exact gc.lv)
  exact ⟨m,h1,h2,h3,fun k l1 b1 t p ht hp m hm=>h4 k l1 b1 t p ht hp m (by omega)⟩
 ·rw [plDet _ k (Nat.le_refl _) t p x hp v] at q
  exact EndQ_rt (q st' K)
theorem plt_all:∀ (d:Nat),d≤3→∀ k:Kd,Lv d k→k.bd 20→PlT P G (12 + 6 * d) k:=by
 intro d
 induction d with
 | zero=>
  intro hd k lk bk
  exact plt_step T (by omega) hd lk bk fun a b h=>by cases h
 | succ d ih=>
  intro hd k lk bk
  refine plt_step T (by omega) hd lk bk fun a b h=>?_
  have la:Lv d a:=h.subs (by simp [Kd.subs])
  have r1:=lv_rk (by omega) la
  have r2:rkb d≤29:=by unfold rkb;split <;> decide
  have n1:=la.nest
  exact ⟨d,la,by omega,by omega,fun c lc bc=>by have:=ih (by omega) c lc bc;rwa [show 12 + 6 * (d + 1) - 6=12 + 6 * d by omega]⟩
end
noncomputable def nice (b:Nat) (d:D):Prop:=d.lit=true∧dpth d≤b
theorem nice.mono {b c:Nat} {d:D} (h:nice b d) (hb:b≤c):nice c d:=⟨h.1,Nat.le_trans h.2 hb⟩
theorem dpths_le {b:Nat}:∀ {l:List D},(∀ d ∈ l,dpth d≤b)→dpths l≤b
 | [],_=>Nat.zero_le _
 | d::l,h=>by
  have:=dpths_le (l:=l) fun x hx=>h x (by simp [hx])
  have:=h d (by simp)
  show max (dpth d) (dpths l)≤b
  omega
theorem nice_tup {b:Nat} {l:List D} (h:∀ d ∈ l,nice b d):nice (b + 1) (.tup l):=
 ⟨by rw [lit_tup,lits_all];exact fun d hd=>(h d hd).1,by rw [dp_tup];exact Nat.succ_le_succ (dpths_le fun d hd=>(h d hd).2)⟩
theorem nice_str {b:Nat} {s:String}:nice b (.str (Str.ofString s)):=⟨lit_ofString s,by rw [dp_str];exact Nat.zero_le _⟩
theorem nice_int {b:Nat} {i:Int}:nice b (.int i):=⟨rfl,by rw [dp_int];exact Nat.zero_le _⟩
theorem nice_kd:∀ k:Kd,nice (k.nest + 1) k.d
 | .non=>nice_tup (by simp;exact nice_str)
 | .one=>nice_tup (by simp;exact nice_str)
 | .eith a b | .both a b | .way a b=>by
  have ha:=nice_kd a
  have hb:=nice_kd b
  refine nice_tup fun d hd=>?_
  simp only [List.mem_cons,List.not_mem_nil,or_false] at hd
  simp only [Kd.nest]
  rcases hd with rfl | rfl | rfl
  ·exact nice_str
  ·exact ha.mono (by omega)
  ·exact hb.mono (by omega)
noncomputable def LkOk (X:Nat) (ls:List Lk):Prop:=∀ p,.giv p ∈ ls→nice X p
theorem lk_nil {X:Nat}:LkOk X []:=fun p hp=>by cases hp
theorem nice_ex {X i:Nat} (hX:1≤X):∀ (m:Nat) {ls:List Lk},ls.length=m→LkOk X ls→nice (m + X) (exD i ls):=by
 intro m
 induction m with
 | zero=>
  intro ls hl h
  have:ls=[]:=List.eq_nil_of_length_eq_zero hl
  subst this
  have:nice (0 + 1) (exD i []):=nice_tup fun d hd=>by
   simp only [List.mem_cons,List.not_mem_nil,or_false] at hd
   rcases hd with rfl | rfl
   ·exact nice_str
   ·exact nice_int
  exact this.mono (by omega)
 | succ m ih=>
  intro ls hl h
  rcases snoc_cases ls with rfl | ⟨ls,l,rfl⟩
  ·simp at hl
  have h1:=ih (ls:=ls) (by simpa using hl) fun p hp=>h p (by simp [hp])
  rw [exD_snoc,show m + 1 + X=(m + X) + 1 by omega]
  cases l with
  | fst | snd=>
   refine nice_tup fun d hd=>?_
   simp only [List.mem_cons,List.not_mem_nil,or_false] at hd
   rcases hd with rfl | rfl
   ·exact nice_str
   ·exact h1
  | giv p=>
   refine nice_tup fun d hd=>?_
   simp only [List.mem_cons,List.not_mem_nil,or_false] at hd
   rcases hd with rfl | rfl | rfl
   ·exact nice_str
   ·exact h1
   ·exact (h _ (by simp)).mono (by omega)
noncomputable def PlN (X:Nat) (c:Kd):Prop:=∀ t p,Pl c t p→nice X p
theorem pls_nice {X:Nat} {c:Kd} (h:PlN X c):∀ {ts ps:List D},Pls c ts ps→∀ p ∈ ps,nice X p
 | _,_,.nil,p,hp=>by cases hp
 | _,_,.cons a b,p,hp=>by
  rcases List.mem_cons.mp hp with rfl | hp
  ·exact h _ _ a
  ·exact pls_nice h b p hp
theorem tr_nice {d X L W:Nat} {g:Kd} (hX:1≤X) (hW:L + X≤W) (hg:g.nest + 1≤W) (hP:∀ c,Lv d c→PlN X c):∀ (n:Nat) {asks:List Ask},rks asks≤n→(∀ q ∈ asks,Lv d q.k∧LkOk X q.ls∧q.ls.length + q.k.nest≤L)→∀ {dp:Nat} {ps p':List D} {x:D},(∀ p ∈ ps,nice W p)→Tr g dp asks ps x p'→nice (n + W) x∧∀ p ∈ p',nice W p:=by
 have nil:∀ {n dp:Nat} {ps p':List D} {x:D},(∀ p ∈ ps,nice W p)→Tr g dp [] ps x p'→nice (n + W) x∧∀ p ∈ p',nice W p:=fun {n dp ps p' x} hps t=>by
  cases t
  exact ⟨(hps _ (by simp)).mono (by omega),fun p hp=>hps p (by simp [hp])⟩
 intro n
 induction n with
 | zero=>
  intro asks hn hq dp ps p' x hps t
  cases asks with
  | nil=>exact nil hps t
  | cons q r=>rw [rks_cons] at hn;have:=rk_pos q.k;omega
 | succ n ih=>
  intro asks hn hq dp ps p' x hps t
  cases asks with
  | nil=>exact nil hps t
  | cons q r=>
   obtain ⟨lv,ls,k⟩:=q
   obtain ⟨lk,gk,nk⟩:=hq ⟨lv,ls,k⟩ (by simp)
   have hr:∀ q ∈ r,Lv d q.k∧LkOk X q.ls∧q.ls.length + q.k.nest≤L:=fun q h=>hq q (by simp [h])
   rw [rks_cons] at hn
   have pk:=rk_pos k
   simp only at hn lk gk nk
   have ex:nice W (exD (dp - 1 - lv) ls):=(nice_ex hX _ rfl gk).mono (by omega)
   cases t with
   | mute h t=>
    obtain ⟨h1,h2⟩:=ih (by omega) hr hps t
    exact ⟨h1.mono (by omega),h2⟩
   | non=>
    refine ⟨?_,hps⟩
    rw [show n + 1 + W=(n + W) + 1 by omega]
    refine nice_tup fun d hd=>?_
    simp only [List.mem_cons,List.not_mem_nil,or_false] at hd
    rcases hd with rfl | rfl | rfl
    ·exact nice_str
    ·exact (nice_kd g).mono (by omega)
    ·exact ex.mono (by omega)
   | @eith _ a b _ _ _ _ _ _ _ _ _ t1 t2=>
    simp only [Kd.rk] at hn
    simp only [Kd.nest] at nk
    have hA:∀ c ∈ (Kd.eith a b).subs,c.nest≤L→∀ q ∈ (⟨dp,[],c⟩:Ask)::r,Lv d q.k∧LkOk X q.ls∧q.ls.length + q.k.nest≤L:=fun c hc hl q hq=>by
     rcases List.mem_cons.mp hq with rfl | hq
     ·exact ⟨lk.subs' hc,lk_nil,by simpa using hl⟩
     ·exact hr q hq
    obtain ⟨x1,x2⟩:=ih (by rw [rks_cons];simp only;omega) (hA a (by simp [Kd.subs]) (by omega)) hps t1
    obtain ⟨y1,y2⟩:=ih (by rw [rks_cons];simp only;omega) (hA b (by simp [Kd.subs]) (by omega)) x2 t2
    refine ⟨?_,y2⟩
    rw [show n + 1 + W=(n + W) + 1 by omega]
    refine nice_tup fun d hd=>?_
    simp only [List.mem_cons,List.not_mem_nil,or_false] at hd
    rcases hd with rfl | rfl | rfl | rfl
    ·exact nice_str
    ·exact ex.mono (by omega)
    ·exact x1
    ·exact y1
   | @both _ a b _ _ _ _ _ _ _ t1=>
    simp only [Kd.rk] at hn
    simp only [Kd.nest] at nk
    obtain ⟨h1,h2⟩:=ih (by rw [rks_cons,rks_cons];simp only;omega) (fun q hq=>by
     simp only [List.mem_cons] at hq
     rcases hq with rfl | rfl | hq
     ·exact ⟨lk.subs' (by simp [Kd.subs]),fun p hp=>gk p (by simpa using hp),by simp;omega⟩
     ·exact ⟨lk.subs' (by simp [Kd.subs]),fun p hp=>gk p (by simpa using hp),by simp;omega⟩
     ·exact hr q hq) hps t1
    exact ⟨h1.mono (by omega),h2⟩
   | @way _ a b _ _ _ _ gs _ _ _ hg1 t1=>
    simp only [Kd.rk] at hn
    simp only [Kd.nest] at nk
    have hl:=hg1.len
    rw [things_len] at hl
    have hgs:=pls_nice (hP a (lk.subs' (by simp [Kd.subs]))) hg1
    obtain ⟨h1,h2⟩:=ih (by rw [rks_app,rks_rep,← hl];omega) (fun q hq=>by
     rcases List.mem_append.mp hq with hq | hq
     ·obtain ⟨p,hp,rfl⟩:=List.mem_map.mp hq
      refine ⟨lk.subs' (by simp [Kd.subs]),fun p' hp'=>?_,by simp;omega⟩
      rcases List.mem_append.mp hp' with hp' | hp'
      ·exact gk p' hp'
      ·simp only [List.mem_singleton,Lk.giv.injEq] at hp'
       subst hp';exact hgs _ hp
     ·exact hr q hq) hps t1
    exact ⟨h1.mono (by omega),h2⟩
noncomputable def Xb:Nat→Nat
 | 0=>2
 | d + 1=>1 + rkb d + (Xb d + d + 1)
theorem pl_nice:∀ (d:Nat),d≤3→∀ k,Lv d k→PlN (Xb d) k:=by
 have X2:∀ d,2≤Xb d:=by
  intro d
  cases d with
  | zero=>exact Nat.le_refl _
  | succ d=>
   simp only [Xb]
   have:3≤rkb d:=by unfold rkb;split <;> decide
   omega
 have one:nice 1 (.tup [.str (Str.ofString "star")]):=nice_tup fun d hd=>by simp only [List.mem_singleton] at hd;subst hd;exact nice_str
 have tup3:∀ {b:Nat} {s:String} {x y:D},nice b x→nice b y→nice (b + 1) (.tup [.str (Str.ofString s),x,y]):=fun {b s x y} hx hy=>nice_tup fun d hd=>by
  simp only [List.mem_cons,List.not_mem_nil,or_false] at hd
  rcases hd with rfl | rfl | rfl
  ·exact nice_str
  ·exact hx
  ·exact hy
 intro d
 induction d with
 | zero=>
  intro _ k lk t p hp
  cases lk with
  | one=>cases hp;exact one.mono (by decide)
  | two=>
   cases hp with
   | l h=>cases h;exact tup3 (nice_kd .one) one
   | r h=>cases h;exact tup3 (nice_kd .one) one
 | succ d ih=>
  intro hd k lk t p hp
  have x2:=X2 d
  cases hp with
  | one=>exact one.mono (by simp only [Xb];omega)
  | @l a b u p h=>
   have hb:=(lk.subs (c:=b) (by simp [Kd.subs])).nest
   exact (tup3 (b:=Xb d + d) ((nice_kd b).mono (by omega)) ((ih (by omega) a (lk.subs (by simp [Kd.subs])) _ _ h).mono (by omega))).mono (by simp only [Xb];omega)
  | @r a b u p h=>
   have hb:=(lk.subs (c:=a) (by simp [Kd.subs])).nest
   exact (tup3 (b:=Xb d + d) ((nice_kd a).mono (by omega)) ((ih (by omega) b (lk.subs (by simp [Kd.subs])) _ _ h).mono (by omega))).mono (by simp only [Xb];omega)
  | @both a b u v p q h1 h2=>
   exact (tup3 (ih (by omega) a (lk.subs (by simp [Kd.subs])) _ _ h1) (ih (by omega) b (lk.subs (by simp [Kd.subs])) _ _ h2)).mono (by simp only [Xb];omega)
  | @way a b row ps x h1 t1=>
   have la:=lk.subs (c:=a) (by simp [Kd.subs])
   have lb:=lk.subs (c:=b) (by simp [Kd.subs])
   have na:=la.nest
   have nb:=lb.nest
   have ra:=lv_rk (by omega) la
   have hps:=pls_nice (ih (by omega) b lb) h1
   have hx:=(tr_nice (d:=d) (X:=Xb d) (L:=d + 1) (W:=Xb d + d + 1) (g:=b) (by omega) (by omega) (by omega) (fun c lc=>ih (by omega) c lc) a.rk (asks:=[⟨0,[],a⟩]) (by simp [rks]) (fun q hq=>by
    rw [List.mem_singleton] at hq;subst hq
    exact ⟨la,lk_nil,by simpa using na⟩) (fun p hp=>(hps p hp).mono (by omega)) t1).1
   exact (tup3 (b:=rkb d + (Xb d + d + 1)) ((nice_kd a).mono (by omega)) (hx.mono (by omega))).mono (by simp only [Xb];omega)
section
variable {P:Prog} {G:Gs} (T:PKs P G)
include T
theorem sp_ptable {n:Nat} {st:Sto} {Q:DK} {k:Kd} {Γ:List Kd} {ta:Addr} {ts ps p':List D} {r:D} (hn:31≤n) (lk:Lv 3 k) (bk:k.bd 20) (hΓ:∀ c ∈ Γ,Lv 2 c∧c.bd 20) (hR:rks (nA Γ)≤200) (hta:st ta=some (.lst ts)) (hl:ts.length≤1000) (htm:∀ t ∈ ts,t ∈ k.things) (hp:Pls k ts ps) (t:Tr k Γ.length (nA Γ) ps r p') (q:∀ st',Kp [] st st'→Q r st'):sem P G (n + 1) "plain_table" [.tup (Γ.map Kd.d),k.d,.ref ta] st Q:=by
 obtain ⟨n,rfl⟩:∃ m,n=m + 1:=⟨n - 1,by omega⟩
 refine sem_in T.pltab rfl [some (.tup (Γ.map Kd.d)),some k.d,some (.ref ta)] rfl ?_
 unfold d_plain_table_k61
 walk_at "es"
 refine ⟨by rw [T.asking];rfl,_,.inl hta,by omega,?_⟩
 have hpl:=hp.len
 refine comp_inv (fun l acc env' st'=>∃ (pre suf:List D) (x:Option D),ps=pre++suf∧Pls k l suf∧(∀ t ∈ l,t ∈ k.things)∧acc=pre∧env'=[some k.d,x]∧Kp [] st st') ?_ ?_ _ _ _ _ ⟨[],ps,none,rfl,hp,htm,rfl,rfl,Kp.refl⟩
 ·rintro acc env' st' ⟨pre,suf,x,e,hs,_,rfl,rfl,K⟩
  cases hs
  rw [List.append_nil] at e
  subst e
  refine ⟨.inl (K.at' hta (by simp)),fun p hp=>?_⟩
  refine sp_asking T (m:=2) (by omega) (fun c lc bc t p ht hp m hm=>plt_all T 2 (by omega) c lc bc t p ht hp m (by omega)) (fun c hc=>⟨(hΓ c hc).2,(hΓ c hc).1,by have:=(hΓ c hc).1.nest;omega⟩) hR updS_same (by omega) t fun st2 K2=>EndQ_rt (q st2 ((K.new hp).trans K2))
 ·rintro d ds acc env' st' ih ⟨pre,suf,x,e,hs,hm,rfl,rfl,K⟩
  refine ⟨.inl (K.at' hta (by simp)),?_⟩
  cases hs with
  | @cons _ _ p _ suf h1 hs=>
  walk_at "ek"
  exact ⟨by rw [T.plt];rfl,plt_all T 3 (by omega) k lk bk _ _ (hm _ (by simp)) h1 _ (by omega) _ _ fun st2 K2=>ih _ _ _ ⟨_,suf,_,by rw [e,List.append_assoc];rfl,hs,fun t ht=>hm t (by simp [ht]),rfl,rfl,K.trans K2⟩⟩
end
theorem trInj:∀ (n:Nat) {asks:List Ask} (hn:rks asks≤n) {g:Kd} {dp:Nat} {ps qs p1 q1:List D} {x:D},Tr g dp asks ps x p1→Tr g dp asks qs x q1→∃ c,ps=c++p1∧qs=c++q1:=by
 intro n
 induction n with
 | zero=>
  intro asks hn g dp ps qs p1 q1 x t u
  cases asks with
  | nil=>cases t;cases u;exact ⟨[x],rfl,rfl⟩
  | cons q r=>rw [rks_cons] at hn;have:=rk_pos q.k;omega
 | succ n ih=>
  intro asks hn g dp ps qs p1 q1 x t u
  cases asks with
  | nil=>cases t;cases u;exact ⟨[x],rfl,rfl⟩
  | cons q r=>
   obtain ⟨lv,ls,k⟩:=q
   rw [rks_cons] at hn
   have pk:=rk_pos k
   simp only at hn
   by_cases hm:k.mute=true
   ·exact ih (by omega) (unmute k hm t) (unmute k hm u)
   cases t with
   | mute h _=>exact absurd h hm
   | non=>cases u with
    | mute h _=>exact absurd h hm
    | non=>exact ⟨[],rfl,rfl⟩
   | @eith _ a b _ _ _ _ _ _ _ _ _ t1 t2=>cases u with
    | mute h _=>exact absurd h hm
    | eith u1 u2=>
     simp only [Kd.rk] at hn
     obtain ⟨c1,rfl,rfl⟩:=ih (by rw [rks_cons];simp only;omega) t1 u1
     obtain ⟨c2,rfl,rfl⟩:=ih (by rw [rks_cons];simp only;omega) t2 u2
     exact ⟨c1++c2,by rw [List.append_assoc],by rw [List.append_assoc]⟩
   | @both _ a b _ _ _ _ _ _ _ t1=>cases u with
    | mute h _=>exact absurd h hm
    | both u1=>
     simp only [Kd.rk] at hn
     exact ih (by rw [rks_cons,rks_cons];simp only;omega) t1 u1
   | @way _ a b _ _ _ _ gs _ _ _ g1 t1=>cases u with
    | mute h _=>exact absurd h hm
    | way g2 u1=>
     have e:=plsDet (plDet _ a (Nat.le_refl _)) g1 g2
     subst e
     simp only [Kd.rk] at hn
     have hl:=g1.len
     rw [things_len] at hl
     exact ih (by rw [rks_app,rks_rep,← hl];omega) t1 u1
theorem plsInj {k:Kd} (h:∀ t u p,Pl k t p→Pl k u p→t=u):∀ {ts us ps:List D},Pls k ts ps→Pls k us ps→ts=us
 | _,_,[],a,b=>by cases a;cases b;rfl
 | _,_,p::ps,a,b=>by
  cases a with
  | cons a1 a2=>cases b with
   | cons b1 b2=>rw [h _ _ _ a1 b1,plsInj h a2 b2]
theorem plInj:∀ (n:Nat) (k:Kd),k.size≤n→∀ t u p,Pl k t p→Pl k u p→t=u:=by
 intro n
 induction n with
 | zero=>intro k h;have:=size_subs k;omega
 | succ n ih=>
  intro k hk t u p hp hq
  have sub:∀ c ∈ k.subs,∀ t u p,Pl c t p→Pl c u p→t=u:=fun c hc=>ih c (by have:=size_subs k;have:=sum_mem Kd.size hc;omega)
  cases hp with
  | one=>cases hq;rfl
  | l a=>cases hq with | l b=>rw [sub _ (by simp [Kd.subs]) _ _ _ a b]
  | r a=>cases hq with | r b=>rw [sub _ (by simp [Kd.subs]) _ _ _ a b]
  | both a c=>cases hq with | both b d=>rw [sub _ (by simp [Kd.subs]) _ _ _ a b,sub _ (by simp [Kd.subs]) _ _ _ c d]
  | @way a b row ps x h1 t1=>cases hq with
   | way h2 t2=>
    obtain ⟨c,e1,e2⟩:=trInj _ (Nat.le_refl _) t1 t2
    rw [List.append_nil] at e1 e2
    subst e1;subst e2
    rw [plsInj (sub b (by simp [Kd.subs])) h1 h2]
noncomputable def dr:Kd→D→D
 | .eith a b,d=>match d with
  | .tup [.str s,t]=>.tup [.str s,if s="l" then dr a t else dr b t]
  | d=>d
 | .both a b,d=>match d with
  | .tup [w,t,u]=>.tup [w,dr a t,dr b u]
  | d=>d
 | .way a b,d=>match d with
  | .tup [w,.tup row]=>.tup [w,a.d,.tup (row.map fun g=>dr b g)]
  | d=>d
 | _,d=>d
theorem dr_l {a b:Kd} {t:D}:dr (.eith a b) (.tup [.str "l",t])=.tup [.str "l",dr a t]:=by simp [dr]
theorem dr_r {a b:Kd} {t:D}:dr (.eith a b) (.tup [.str "r",t])=.tup [.str "r",dr b t]:=by simp [dr,ofString_inj]
theorem dr_p {a b:Kd} {t u:D}:dr (.both a b) (.tup [.str "p",t,u])=.tup [.str "p",dr a t,dr b u]:=by simp [dr]
theorem dr_w {a b:Kd} {row:List D}:dr (.way a b) (.tup [.str "w",.tup row])=.tup [.str "w",a.d,.tup (row.map (dr b))]:=by simp [dr]
theorem dr_lit:∀ (k:Kd) (t:D),t ∈ k.things→(dr k t).lit=true
 | .non,t,h=>by simp [Kd.things] at h
 | .one,t,h=>by simp only [Kd.things,List.mem_singleton] at h;subst h;rfl
 | .eith a b,t,h=>by
  simp only [Kd.things,List.mem_append,List.mem_map] at h
  rcases h with ⟨u,hu,rfl⟩ | ⟨u,hu,rfl⟩
  ·rw [dr_l,lit_tup,lits_cons,lits_cons,lits_nil,lit_ofString,dr_lit a u hu];rfl
  ·rw [dr_r,lit_tup,lits_cons,lits_cons,lits_nil,lit_ofString,dr_lit b u hu];rfl
 | .both a b,t,h=>by
  simp only [Kd.things,List.mem_flatMap,List.mem_map] at h
  obtain ⟨u,hu,v,hv,rfl⟩:=h
  rw [dr_p,lit_tup,lits_cons,lits_cons,lits_cons,lits_nil,lit_ofString,dr_lit a u hu,dr_lit b v hv];rfl
 | .way a b,t,h=>by
  simp only [Kd.things,List.mem_map] at h
  obtain ⟨row,hr,rfl⟩:=h
  have rm:=(rows_mem _ _ _ hr).2
  have e:D.lits (row.map (dr b))=true:=lits_all.mpr fun d hd=>by
   obtain ⟨g,hg,rfl⟩:=List.mem_map.mp hd
   exact dr_lit b g (rm g hg)
  rw [dr_w,lit_tup,lits_cons,lits_cons,lits_cons,lits_nil,lit_ofString,(nice_kd a).1,lit_tup,e];rfl
structure PK62 (P:Prog) (G:Gs):Prop extends PKs P G where
 dressed:P "_law_dressed"=some d_law_dressed_k62
 bare:P "_law_bare"=some d_law_bare_k62
 told:P "_law_told"=some d_law_told_k62
 table:P "_law_table"=some d_law_table_k62
section
variable {P:Prog} {G:Gs} (T:PK62 P G)
include T
theorem sp_dressed:∀ (k:Kd) (t:D),k.bd 100→t ∈ k.things→∀ {n:Nat} {st:Sto} {Q:DK},k.nest + 1≤n→(∀ st',Kp [] st st'→Q (dr k t) st')→sem P G n "_law_dressed" [k.d,t] st Q:=by
 intro k
 induction k with
 | non=>intro t _ ht;simp [Kd.things] at ht
 | one=>
  intro t _ ht n st Q hn q
  simp only [Kd.things,List.mem_singleton] at ht
  subst ht
  obtain ⟨n,rfl⟩:∃ m,n=m + 1:=⟨n - 1,by omega⟩
  refine sem_in T.dressed rfl [some Kd.one.d,some (.tup [])] rfl ?_
  unfold d_law_dressed_k62
  simp only [Kd.d]
  walk_at "es"
  walk_at "es"
  walk_at "es"
  walk_at "es"
  exact EndQ_rt (q st Kp.refl)
 | eith a b iha ihb=>
  intro t bk ht n st Q hn q
  simp only [Kd.nest] at hn
  obtain ⟨n,rfl⟩:∃ m,n=m + 1:=⟨n - 1,by omega⟩
  refine sem_in T.dressed rfl [some (Kd.eith a b).d,some t] rfl ?_
  unfold d_law_dressed_k62
  simp only [Kd.d]
  simp only [Kd.things,List.mem_append,List.mem_map] at ht
  rcases ht with ⟨u,hu,rfl⟩ | ⟨u,hu,rfl⟩
  ·rw [dr_l] at q
   walk_at "es"
   walk_at "es"
   exact ⟨by rw [T.dressed];rfl,a.d,rfl,iha u bk.1 hu (by omega) fun st1 K1=>EndQ_rt (q st1 K1)⟩
  ·rw [dr_r] at q
   walk_at "es"
   walk_at "es"
   exact ⟨by rw [T.dressed];rfl,b.d,rfl,ihb u bk.2.1 hu (by omega) fun st1 K1=>EndQ_rt (q st1 K1)⟩
 | both a b iha ihb=>
  intro t bk ht n st Q hn q
  simp only [Kd.nest] at hn
  obtain ⟨n,rfl⟩:∃ m,n=m + 1:=⟨n - 1,by omega⟩
  refine sem_in T.dressed rfl [some (Kd.both a b).d,some t] rfl ?_
  unfold d_law_dressed_k62
  simp only [Kd.d]
  simp only [Kd.things,List.mem_flatMap,List.mem_map] at ht
  obtain ⟨u,hu,v,hv,rfl⟩:=ht
  rw [dr_p] at q
  walk_at "es"
  walk_at "es"
  walk_at "es"
  exact ⟨by rw [T.dressed];rfl,iha u bk.1 hu (by omega) fun st1 K1=>⟨by rw [T.dressed];rfl,ihb v bk.2.1 hv (by omega) fun st2 K2=>EndQ_rt (q st2 (K1.trans K2))⟩⟩
 | way a b iha ihb=>
  intro t bk ht n st Q hn q
  simp only [Kd.nest] at hn
  obtain ⟨n,rfl⟩:∃ m,n=m + 1:=⟨n - 1,by omega⟩
  refine sem_in T.dressed rfl [some (Kd.way a b).d,some t] rfl ?_
  unfold d_law_dressed_k62
  simp only [Kd.d]
  simp only [Kd.things,List.mem_map] at ht
  obtain ⟨row,hr,rfl⟩:=ht
  obtain ⟨rl,rm⟩:=rows_mem _ _ _ hr
  have tl:=things_len a
  have ca:=Kd.bd_le bk.1
  rw [dr_w] at q
  walk_at "es"
  walk_at "es"
  walk_at "es"
  walk_at "es"
  refine ⟨by omega,?_⟩
  refine comp_inv (fun l acc env' st'=>∃ (pre:List D) (x:Option D),row=pre++l∧acc=pre.map (dr b)∧env'=[some (.tup [.str "way",a.d,b.d]),x]∧Kp [] st st') ?_ ?_ _ _ _ _ ⟨[],none,rfl,rfl,rfl,Kp.refl⟩
  ·rintro acc env' st' ⟨pre,x,e,rfl,rfl,K⟩
   rw [List.append_nil] at e
   subst e
   refine ⟨trivial,fun p hp=>?_⟩
   walk_at "ek"
   exact EndQ_rt (q _ (K.new hp))
  ·rintro d ds acc env' st' ih ⟨pre,x,e,rfl,rfl,K⟩
   refine ⟨trivial,?_⟩
   walk_at "ek"
   exact ⟨by rw [T.dressed];rfl,ihb d bk.2.1 (rm d (by rw [e];simp)) (by omega) fun st2 K2=>ih _ _ _ ⟨pre++[d],_,by rw [e];simp,by simp,rfl,K.trans K2⟩⟩
theorem sp_bare:∀ (k:Kd) (t:D),k.bd 100→t ∈ k.things→∀ {n:Nat} {st:Sto} {Q:DK},k.nest + 1≤n→(∀ st',Kp [] st st'→Q t st')→sem P G n "_law_bare" [dr k t] st Q:=by
 have emp:∀ {x:D} {st:Sto} {Q:DK},x.lit=true→∀ b:Bool,(b=true ↔ x=.tup [])→Q (.bl b) st→cmpR .Eq x (.tup []) st Q:=fun {x st Q} hx b hb q=>by
  rw [eq_dd]
  refine ⟨lit_pure x hx,rfl,?_,?_⟩
  ·have:Nat.min (dpth x) (dpth (.tup []))≤dpth (.tup []):=Nat.min_le_right _ _
   have:dpth (.tup [])=1:=by rw [dp_tup];rfl
   omega
  ·have e:deq x (.tup [])=b:=by
    by_cases hx2:x=.tup []
    ·rw [hb.mpr hx2,hx2];exact deq_litT rfl
    ·cases b with
     | true=>exact absurd (hb.mp rfl) hx2
     | false=>exact deq_litF hx rfl hx2
   rw [e];exact q
 intro k
 induction k with
 | non=>intro t _ ht;simp [Kd.things] at ht
 | one=>
  intro t _ ht n st Q hn q
  simp only [Kd.things,List.mem_singleton] at ht
  subst ht
  obtain ⟨n,rfl⟩:∃ m,n=m + 1:=⟨n - 1,by omega⟩
  refine sem_in T.bare rfl [some (.tup [])] rfl ?_
  unfold d_law_bare_k62
  walk_at "es"
  refine emp rfl true (by simp) ⟨_,rfl,?_⟩
  rw [if_pos rfl]
  walk_at "es"
  exact EndQ_rt (q st Kp.refl)
 | eith a b iha ihb=>
  intro t bk ht n st Q hn q
  simp only [Kd.nest] at hn
  have hlit:=dr_lit _ t ht
  obtain ⟨n,rfl⟩:∃ m,n=m + 1:=⟨n - 1,by omega⟩
  refine sem_in T.bare rfl [some (dr (.eith a b) t)] rfl ?_
  unfold d_law_bare_k62
  simp only [Kd.things,List.mem_append,List.mem_map] at ht
  rcases ht with ⟨u,hu,rfl⟩ | ⟨u,hu,rfl⟩
  ·rw [dr_l] at hlit ⊢
   walk_at "es"
   refine emp hlit false (by simp) ⟨_,rfl,?_⟩
   rw [if_neg (by decide)]
   walk_at "es"
   walk_at "es"
   have e1:cutD [D.str (Str.ofString "l"),dr a u] (some 1) none=[dr a u]:=by rw [show (1:Int)=((1:Nat):Int) from rfl,cut_from];rfl
   have e2:cutD [D.str (Str.ofString "l"),dr a u] none (some 1)=[.str "l"]:=by rw [show (1:Int)=((1:Nat):Int) from rfl,cut_to];rfl
   rw [e1,e2]
   refine ⟨by simp [HT.sIx],by simp [HT.sIx],by simp,?_⟩
   rw [comp_cons,bind_n]
   refine ⟨trivial,?_⟩
   walk_at "ek"
   refine ⟨by rw [T.bare];rfl,_,rfl,iha u bk.1 hu (by omega) fun st1 K1=>?_⟩
   rw [comp_nil]
   exact ⟨trivial,fun p hp=>⟨szLine (by simp),EndQ_rt (q _ (K1.new hp))⟩⟩
  ·rw [dr_r] at hlit ⊢
   walk_at "es"
   refine emp hlit false (by simp) ⟨_,rfl,?_⟩
   rw [if_neg (by decide)]
   walk_at "es"
   walk_at "es"
   have e1:cutD [D.str (Str.ofString "r"),dr b u] (some 1) none=[dr b u]:=by rw [show (1:Int)=((1:Nat):Int) from rfl,cut_from];rfl
   have e2:cutD [D.str (Str.ofString "r"),dr b u] none (some 1)=[.str "r"]:=by rw [show (1:Int)=((1:Nat):Int) from rfl,cut_to];rfl
   rw [e1,e2]
   refine ⟨by simp [HT.sIx],by simp [HT.sIx],by simp,?_⟩
   rw [comp_cons,bind_n]
   refine ⟨trivial,?_⟩
   walk_at "ek"
   refine ⟨by rw [T.bare];rfl,_,rfl,ihb u bk.2.1 hu (by omega) fun st1 K1=>?_⟩
   rw [comp_nil]
   exact ⟨trivial,fun p hp=>⟨szLine (by simp),EndQ_rt (q _ (K1.new hp))⟩⟩
 | both a b iha ihb=>
  intro t bk ht n st Q hn q
  simp only [Kd.nest] at hn
  have hlit:=dr_lit _ t ht
  obtain ⟨n,rfl⟩:∃ m,n=m + 1:=⟨n - 1,by omega⟩
  refine sem_in T.bare rfl [some (dr (.both a b) t)] rfl ?_
  unfold d_law_bare_k62
  simp only [Kd.things,List.mem_flatMap,List.mem_map] at ht
  obtain ⟨u,hu,v,hv,rfl⟩:=ht
  rw [dr_p] at hlit ⊢
  walk_at "es"
  refine emp hlit false (by simp) ⟨_,rfl,?_⟩
  rw [if_neg (by decide)]
  walk_at "es"
  walk_at "es"
  have e1:cutD [D.str (Str.ofString "p"),dr a u,dr b v] (some 1) none=[dr a u,dr b v]:=by rw [show (1:Int)=((1:Nat):Int) from rfl,cut_from];rfl
  have e2:cutD [D.str (Str.ofString "p"),dr a u,dr b v] none (some 1)=[.str "p"]:=by rw [show (1:Int)=((1:Nat):Int) from rfl,cut_to];rfl
  rw [e1,e2]
  refine ⟨by simp [HT.sIx],by simp [HT.sIx],by simp,?_⟩
  rw [comp_cons,bind_n]
  refine ⟨trivial,?_⟩
  walk_at "ek"
  refine ⟨by rw [T.bare];rfl,_,rfl,iha u bk.1 hu (by omega) fun st1 K1=>?_⟩
  rw [comp_cons,bind_n]
  refine ⟨trivial,?_⟩
  walk_at "ek"
  refine ⟨by rw [T.bare];rfl,_,rfl,ihb v bk.2.1 hv (by omega) fun st2 K2=>?_⟩
  rw [comp_nil]
  exact ⟨trivial,fun p hp=>⟨szLine (by simp),EndQ_rt (q _ ((K1.trans K2).new hp))⟩⟩
 | way a b iha ihb=>
  intro t bk ht n st Q hn q
  simp only [Kd.nest] at hn
  have hlit:=dr_lit _ t ht
  obtain ⟨n,rfl⟩:∃ m,n=m + 1:=⟨n - 1,by omega⟩
  refine sem_in T.bare rfl [some (dr (.way a b) t)] rfl ?_
  unfold d_law_bare_k62
  simp only [Kd.things,List.mem_map] at ht
  obtain ⟨row,hr,rfl⟩:=ht
  obtain ⟨rl,rm⟩:=rows_mem _ _ _ hr
  have tl:=things_len a
  have ca:=Kd.bd_le bk.1
  rw [dr_w] at hlit ⊢
  walk_at "es"
  refine emp hlit false (by simp) ⟨_,rfl,?_⟩
  rw [if_neg (by decide)]
  walk_at "es"
  walk_at "es"
  refine ⟨by rw [List.length_map];omega,?_⟩
  refine comp_inv (fun l acc env' st'=>∃ (pre suf:List D) (x:Option D),row=pre++suf∧l=suf.map (dr b)∧acc=pre∧env'=[x]∧Kp [] st st') ?_ ?_ _ _ _ _ ⟨[],row,none,rfl,rfl,rfl,rfl,Kp.refl⟩
  ·rintro acc env' st' ⟨pre,suf,x,e,el,rfl,rfl,K⟩
   have:suf=[]:=by simpa using el.symm
   subst this
   rw [List.append_nil] at e
   subst e
   refine ⟨trivial,fun p hp=>?_⟩
   walk_at "ek"
   exact EndQ_rt (q _ (K.new hp))
  ·rintro d ds acc env' st' ih ⟨pre,suf,x,e,el,rfl,rfl,K⟩
   refine ⟨trivial,?_⟩
   cases suf with
   | nil=>simp at el
   | cons g suf=>
    simp only [List.map_cons,List.cons.injEq] at el
    obtain ⟨rfl,rfl⟩:=el
    walk_at "ek"
    exact ⟨by rw [T.bare];rfl,ihb g bk.2.1 (rm g (by rw [e];simp)) (by omega) fun st2 K2=>ih _ _ _ ⟨_,suf,_,by rw [e,List.append_assoc];rfl,rfl,rfl,rfl,K.trans K2⟩⟩
end
noncomputable def Tells (P:Prog) (G:Gs) (N:Nat) (x:D) (row:List D) (v:D):Prop:=∀ n,N≤n→∀ st (Q:DK),(∀ st',Kp [] st st'→Q v st')→sem P G n "_law_told" [x,.tup row] st Q
theorem Tells.mono {P:Prog} {G:Gs} {N M:Nat} {x v:D} {row:List D} (h:Tells P G N x row v) (hl:N≤M):Tells P G M x row v:=fun n hn=>h n (Nat.le_trans hl hn)
theorem ix_left {st:Sto} {Q:DK} (q:Q (.str "l") st):ixR (.str "left") (.int 0) st Q:=by
 have e:Str.ofString "left"=⟨#[108,101,102,116]⟩:=by rw [ofString_cps];rfl
 have e2:Str.ofString "l"=⟨#[108]⟩:=by rw [ofString_cps];rfl
 rw [e2] at q
 rw [e]
 exact ⟨108,by decide,rfl,q⟩
theorem ix_right {st:Sto} {Q:DK} (q:Q (.str "r") st):ixR (.str "right") (.int 0) st Q:=by
 have e:Str.ofString "right"=⟨#[114,105,103,104,116]⟩:=by rw [ofString_cps];rfl
 have e2:Str.ofString "r"=⟨#[114]⟩:=by rw [ofString_cps];rfl
 rw [e2] at q
 rw [e]
 exact ⟨114,by decide,rfl,q⟩
section
variable {P:Prog} {G:Gs} (T:PK62 P G)
include T
theorem td_name {i:Nat} {row:List D} {v:D} (h:row[i]?=some v):Tells P G 1 (.tup [.str "name",.int i]) row v:=by
 intro n hn st Q q
 obtain ⟨n,rfl⟩:∃ m,n=m + 1:=⟨n - 1,by omega⟩
 refine sem_in T.told rfl [some (.tup [.str "name",.int i]),some (.tup row),none,none,none] rfl ?_
 unfold d_law_told_k62
 walk_at "es"
 walk_at "es"
 walk_at "es"
 exact ⟨v,by rw [at_nat];exact h,EndQ_rt (q st Kp.refl)⟩
theorem td_star {row:List D}:Tells P G 1 (.tup [.str "star"]) row (.tup []):=by
 intro n hn st Q q
 obtain ⟨n,rfl⟩:∃ m,n=m + 1:=⟨n - 1,by omega⟩
 refine sem_in T.told rfl [some (.tup [.str "star"]),some (.tup row),none,none,none] rfl ?_
 unfold d_law_told_k62
 walk_at "es"
 walk_at "es"
 walk_at "es"
 walk_at "es"
 exact EndQ_rt (q st Kp.refl)
theorem td_pair {N:Nat} {x y v w:D} {row:List D} (hx:Tells P G N x row v) (hy:Tells P G N y row w):Tells P G (N + 1) (.tup [.str "pair",x,y]) row (.tup [.str "p",v,w]):=by
 intro n hn st Q q
 obtain ⟨n,rfl⟩:∃ m,n=m + 1:=⟨n - 1,by omega⟩
 refine sem_in T.told rfl [some (.tup [.str "pair",x,y]),some (.tup row),none,none,none] rfl ?_
 unfold d_law_told_k62
 walk_at "es"
 walk_at "es"
 walk_at "es"
 walk_at "es"
 walk_at "es"
 exact ⟨by rw [T.told];rfl,hx n (by omega) _ _ fun st1 K1=>⟨by rw [T.told];rfl,hy n (by omega) _ _ fun st2 K2=>EndQ_rt (q st2 (K1.trans K2))⟩⟩
theorem td_left {N:Nat} {x v b:D} {row:List D} (hx:Tells P G N x row v):Tells P G (N + 1) (.tup [.str "left",b,x]) row (.tup [.str "l",v]):=by
 intro n hn st Q q
 obtain ⟨n,rfl⟩:∃ m,n=m + 1:=⟨n - 1,by omega⟩
 refine sem_in T.told rfl [some (.tup [.str "left",b,x]),some (.tup row),none,none,none] rfl ?_
 unfold d_law_told_k62
 walk_at "es"
 walk_at "es"
 walk_at "es"
 walk_at "es"
 walk_at "es"
 walk_at "es"
 exact ix_left ⟨by rw [T.told];rfl,hx n (by omega) _ _ fun st1 K1=>EndQ_rt (q st1 K1)⟩
theorem td_right {N:Nat} {x v b:D} {row:List D} (hx:Tells P G N x row v):Tells P G (N + 1) (.tup [.str "right",b,x]) row (.tup [.str "r",v]):=by
 intro n hn st Q q
 obtain ⟨n,rfl⟩:∃ m,n=m + 1:=⟨n - 1,by omega⟩
 refine sem_in T.told rfl [some (.tup [.str "right",b,x]),some (.tup row),none,none,none] rfl ?_
 unfold d_law_told_k62
 walk_at "es"
 walk_at "es"
 walk_at "es"
 walk_at "es"
 walk_at "es"
 walk_at "es"
 exact ix_right ⟨by rw [T.told];rfl,hx n (by omega) _ _ fun st1 K1=>EndQ_rt (q st1 K1)⟩
theorem td_first {N:Nat} {e v u w:D} {row:List D} (he:Tells P G N e row (.tup [w,v,u])):Tells P G (N + 1) (.tup [.str "first",e]) row v:=by
 intro n hn st Q q
 obtain ⟨n,rfl⟩:∃ m,n=m + 1:=⟨n - 1,by omega⟩
 refine sem_in T.told rfl [some (.tup [.str "first",e]),some (.tup row),none,none,none] rfl ?_
 unfold d_law_told_k62
 walk_at "es"
 walk_at "es"
 walk_at "es"
 walk_at "es"
 walk_at "es"
 walk_at "es"
 walk_at "es"
 refine ⟨by rw [T.told];rfl,he n (by omega) _ _ fun st1 K1=>?_⟩
 walk_at "es"
 walk_at "es"
 exact ⟨v,rfl,EndQ_rt (q st1 K1)⟩
theorem td_second {N:Nat} {e v u w:D} {row:List D} (he:Tells P G N e row (.tup [w,v,u])):Tells P G (N + 1) (.tup [.str "second",e]) row u:=by
 intro n hn st Q q
 obtain ⟨n,rfl⟩:∃ m,n=m + 1:=⟨n - 1,by omega⟩
 refine sem_in T.told rfl [some (.tup [.str "second",e]),some (.tup row),none,none,none] rfl ?_
 unfold d_law_told_k62
 walk_at "es"
 walk_at "es"
 walk_at "es"
 walk_at "es"
 walk_at "es"
 walk_at "es"
 walk_at "es"
 refine ⟨by rw [T.told];rfl,he n (by omega) _ _ fun st1 K1=>?_⟩
 walk_at "es"
 walk_at "es"
 exact ⟨u,rfl,EndQ_rt (q st1 K1)⟩
theorem td_case {N:Nat} {e x y v w:D} {s:String} {row:List D} (hr:row.length≤1000) (he:Tells P G N e row (.tup [.str s,v])) (hx:s="l"∧Tells P G N x (v::row) w ∨ s="r"∧Tells P G N y (v::row) w):Tells P G (N + 1) (.tup [.str "case",e,x,y]) row w:=by
 intro n hn st Q q
 obtain ⟨n,rfl⟩:∃ m,n=m + 1:=⟨n - 1,by omega⟩
 refine sem_in T.told rfl [some (.tup [.str "case",e,x,y]),some (.tup row),none,none,none] rfl ?_
 unfold d_law_told_k62
 walk_at "es"
 walk_at "es"
 walk_at "es"
 walk_at "es"
 walk_at "es"
 walk_at "es"
 walk_at "es"
 refine ⟨by rw [T.told];rfl,he n (by omega) _ _ fun st1 K1=>?_⟩
 walk_at "es"
 walk_at "es"
 walk_at "es"
 walk_at "es"
 rcases hx with ⟨rfl,hx⟩ | ⟨rfl,hx⟩
 ·exact ⟨by rw [T.told];rfl,x,rfl,szLine (by omega),hx n (by omega) _ _ fun st2 K2=>EndQ_rt (q st2 (K1.trans K2))⟩
 ·exact ⟨by rw [T.told];rfl,y,rfl,szLine (by omega),hx n (by omega) _ _ fun st2 K2=>EndQ_rt (q st2 (K1.trans K2))⟩
theorem td_give {N j:Nat} {e p t v:D} {a:Kd} {vs row:List D} (hN:a.nest + 2≤N) (ba:a.bd 100) (na:a.nest≤20) (he:Tells P G N e row (.tup [.str "w",a.d,.tup vs])) (hp:Tells P G N p row (dr a t)) (ht:a.things[j]?=some t) (hv:vs[j]?=some v):Tells P G (N + 1) (.tup [.str "give",e,p]) row v:=by
 intro n hn st Q q
 obtain ⟨n,rfl⟩:∃ m,n=m + 1:=⟨n - 1,by omega⟩
 refine sem_in T.told rfl [some (.tup [.str "give",e,p]),some (.tup row),none,none,none] rfl ?_
 unfold d_law_told_k62
 walk_at "es"
 walk_at "es"
 walk_at "es"
 walk_at "es"
 walk_at "es"
 walk_at "es"
 walk_at "es"
 refine ⟨by rw [T.told];rfl,he n (by omega) _ _ fun st1 K1=>?_⟩
 walk_at "es"
 walk_at "es"
 walk_at "es"
 walk_at "es"
 have hm:t ∈ a.things:=List.mem_of_getElem? ht
 refine ⟨by rw [T.lthings];rfl,sp_lth6 T.toPKs a (by omega) ba fun ta st2 hta0 hta K2=>?_⟩
 refine ⟨⟨_,.inl hta⟩,by rw [T.bare];rfl,by rw [T.told];rfl,hp n (by omega) _ _ fun st3 K3=>?_⟩
 refine sp_bare T a t ba hm (by omega) fun st4 K4=>?_
 refine idx_th ((K3.trans K4).at' hta (by simp)) na ht ?_
 walk_at "ek"
 exact ⟨v,by rw [at_nat];exact hv,EndQ_rt (q st4 (K1.trans (K2.trans (K3.trans K4))))⟩
theorem td_way {N:Nat} {x:D} {a:Kd} {vs row:List D} (hN:a.nest + 2≤N) (ba:a.bd 100) (hr:row.length≤1000) (hl:vs.length=a.things.length) (hx:∀ (j:Nat) t v,a.things[j]?=some t→vs[j]?=some v→Tells P G N x (dr a t::row) v):Tells P G (N + 1) (.tup [.str "way",a.d,x]) row (.tup [.str "w",a.d,.tup vs]):=by
 intro n hn st Q q
 obtain ⟨n,rfl⟩:∃ m,n=m + 1:=⟨n - 1,by omega⟩
 refine sem_in T.told rfl [some (.tup [.str "way",a.d,x]),some (.tup row),none,none,none] rfl ?_
 unfold d_law_told_k62
 have tl:=things_len a
 have ca:=Kd.bd_le ba
 walk_at "es"
 walk_at "es"
 walk_at "es"
 walk_at "es"
 walk_at "es"
 walk_at "es"
 walk_at "es"
 refine ⟨by rw [T.lthings];rfl,sp_lth6 T.toPKs a (by omega) ba fun ta st1 hta0 hta K1=>?_⟩
 walk_at "ek"
 refine ⟨_,.inl hta,by omega,?_⟩
 refine comp_inv (fun l acc env' st'=>∃ (pre:List D) (x2:Option D),a.things=pre++l∧acc=pre.map (dr a)∧env'=[some (.tup [.str "way",a.d,x]),x2]∧Kp [] st1 st') ?_ ?_ _ _ _ _ ⟨[],none,rfl,rfl,rfl,Kp.refl⟩
 ·rintro acc env' st2 ⟨pre,x2,e,rfl,rfl,K2⟩
  rw [List.append_nil] at e
  subst e
  refine ⟨.inl (K2.at' hta (by simp)),fun sa hsa=>?_⟩
  have K3:=(K1.trans K2).new (o:=.lst (a.things.map (dr a))) hsa
  walk_at "es"
  refine ⟨_,.inl updS_same,by rw [List.length_map];omega,?_⟩
  refine comp_inv (fun l acc env' st'=>∃ (pre suf vp vf:List D) (x2:Option D),a.things=pre++suf∧l=suf.map (dr a)∧vs=vp++vf∧vp.length=pre.length∧acc=vp∧env'=[some (.tup [.str "way",a.d,x]),some (.tup row),x2]∧Kp [] (updS st2 sa (.lst (a.things.map (dr a)))) st') ?_ ?_ _ _ _ _ ⟨[],a.things,[],vs,none,rfl,rfl,rfl,rfl,rfl,rfl,Kp.refl⟩
  ·rintro acc env' st4 ⟨pre,suf,vp,vf,x2,e,el,ev,hlp,rfl,rfl,K4⟩
   have:suf=[]:=by simpa using el.symm
   subst this
   rw [List.append_nil] at e
   have:vf=[]:=by
    have h1:=congrArg List.length ev
    rw [List.length_append,hl,e] at h1
    exact List.eq_nil_of_length_eq_zero (by omega)
   subst this
   rw [List.append_nil] at ev
   subst ev
   refine ⟨.inl (K4.at' updS_same (by simp)),fun p hp=>?_⟩
   walk_at "ek"
   exact EndQ_rt (q _ ((K3.trans K4).new hp))
  ·rintro d ds acc env' st4 ih ⟨pre,suf,vp,vf,x2,e,el,ev,hlp,rfl,rfl,K4⟩
   refine ⟨.inl (K4.at' updS_same (by simp)),?_⟩
   cases suf with
   | nil=>simp at el
   | cons t suf=>
    simp only [List.map_cons,List.cons.injEq] at el
    obtain ⟨rfl,rfl⟩:=el
    cases vf with
    | nil=>
     have h1:=congrArg List.length ev
     rw [List.append_nil,hl,e] at h1
     simp at h1
     omega
    | cons v vf=>
     walk_at "ek"
     refine ⟨by rw [T.told];rfl,szLine (by omega),hx pre.length t v (by rw [e];simp) (by rw [ev,← hlp];simp) n (by omega) _ _ fun st5 K5=>ih _ _ _ ⟨pre++[t],suf,_,vf,_,by rw [e];simp,rfl,by rw [ev,List.append_assoc];rfl,by simp [hlp],rfl,rfl,K4.trans K5⟩⟩
 ·rintro d ds acc env' st2 ih ⟨pre,x2,e,rfl,rfl,K2⟩
  refine ⟨.inl (K2.at' hta (by simp)),?_⟩
  walk_at "ek"
  exact ⟨by rw [T.dressed];rfl,sp_dressed T a d ba (by rw [e];simp) (by omega) fun st3 K3=>ih _ _ _ ⟨pre++[d],_,by rw [e];simp,by simp,rfl,K2.trans K3⟩⟩
end
inductive PathV (d:Nat) (k0:Kd) (v0:D):List Lk→Kd→D→Prop where
 | nil:PathV d k0 v0 [] k0 v0
 | fst {ls:List Lk} {a b:Kd} {t u:D}:PathV d k0 v0 ls (.both a b) (.tup [.str "p",t,u])→PathV d k0 v0 (ls++[.fst]) a t
 | snd {ls:List Lk} {a b:Kd} {t u:D}:PathV d k0 v0 ls (.both a b) (.tup [.str "p",t,u])→PathV d k0 v0 (ls++[.snd]) b u
 | giv {ls:List Lk} {a b:Kd} {row:List D} {t p v:D} {j:Nat}:PathV d k0 v0 ls (.way a b) (.tup [.str "w",.tup row])→Lv d a→a.bd 20→a.things[j]?=some t→Pl a t p→row[j]?=some v→PathV d k0 v0 (ls++[.giv p]) b v
noncomputable def Hold1 (d:Nat) (row:List D) (dp:Nat) (q:Ask) (v:D):Prop:=q.lv < dp∧∃ k0 v0,row[dp - 1 - q.lv]?=some (dr k0 v0)∧PathV d k0 v0 q.ls q.k v
noncomputable def Holds (d:Nat) (row:List D) (dp:Nat):List Ask→List D→Prop
 | [],[]=>True
 | q::r,v::l=>Hold1 d row dp q v∧Holds d row dp r l
 | _,_=>False
theorem Holds.app {d:Nat} {row:List D} {dp:Nat}:∀ {qs r:List Ask} {l m:List D},Holds d row dp qs l→Holds d row dp r m→Holds d row dp (qs++r) (l++m)
 | [],r,[],m,_,h=>h
 | [],r,v::l,m,h,_=>h.elim
 | q::qs,r,[],m,h,_=>h.elim
 | q::qs,r,v::l,m,h,h'=>⟨h.1,Holds.app h.2 h'⟩
theorem Holds.push {d:Nat} {row:List D} {dp:Nat} {x:D}:∀ {qs:List Ask} {l:List D},Holds d row dp qs l→Holds d (x::row) (dp + 1) qs l
 | [],[],_=>trivial
 | [],v::l,h=>h.elim
 | q::qs,[],h=>h.elim
 | q::qs,v::l,h=>by
  obtain ⟨⟨h1,k0,v0,h2,h3⟩,h4⟩:=h
  refine ⟨⟨by omega,k0,v0,?_,h3⟩,Holds.push h4⟩
  rw [show dp + 1 - 1 - q.lv=(dp - 1 - q.lv) + 1 by omega,List.getElem?_cons_succ]
  exact h2
theorem holds_map {d:Nat} {row:List D} {dp:Nat} {f:D→Ask}:∀ {gs vs:List D},gs.length=vs.length→(∀ (j:Nat) p v,gs[j]?=some p→vs[j]?=some v→Hold1 d row dp (f p) v)→Holds d row dp (gs.map f) vs
 | [],[],_,_=>trivial
 | [],v::vs,h,_=>by simp at h
 | p::gs,[],h,_=>by simp at h
 | p::gs,v::vs,h,hp=>⟨hp 0 p v rfl rfl,holds_map (by simpa using h) fun j p' v' h1 h2=>hp (j + 1) p' v' (by simpa using h1) (by simpa using h2)⟩
theorem Pls.at2 {k:Kd}:∀ {ts ps:List D} {i:Nat} {p:D},Pls k ts ps→ps[i]?=some p→∃ t,ts[i]?=some t∧Pl k t p
 | _,_,i,t,.nil,h=>by simp at h
 | _,_,0,t,.cons a b,h=>by simp at h;subst h;exact ⟨_,rfl,a⟩
 | _,_,i + 1,t,.cons a b,h=>by
  obtain ⟨p,h1,h2⟩:=b.at2 (by simpa using h)
  exact ⟨p,by simpa using h1,h2⟩
theorem Pls.drop {k:Kd}:∀ {ts ps:List D} (m:Nat),Pls k ts ps→Pls k (ts.drop m) (ps.drop m)
 | _,_,0,h=>by simpa using h
 | _,_,m + 1,.nil=>by simp;exact .nil
 | _,_,m + 1,.cons a b=>by simpa using b.drop m
theorem pls_ex {k:Kd}:∀ {ts:List D},(∀ t ∈ ts,∃ p,Pl k t p)→∃ ps,Pls k ts ps
 | [],_=>⟨[],.nil⟩
 | t::ts,h=>by
  obtain ⟨p,hp⟩:=h t (by simp)
  obtain ⟨ps,hps⟩:=pls_ex (ts:=ts) fun t ht=>h t (by simp [ht])
  exact ⟨p::ps,.cons hp hps⟩
noncomputable def PlS (P:Prog) (G:Gs) (N B:Nat) (c:Kd):Prop:=∀ t ∈ c.things,∃ p,Pl c t p∧∀ row:List D,row.length≤B→Tells P G N p row (dr c t)
theorem PlS.of {P:Prog} {G:Gs} {N B:Nat} {c:Kd} (h:PlS P G N B c) {t p:D} (ht:t ∈ c.things) (hp:Pl c t p) {row:List D} (hr:row.length≤B):Tells P G N p row (dr c t):=by
 obtain ⟨q,hq,h2⟩:=h t ht
 rw [plDet _ c (Nat.le_refl _) t p q hp hq]
 exact h2 row hr
section
variable {P:Prog} {G:Gs} (T:PK62 P G)
include T
theorem td_ex {d N B:Nat} {k0:Kd} {v0:D} (hd:d≤3) (hN:8≤N) (hA:∀ c,Lv d c→c.bd 20→PlS P G N B c) {ls:List Lk} {k:Kd} {v:D} (h:PathV d k0 v0 ls k v):∀ {i:Nat} {row:List D},row.length≤B→row[i]?=some (dr k0 v0)→Tells P G (N + ls.length + 1) (exD i ls) row (dr k v):=by
 induction h with
 | nil=>intro i row _ hi;exact (td_name T hi).mono (by omega)
 | @fst ls a b t u _ ih=>
  intro i row hr hi
  have h1:=ih hr hi
  rw [dr_p] at h1
  rw [exD_snoc,List.length_append]
  exact td_first T h1
 | @snd ls a b t u _ ih=>
  intro i row hr hi
  have h1:=ih hr hi
  rw [dr_p] at h1
  rw [exD_snoc,List.length_append]
  exact td_second T h1
 | @giv ls a b row0 t p v j _ la ba ht hp hv ih=>
  intro i row hr hi
  have h1:=ih hr hi
  rw [dr_w] at h1
  rw [exD_snoc,List.length_append]
  have na:=la.nest
  exact td_give T (by omega) (Kd.bd_mono (by decide) ba) (by omega) h1 (((hA a la ba).of (List.mem_of_getElem? ht) hp hr).mono (by omega)) ht (by rw [List.getElem?_map,hv];rfl)
theorem tr_sem {d N B:Nat} {g:Kd} (hd:d≤3) (hN:8≤N) (hB:B≤1000) (hA:∀ c,Lv d c→c.bd 20→PlS P G N B c) (hG:PlS P G N B g):∀ (n:Nat) {asks:List Ask},rks asks≤n→(∀ q ∈ asks,Lv d q.k∧q.k.bd 20∧q.ls.length + q.k.nest≤9)→∀ {dp:Nat} {ts ps:List D},Pls g ts ps→(∀ t ∈ ts,t ∈ g.things)→lns (asks.map (·.k))≤ts.length→∃ x,Tr g dp asks ps x (ps.drop (lns (asks.map (·.k))))∧∀ (row:List D) (i:Nat) (l:List D) (t:D),row.length + n≤B→(linesOf (asks.map (·.k)))[i]?=some l→Holds d row dp asks l→ts[i]?=some t→Tells P G (N + n + 10) x row (dr g t):=by
 have nil:∀ {n dp:Nat} {ts ps:List D},Pls g ts ps→(∀ t ∈ ts,t ∈ g.things)→1≤ts.length→∃ x,Tr g dp [] ps x (ps.drop 1)∧∀ (row:List D) (i:Nat) (l:List D) (t:D),row.length + n≤B→([[]]:List (List D))[i]?=some l→Holds d row dp [] l→ts[i]?=some t→Tells P G (N + n + 10) x row (dr g t):=fun {n dp ts ps} hp hm hl=>by
  cases hp with
  | nil=>simp at hl
  | @cons _ t p ts ps h1 h2=>
   refine ⟨p,.nil,fun row i l t' hr hi _ ht=>?_⟩
   cases i with
   | succ i=>simp at hi
   | zero=>
    simp at ht
    subst ht
    exact (hG.of (hm _ (by simp)) h1 (by omega)).mono (by omega)
 intro n
 induction n with
 | zero=>
  intro asks hn hq dp ts ps hp hm hl
  cases asks with
  | nil=>exact nil hp hm hl
  | cons q r=>rw [rks_cons] at hn;have:=rk_pos q.k;omega
 | succ n ih=>
  intro asks hn hq dp ts ps hp hm hl
  cases asks with
  | nil=>exact nil hp hm hl
  | cons q r=>
   obtain ⟨lv,ls,k⟩:=q
   obtain ⟨lk,bk,nk⟩:=hq ⟨lv,ls,k⟩ (by simp)
   have hr:∀ q ∈ r,Lv d q.k∧q.k.bd 20∧q.ls.length + q.k.nest≤9:=fun q h=>hq q (by simp [h])
   rw [rks_cons] at hn
   have pk:=rk_pos k
   simp only at hn lk bk nk
   rw [List.map_cons] at hl ⊢
   simp only at hl ⊢
   cases k with
   | non=>
    refine ⟨_,by rw [lns,Kd.cnt,Nat.zero_mul,List.drop_zero];exact .non,fun row i l t _ hi=>?_⟩
    simp [linesOf,Kd.things] at hi
   | one=>
    rw [lns,Kd.cnt,Nat.one_mul] at hl ⊢
    obtain ⟨x,h1,h2⟩:=ih (dp:=dp) (by omega) hr hp hm hl
    refine ⟨x,.mute rfl h1,fun row i l t hrow hi hh ht=>?_⟩
    simp only [linesOf,Kd.things,List.flatMap_cons,List.flatMap_nil,List.append_nil,List.getElem?_map,Option.map_eq_some_iff] at hi
    obtain ⟨l',hi,rfl⟩:=hi
    exact (h2 row i l' t (by omega) hi hh.2 ht).mono (by omega)
   | eith a b=>
    simp only [Kd.rk] at hn
    simp only [Kd.nest] at nk
    have hA1:∀ c ∈ (Kd.eith a b).subs,c.bd 20→c.nest≤9→∀ q ∈ (⟨dp,[],c⟩:Ask)::r,Lv d q.k∧q.k.bd 20∧q.ls.length + q.k.nest≤9:=fun c hc hb hl q hq=>by
     rcases List.mem_cons.mp hq with rfl | hq
     ·exact ⟨lk.subs' hc,hb,by simpa using hl⟩
     ·exact hr q hq
    obtain ⟨m1,em1⟩:∃ m,m=lns (a::r.map (·.k)):=⟨_,rfl⟩
    obtain ⟨m2,em2⟩:∃ m,m=lns (b::r.map (·.k)):=⟨_,rfl⟩
    have em:lns (.eith a b::r.map (·.k))=m1 + m2:=by rw [em1,em2,lns,lns,lns,Kd.cnt,Nat.add_mul]
    rw [em] at hl ⊢
    obtain ⟨x,h1,h2⟩:=ih (asks:=⟨dp,[],a⟩::r) (dp:=dp + 1) (by rw [rks_cons];simp only;omega) (hA1 a (by simp [Kd.subs]) bk.1 (by omega)) hp hm (by rw [List.map_cons,← em1];omega)
    obtain ⟨y,h3,h4⟩:=ih (asks:=⟨dp,[],b⟩::r) (dp:=dp + 1) (ts:=ts.drop m1) (ps:=ps.drop m1) (by rw [rks_cons];simp only;omega) (hA1 b (by simp [Kd.subs]) bk.2.1 (by omega)) (hp.drop m1) (fun t ht=>hm t (List.mem_of_mem_drop ht)) (by rw [List.map_cons,← em2,List.length_drop];omega)
    rw [List.map_cons] at h1 h2 h3 h4
    simp only [← em1] at h1
    simp only [← em2,List.drop_drop] at h3
    refine ⟨_,.eith h1 h3,fun row i l t hrow hi hh ht=>?_⟩
    have ll:(linesOf (a::r.map (·.k))).length=m1:=by rw [lines_len,em1]
    have step:∀ (s:String) (t':D) (l':List D) (c:Kd),l=.tup [.str s,t']::l'→dr (.eith a b) (.tup [.str s,t'])=.tup [.str s,dr c t']→Tells P G (N + n + 10) (exD (dp - 1 - lv) ls) row (.tup [.str s,dr c t'])∧Holds d (dr c t'::row) (dp + 1) (⟨dp,[],c⟩::r) (t'::l'):=fun s t' l' c el ed=>by
     subst el
     obtain ⟨⟨q1,k0,v0,q2,q3⟩,q4⟩:=hh
     have:=td_ex T hd hN hA q3 (i:=dp - 1 - lv) (row:=row) (by omega) q2
     rw [ed] at this
     refine ⟨this.mono (by simp only;omega),⟨⟨by simp,c,t',?_,.nil⟩,q4.push⟩⟩
     rw [show dp + 1 - 1 - dp=0 by omega];rfl
    rw [lines_eith] at hi
    by_cases hlt:i < m1
    ·rw [List.getElem?_append_left (by rw [List.length_map,ll];exact hlt),List.getElem?_map,Option.map_eq_some_iff] at hi
     obtain ⟨l1,hi,el⟩:=hi
     obtain ⟨t',l',rfl,_,_⟩:=lines_ne (List.mem_of_getElem? hi)
     obtain ⟨s1,s2⟩:=step "l" t' l' a el.symm dr_l
     have:=h2 _ i _ t (by simp only [List.length_cons];omega) hi s2 ht
     exact (td_case T (by omega) s1 (.inl ⟨rfl,this⟩)).mono (by omega)
    ·rw [List.getElem?_append_right (by rw [List.length_map,ll];omega),List.length_map,ll,List.getElem?_map,Option.map_eq_some_iff] at hi
     obtain ⟨l1,hi,el⟩:=hi
     obtain ⟨t',l',rfl,_,_⟩:=lines_ne (List.mem_of_getElem? hi)
     obtain ⟨s1,s2⟩:=step "r" t' l' b el.symm dr_r
     have:=h4 _ (i - m1) _ t (by simp only [List.length_cons];omega) hi s2 (by rw [List.getElem?_drop,show m1 + (i - m1)=i by omega];exact ht)
     exact (td_case T (by omega) s1 (.inr ⟨rfl,this⟩)).mono (by omega)
   | both a b=>
    simp only [Kd.rk] at hn
    simp only [Kd.nest] at nk
    have em:lns (.both a b::r.map (·.k))=lns (a::b::r.map (·.k)):=by simp only [lns,Kd.cnt,Nat.mul_assoc]
    rw [em] at hl ⊢
    obtain ⟨x,h1,h2⟩:=ih (asks:=⟨lv,ls++[.fst],a⟩::⟨lv,ls++[.snd],b⟩::r) (dp:=dp) (by rw [rks_cons,rks_cons];simp only;omega) (fun q hq=>by
     simp only [List.mem_cons] at hq
     rcases hq with rfl | rfl | hq
     ·exact ⟨lk.subs' (by simp [Kd.subs]),bk.1,by simp;omega⟩
     ·exact ⟨lk.subs' (by simp [Kd.subs]),bk.2.1,by simp;omega⟩
     ·exact hr q hq) hp hm hl
    refine ⟨x,.both h1,fun row i l t hrow hi hh ht=>?_⟩
    rw [lines_both,List.getElem?_map,Option.map_eq_some_iff] at hi
    obtain ⟨l1,hi,el⟩:=hi
    obtain ⟨t1,l2,rfl,_,h5⟩:=lines_ne (List.mem_of_getElem? hi)
    obtain ⟨t2,l3,rfl,_,_⟩:=lines_ne h5
    simp only [jnB] at el
    subst el
    obtain ⟨⟨q1,k0,v0,q2,q3⟩,q4⟩:=hh
    exact (h2 row i _ t (by omega) hi ⟨⟨q1,k0,v0,q2,.fst q3⟩,⟨q1,k0,v0,q2,.snd q3⟩,q4⟩ ht).mono (by omega)
   | way a b=>
    simp only [Kd.rk] at hn
    simp only [Kd.nest] at nk
    have la:Lv d a:=lk.subs' (by simp [Kd.subs])
    obtain ⟨gs,hgs⟩:=pls_ex (k:=a) (ts:=a.things) fun t ht=>(hA a la bk.1 t ht).imp fun p h=>h.1
    have hgl:=hgs.len
    have tl:=things_len a
    obtain ⟨m,em⟩:∃ m,m=a.things.length:=⟨_,rfl⟩
    have eks:((gs.map fun p=>(⟨lv,ls++[.giv p],b⟩:Ask))++r).map (·.k)=List.replicate m b++r.map (·.k):=by
     rw [List.map_append,List.map_map]
     congr 1
     rw [em,hgl]
     generalize gs=gl
     induction gl with
     | nil=>rfl
     | cons p gl ih=>rw [List.map_cons,ih,List.length_cons,List.replicate_succ];rfl
    have el1:lns (.way a b::r.map (·.k))=lns (List.replicate m b++r.map (·.k)):=by
     rw [← lines_len,lines_way,List.length_map,← em,lines_len]
    rw [el1] at hl ⊢
    obtain ⟨x,h1,h2⟩:=ih (asks:=(gs.map fun p=>⟨lv,ls++[.giv p],b⟩)++r) (dp:=dp) (by rw [rks_app,rks_rep,← hgl,tl];omega) (fun q hq=>by
     rcases List.mem_append.mp hq with hq | hq
     ·obtain ⟨p,_,rfl⟩:=List.mem_map.mp hq
      exact ⟨lk.subs' (by simp [Kd.subs]),bk.2.1,by simp;omega⟩
     ·exact hr q hq) hp hm (by rw [eks];exact hl)
    rw [eks] at h1 h2
    refine ⟨x,.way hgs h1,fun row i l t hrow hi hh ht=>?_⟩
    rw [lines_way,← em,List.getElem?_map,Option.map_eq_some_iff] at hi
    obtain ⟨l1,hi,el⟩:=hi
    have hll:=lines_length (List.mem_of_getElem? hi)
    rw [List.length_append,List.length_replicate] at hll
    simp only [jnW] at el
    subst el
    obtain ⟨⟨q1,k0,v0,q2,q3⟩,q4⟩:=hh
    refine (h2 row i l1 t (by omega) hi ?_ ht).mono (by omega)
    rw [← List.take_append_drop m l1]
    refine Holds.app (holds_map (by rw [List.length_take];omega) fun j p v hj1 hj2=>?_) q4
    obtain ⟨t',e1,e2⟩:=hgs.at2 hj1
    exact ⟨q1,k0,v0,q2,.giv q3 la bk.1 e1 e2 hj2⟩
end
noncomputable def tN:Nat→Nat
 | 0=>12
 | d + 1=>tN d + rkb d + 12
theorem PlS.mono {P:Prog} {G:Gs} {N M B C:Nat} {c:Kd} (h:PlS P G N B c) (hN:N≤M) (hB:C≤B):PlS P G M C c:=fun t ht=>by
 obtain ⟨p,h1,h2⟩:=h t ht
 exact ⟨p,h1,fun row hr=>(h2 row (by omega)).mono hN⟩
noncomputable def drow:List Kd→List D→List D
 | k::Γ,v::l=>dr k v::drow Γ l
 | _,_=>[]
theorem drow_len:∀ {Γ:List Kd} {l:List D},l.length=Γ.length→(drow Γ l).length=Γ.length
 | [],l,_=>by simp [drow]
 | k::Γ,[],h=>by simp at h
 | k::Γ,v::l,h=>by simp only [drow,List.length_cons];rw [drow_len (by simpa using h)]
theorem drow_snoc:∀ {Γ:List Kd} {l:List D} {k:Kd} {v:D},l.length=Γ.length→drow (Γ++[k]) (l++[v])=drow Γ l++[dr k v]
 | [],[],_,_,_=>rfl
 | [],v::l,_,_,h=>by simp at h
 | k::Γ,[],_,_,h=>by simp at h
 | k::Γ,v::l,_,_,h=>by simp only [List.cons_append,drow];rw [drow_snoc (by simpa using h)]
theorem holds_names {d:Nat}:∀ {Γ:List Kd} {l pre:List D} {dp:Nat},l.length=Γ.length→pre.length + Γ.length=dp→Holds d (pre++drow Γ l) dp (nA Γ) l
 | [],[],_,_,_,_=>trivial
 | [],v::l,_,_,h,_=>by simp at h
 | k::Γ,[],_,_,h,_=>by simp at h
 | k::Γ,v::l,pre,dp,h,hd=>by
  simp only [List.length_cons] at h hd
  refine ⟨⟨by simp only;omega,k,v,?_,.nil⟩,?_⟩
  ·simp only
   rw [show dp - 1 - Γ.length=pre.length by omega,drow]
   simp
  ·have:=holds_names (d:=d) (Γ:=Γ) (l:=l) (pre:=pre++[dr k v]) (dp:=dp) (by omega) (by simp;omega)
   rw [List.append_assoc] at this
   exact this
section
variable {P:Prog} {G:Gs} (T:PK62 P G)
include T
theorem pl_sem:∀ (d:Nat),d≤3→∀ k:Kd,Lv d k→k.bd 20→PlS P G (tN d) (1000 - 50 * d) k:=by
 have one:∀ {N B:Nat},1≤N→PlS P G N B .one:=fun {N B} hN t ht=>by
  simp only [Kd.things,List.mem_singleton] at ht
  subst ht
  exact ⟨_,.one,fun row _=>(td_star T).mono hN⟩
 intro d
 induction d with
 | zero=>
  intro _ k lk _
  cases lk with
  | one=>exact one (by decide)
  | two=>
   intro t ht
   simp only [Kd.things,List.map_cons,List.map_nil,List.cons_append,List.nil_append,List.mem_cons,List.not_mem_nil,or_false] at ht
   rcases ht with rfl | rfl
   ·refine ⟨_,.l .one,fun row _=>?_⟩
    rw [dr_l]
    exact (td_left T (td_star T)).mono (by decide)
   ·refine ⟨_,.r .one,fun row _=>?_⟩
    rw [dr_r]
    exact (td_right T (td_star T)).mono (by decide)
 | succ d ih=>
  intro hd k lk bk t ht
  have eN:tN (d + 1)=tN d + rkb d + 12:=rfl
  have hN8:8≤tN d:=by cases d <;> simp only [tN] <;> omega
  cases k with
  | non=>simp [Kd.things] at ht
  | one=>exact one (by omega) t ht
  | eith a b=>
   simp only [Kd.things,List.mem_append,List.mem_map] at ht
   rcases ht with ⟨u,hu,rfl⟩ | ⟨u,hu,rfl⟩
   ·obtain ⟨p,h1,h2⟩:=ih (by omega) a (lk.subs (by simp [Kd.subs])) bk.1 u hu
    refine ⟨_,.l h1,fun row hr=>?_⟩
    rw [dr_l]
    exact (td_left T (h2 row (by omega))).mono (by omega)
   ·obtain ⟨p,h1,h2⟩:=ih (by omega) b (lk.subs (by simp [Kd.subs])) bk.2.1 u hu
    refine ⟨_,.r h1,fun row hr=>?_⟩
    rw [dr_r]
    exact (td_right T (h2 row (by omega))).mono (by omega)
  | both a b=>
   simp only [Kd.things,List.mem_flatMap,List.mem_map] at ht
   obtain ⟨u,hu,v,hv,rfl⟩:=ht
   obtain ⟨p,h1,h2⟩:=ih (by omega) a (lk.subs (by simp [Kd.subs])) bk.1 u hu
   obtain ⟨p2,h3,h4⟩:=ih (by omega) b (lk.subs (by simp [Kd.subs])) bk.2.1 v hv
   refine ⟨_,.both h1 h3,fun row hr=>?_⟩
   rw [dr_p]
   exact (td_pair T (h2 row (by omega)) (h4 row (by omega))).mono (by omega)
  | way a b=>
   have la:Lv d a:=lk.subs (by simp [Kd.subs])
   have lb:Lv d b:=lk.subs (by simp [Kd.subs])
   have ra:=lv_rk (by omega) la
   have r2:rkb d≤29:=by unfold rkb;split <;> decide
   have na:=la.nest
   have tl:=things_len a
   simp only [Kd.things,List.mem_map] at ht
   obtain ⟨row0,hr0,rfl⟩:=ht
   obtain ⟨rl,rm⟩:=rows_mem _ _ _ hr0
   have hA:∀ c,Lv d c→c.bd 20→PlS P G (tN d) (1000 - 50 * d) c:=fun c lc bc=>ih (by omega) c lc bc
   obtain ⟨ps,hps⟩:=pls_ex (k:=b) (ts:=row0) fun t ht=>(hA b lb bk.2.1 t (rm t ht)).imp fun p h=>h.1
   have hpl:=hps.len
   have eln:lns ([(⟨0,[],a⟩:Ask)].map (·.k))=row0.length:=by simp [lns,rl,tl]
   obtain ⟨x,h1,h2⟩:=tr_sem T (d:=d) (g:=b) (by omega) hN8 (by omega) hA (hA b lb bk.2.1) a.rk (asks:=[⟨0,[],a⟩]) (by simp [rks]) (fun q hq=>by rw [List.mem_singleton] at hq;subst hq;exact ⟨la,bk.1,by simp;omega⟩) (dp:=1) hps rm (by omega)
   rw [eln,hpl,List.drop_length] at h1
   refine ⟨_,.way hps h1,fun row hr=>?_⟩
   rw [dr_w]
   refine (td_way T (N:=tN d + a.rk + 10) (by omega) (Kd.bd_mono (by decide) bk.1) (by omega) (by rw [List.length_map,rl]) fun j t v hj hv=>?_).mono (by omega)
   rw [List.getElem?_map,Option.map_eq_some_iff] at hv
   obtain ⟨u,hu,rfl⟩:=hv
   refine h2 (dr a t::row) j [t] u (by simp only [List.length_cons];omega) ?_ ⟨⟨Nat.zero_lt_one,a,t,rfl,.nil⟩,trivial⟩ hu
   have e:linesOf ([(⟨0,[],a⟩:Ask)].map (·.k))=a.things.map fun t=>[t]:=by
    simp only [List.map_cons,List.map_nil,linesOf]
    generalize a.things=l
    induction l with
    | nil=>rfl
    | cons t l ih=>rw [List.flatMap_cons,ih];rfl
   rw [e,List.getElem?_map,hj];rfl
theorem sp_table {n N:Nat} {st:Sto} {Q:DK} {g:Kd} {Γ:List Kd} {x:D} {ts:List D} (hn:N≤n) (hN:8≤N) (bg:g.bd 20) (ng:g.nest≤4) (hl:Γ.length≤3) (hk:∀ k ∈ Γ,Lv 2 k∧k.bd 12) (hb:∀ i,lns (Γ.take i)≤12) (hlen:ts.length=lns Γ) (hm:∀ t ∈ ts,t ∈ g.things) (hx:∀ (i:Nat) l t,(linesOf Γ)[i]?=some l→ts[i]?=some t→Tells P G N x (drow Γ l) (dr g t)) (q:∀ a st',st a=none→st' a=some (.lst ts)→Kp [] st st'→Q (.ref a) st'):sem P G (n + 1) "_law_table" [x,.tup (Γ.map Kd.d)] st Q:=by
 refine sem_in T.table rfl [some x,some (.tup (Γ.map Kd.d)),none,none,none] rfl ?_
 unfold d_law_table_k62
 have lG:lns Γ≤12:=by have:=hb Γ.length;rwa [List.take_length] at this
 have ll:=lines_len Γ
 walk_at "es"
 intro fa hfa
 walk_at "es"
 refine ⟨by rw [T.lrows];rfl,sp_lrows T.toPKs (by omega) hl hk hb fun ra st1 hra0 hra K1=>?_⟩
 have hfa1:=K1.at' (updS_same (st:=st) (a:=fa) (o:=.lst [])) (by simp)
 have hrf:ra ≠ fa:=fun z=>by rw [z,updS_same] at hra0;cases hra0
 have K01:Kp [] st st1:=(Kp.refl.new hfa).trans K1
 walk_at "ek"
 refine ⟨_,.inl hra,?_⟩
 refine for_inv (fun l env st'=>∃ (pre suf:List (List D)) (tp tf:List D) (x3 x4:Option D),linesOf Γ=pre++suf∧l=suf.map D.tup∧ts=tp++tf∧tp.length=pre.length∧env=[some x,some (.tup (Γ.map Kd.d)),some (.ref fa),x3,x4]∧st' fa=some (.lst tp)∧st' ra=some (.lst ((linesOf Γ).map D.tup))∧Kp [] st st') ?_ ?_ _ _ _ ⟨[],linesOf Γ,[],ts,none,none,rfl,rfl,rfl,rfl,rfl,hfa1,hra,K01⟩
 ·rintro env st' ⟨pre,suf,tp,tf,x3,x4,e,el,et,hp,rfl,hf,hr,K⟩
  refine ⟨.inl hr,?_⟩
  have:suf=[]:=by simpa using el.symm
  subst this
  rw [List.append_nil] at e
  have:tf=[]:=by
   have h1:=congrArg List.length et
   rw [List.length_append,hlen,hp,← e,ll] at h1
   exact List.eq_nil_of_length_eq_zero (by omega)
  subst this
  rw [List.append_nil] at et
  subst et
  walk_at "es"
  exact EndQ_rt (q fa st' hfa hf K)
 ·rintro d ds env st' ih ⟨pre,suf,tp,tf,x3,x4,e,el,et,hp,rfl,hf,hr,K⟩
  refine ⟨.inl hr,?_⟩
  cases suf with
  | nil=>simp at el
  | cons l suf=>
   simp only [List.map_cons,List.cons.injEq] at el
   obtain ⟨rfl,rfl⟩:=el
   have hlm:l ∈ linesOf Γ:=by rw [e];simp
   have hll:=lines_length hlm
   cases tf with
   | nil=>
    have h1:=congrArg List.length et
    rw [List.append_nil,hlen,hp,← ll,e] at h1
    simp at h1
   | cons t tf=>
    have htm:t ∈ g.things:=hm t (by rw [et];simp)
    have hT:=hx pre.length l t (by rw [e];simp) (by rw [et,← hp];simp)
    walk_at "ek"
    walk_at "es"
    refine ⟨_,_,rfl,rfl,?_⟩
    refine ⟨by simp only [zipD,List.length_map,List.length_zip];omega,?_⟩
    refine comp_inv (fun L acc env' st2=>∃ (Γp Γs:List Kd) (lp ls:List D) (x0 x1:Option D),Γ=Γp++Γs∧l=lp++ls∧lp.length=Γp.length∧ls ∈ linesOf Γs∧L=zipD (Γs.map Kd.d) ls∧acc=drow Γp lp∧env'=[x0,x1]∧Kp [] st' st2) ?_ ?_ _ _ _ _ ⟨[],Γ,[],l,none,none,rfl,rfl,rfl,hlm,rfl,rfl,rfl,Kp.refl⟩
    ·rintro acc env' st2 ⟨Γp,Γs,lp,ls,x0,x1,eΓ,eL,hlp,hls,eZ,rfl,rfl,K2⟩
     refine ⟨⟨rfl,rfl⟩,fun p hp2=>?_⟩
     have hls2:=lines_length hls
     have:Γs=[]:=by
      cases Γs with
      | nil=>rfl
      | cons k Γs=>cases ls with
       | nil=>simp at hls2
       | cons v ls=>simp [zipD] at eZ
     subst this
     have:ls=[]:=List.eq_nil_of_length_eq_zero hls2
     subst this
     rw [List.append_nil] at eΓ eL
     subst eΓ;subst eL
     have hf2:=keepNew (u:=.lst (drow Γ l)) (K2.at' hf (by simp)) hp2
     have hr2:=keepNew (u:=.lst (drow Γ l)) (K2.at' hr (by simp)) hp2
     have K3:=(K.trans K2).new (o:=.lst (drow Γ l)) hp2
     walk_at "es"
     rw [isLR_r (.inl hf2)]
     refine ⟨trivial,by rw [T.bare];rfl,by rw [T.told];rfl,hT n hn _ _ fun st4 K4=>?_⟩
     refine sp_bare T g t (Kd.bd_mono (by decide) bg) htm (by omega) fun st5 K5=>?_
     rw [app_r ((K4.trans K5).at' hf2 (by simp))]
     have htl:tp.length≤12:=by
      have h1:=congrArg List.length et
      rw [List.length_append,hlen] at h1
      omega
     refine ⟨szLt (by omega),?_⟩
     walk_at "ek"
     exact ih _ _ ⟨pre++[l],suf,tp++[t],tf,_,_,by rw [e];simp,rfl,by rw [et];simp,by simp [hp],rfl,updS_same,keepNe ((K4.trans K5).at' hr2 (by simp)) hrf,fun b u nb eb=>keepNe ((K3.trans (K4.trans K5)) b u nb eb) (neNew eb hfa)⟩
    ·rintro z zs acc env' st2 ihc ⟨Γp,Γs,lp,ls,x0,x1,eΓ,eL,hlp,hls,eZ,rfl,rfl,K2⟩
     refine ⟨⟨rfl,rfl⟩,?_⟩
     cases Γs with
     | nil=>simp [zipD] at eZ
     | cons k Γs=>
      obtain ⟨v,ls,rfl,hv,hls⟩:=lines_ne hls
      have hk2:=hk k (by rw [eΓ];simp)
      have nk:=hk2.1.nest
      simp only [zipD,List.map_cons,List.zip_cons_cons,List.cons.injEq] at eZ
      obtain ⟨rfl,rfl⟩:=eZ
      walk_at "ek"
      refine ⟨by rw [T.dressed];rfl,sp_dressed T k v (Kd.bd_mono (by decide) hk2.2) hv (by omega) fun st3 K3=>ihc _ _ _ ⟨Γp++[k],Γs,lp++[v],ls,_,_,by rw [eΓ];simp,by rw [eL];simp,by simp [hlp],hls,rfl,(drow_snoc hlp).symm,rfl,K2.trans K3⟩⟩
end
section
variable {P:Prog} {G:Gs} (T:PK62 P G)
include T
theorem tab_ex {k:Kd} {Γ:List Kd} {ts:List D} (lk:Lv 3 k) (bk:k.bd 20) (hl:Γ.length≤3) (hk:∀ c ∈ Γ,Lv 2 c∧c.bd 12) (hlen:ts.length=lns Γ) (hm:∀ t ∈ ts,t ∈ k.things):∃ ps x,Pls k ts ps∧Tr k Γ.length (nA Γ) ps x []∧nice 137 x∧∀ (i:Nat) l t,(linesOf Γ)[i]?=some l→ts[i]?=some t→Tells P G 184 x (drow Γ l) (dr k t):=by
 have hR:rks (nA Γ)≤87:=by
  have:=nA_rks (b:=29) (Γ:=Γ) fun c hc=>lv2 (hk c hc).1
  have:Γ.length * 29≤3 * 29:=Nat.mul_le_mul_right _ hl
  omega
 have hA:∀ c,Lv 2 c→c.bd 20→PlS P G (tN 3) 850 c:=fun c lc bc=>(pl_sem T 2 (by omega) c lc bc).mono (by decide) (by decide)
 have hG:PlS P G (tN 3) 850 k:=pl_sem T 3 (by omega) k lk bk
 obtain ⟨ps,hps⟩:=pls_ex (k:=k) (ts:=ts) fun t ht=>(hG t (hm t ht)).imp fun p h=>h.1
 have hpl:=hps.len
 obtain ⟨x,h1,h2⟩:=tr_sem T (d:=2) (g:=k) (by omega) (by decide) (by omega) hA hG 87 (asks:=nA Γ) hR (fun q hq=>by
  obtain ⟨m1,m2,_⟩:=nA_mem hq
  have l1:=hk _ m1
  have:=l1.1.nest
  exact ⟨l1.1,Kd.bd_mono (by decide) l1.2,by rw [m2];simp;omega⟩) (dp:=Γ.length) hps hm (by rw [nA_ks];omega)
 rw [nA_ks] at h1 h2
 rw [← hlen,hpl,List.drop_length] at h1
 have nk:=lk.nest
 have hnice:=(tr_nice (d:=2) (X:=Xb 2) (L:=3) (W:=Xb 3) (g:=k) (by decide) (by decide) (by have:Xb 3=50:=rfl;omega) (fun c lc=>pl_nice 2 (by omega) c lc) 87 (asks:=nA Γ) hR (fun q hq=>by
  obtain ⟨m1,m2,_⟩:=nA_mem hq
  have l1:=(hk _ m1).1
  have:=l1.nest
  exact ⟨l1,by rw [m2];exact lk_nil,by rw [m2];simpa using this⟩) (pls_nice (pl_nice 3 (by omega) k lk) hps) h1).1
 refine ⟨ps,x,hps,h1,hnice,fun i l t hi ht=>?_⟩
 have hll:=lines_length (List.mem_of_getElem? hi)
 have h3:=holds_names (d:=2) (Γ:=Γ) (l:=l) (pre:=[]) (dp:=Γ.length) hll (by simp)
 exact h2 (drow Γ l) i l t (by rw [drow_len hll];omega) hi h3 ht
theorem rest62B {n:Nat} (hn:200≤n + 2) {a da:Addr}:∀ (k:Kd) (sa ra:Addr) (Γ:List Kd) (st5:Sto),Lv 3 k→k.bd 20→2≤k.things.length→Γ.length≤3→(∀ c ∈ Γ,Lv 2 c∧c.bd 12)→(∀ i,lns (Γ.take i)≤12)→0 < lns Γ→sa ≠ da→ra ≠ da→st5 sa=some (.lst k.things)→st5 ra=some (.lst ((linesOf Γ).map D.tup))→Ints st5 da→wpSs (Zg P G (n + 1)) (d_law_k62.body.drop 7) (EndQ fun d _=>d=.bl true) [some (.ref a),some (.ref da),some k.d,some (.ref sa),some (.tup (Γ.map Kd.d)),some (.ref ra),none,none,none,none,none] st5:=by
 intro k sa ra Γ st5 lk bk h2 hΓl hΓ hb hpos hsd hrd hsa hra I5
 have nk:=lk.nest
 have tl:=things_len k
 have ck:=Kd.bd_le bk
 have lG:lns Γ≤12:=by have:=hb Γ.length;rwa [List.take_length] at this
 have ll:=lines_len Γ
 have hΓ20:∀ c ∈ Γ,Lv 2 c∧c.bd 20:=fun c hc=>⟨(hΓ c hc).1,Kd.bd_mono (by decide) (hΓ c hc).2⟩
 have hR:rks (nA Γ)≤87:=by
  have:=nA_rks (b:=29) (Γ:=Γ) fun c hc=>lv2 (hΓ c hc).1
  have:Γ.length * 29≤3 * 29:=Nat.mul_le_mul_right _ hΓl
  omega
 simp only [d_law_k62,Ss.drop]
 walk_at "es"
 refine ⟨_,.inl hra,by rw [List.length_map];omega,?_⟩
 refine comp_inv (fun l acc env' st'=>acc.length + l.length=lns Γ∧(∀ t ∈ acc,t ∈ k.things)∧(∃ x,env'=[some (.ref sa),some (.ref da),x])∧st' sa=some (.lst k.things)∧st' ra=some (.lst ((linesOf Γ).map D.tup))∧Ints st' da) ?_ ?_ _ _ _ _ ⟨by simp [ll],by simp,⟨none,rfl⟩,hsa,hra,I5⟩
 ·rintro one env' st6 ⟨hlen,hmem,_,hsa6,hra6,I6⟩
  refine ⟨.inl hra6,fun oa hoa=>?_⟩
  simp only [List.length_nil,Nat.add_zero] at hlen
  have I7:=I6.new (u:=.lst one) hoa
  have hod:oa ≠ da:=fun z=>I6.ne hoa z.symm
  have hsa7:=keepNew (u:=.lst one) hsa6 hoa
  have hra7:=keepNew (u:=.lst one) hra6 hoa
  walk_at "es"
  rw [len_r (.inl hra7)]
  rw [List.length_map]
  refine ⟨by rw [T.next];rfl,sp_next6 T.toPKs (by omega) I7 fun j st8 j0 j1 I8 K8=>?_⟩
  have hsa8:=K8.at' hsa7 (by simp;exact hsd)
  have hoa8:=K8.at' (updS_same (st:=st6) (a:=oa) (o:=.lst one)) (by simp;exact hod)
  clear hsa7 hra7 I7
  obtain ⟨j,rfl⟩:=Int.eq_ofNat_of_zero_le j0
  have hj:j < one.length:=by omega
  obtain ⟨t1,ht1⟩:∃ t,one[j]?=some t:=⟨_,List.getElem?_eq_getElem hj⟩
  have ht1m:t1 ∈ k.things:=hmem t1 (List.mem_of_getElem? ht1)
  obtain ⟨i1,hi1⟩:=List.mem_iff_getElem?.mp ht1m
  have hi1l:i1 < k.things.length:=(List.getElem?_eq_some_iff.mp hi1).1
  walk_at "es"
  rw [ix_rd (.inl hoa8)]
  refine ⟨⟨_,.inl hsa8⟩,t1,by rw [at_nat];exact ht1,idx_th hsa8 (by omega) hi1 ?_⟩
  walk_at "es"
  refine ⟨_,.inl hoa8,fun ob hob=>?_⟩
  have hsa9:=keepNew (u:=.lst one) hsa8 hob
  have hoa9:=keepNew (u:=.lst one) hoa8 hob
  have I9:=I8.new (u:=.lst one) hob
  have hbd:ob ≠ da:=fun z=>I8.ne hob z.symm
  have hbs:ob ≠ sa:=fun z=>by rw [z,hsa8] at hob;cases hob
  have hbo:ob ≠ oa:=fun z=>by rw [z,hoa8] at hob;cases hob
  walk_at "es"
  rw [len_r (.inl hsa9)]
  walk_at "ek"
  refine ⟨by rw [T.next];rfl,sp_next6 T.toPKs (by omega) I9 fun m st10 m0 m1 I10 K10=>?_⟩
  have hsa10:=K10.at' hsa9 (by simp;exact hsd)
  have hoa10:=K10.at' hoa9 (by simp;exact hod)
  have hob10:=K10.at' (updS_same (st:=st8) (a:=ob) (o:=.lst one)) (by simp;exact hbd)
  clear hsa9 hoa9 I9
  walk_at "ek"
  rw [len_r (.inl hsa10)]
  walk_at "ek"
  obtain ⟨i2,ei2,hi2l,hi2n⟩:∃ i2:Nat,((i1:Int) + 1 + m) % (k.things.length:Int)=i2∧i2 < k.things.length∧i2 ≠ i1:=by
   by_cases hlt:(i1:Int) + 1 + m < k.things.length
   ·refine ⟨((i1:Int) + 1 + m).toNat,?_,by omega,by omega⟩
    rw [Int.emod_eq_of_lt (by omega) hlt];omega
   ·refine ⟨((i1:Int) + 1 + m - k.things.length).toNat,?_,by omega,by omega⟩
    rw [show (i1:Int) + 1 + m=((i1:Int) + 1 + m - k.things.length) + k.things.length by omega,Int.add_emod_right,Int.emod_eq_of_lt (by omega) (by omega)];omega
  rw [ei2]
  refine ⟨by omega,?_⟩
  rw [ix_rd (.inl hsa10)]
  obtain ⟨t2,ht2⟩:∃ t,k.things[i2]?=some t:=⟨_,List.getElem?_eq_getElem hi2l⟩
  have ht2m:t2 ∈ k.things:=List.mem_of_getElem? ht2
  have hne:t1 ≠ t2:=fun z=>hi2n (nodup_inj (things_nodup k) i2 i1 t1 (by rw [z];exact ht2) hi1)
  refine ⟨t2,by rw [at_nat];exact ht2,ob,j,j,one,rfl,rfl,hob10,by simp [ixN];omega,?_⟩
  obtain ⟨other,eo⟩:∃ o,o=one.set j t2:=⟨_,rfl⟩
  rw [← eo]
  have hol:other.length=lns Γ:=by rw [eo,List.length_set];exact hlen
  have hoj:other[j]?=some t2:=by rw [eo,List.getElem?_set_self hj]
  have hom:∀ t ∈ other,t ∈ k.things:=fun t ht=>by
   rw [eo] at ht
   rcases List.mem_or_eq_of_mem_set ht with ht | rfl
   ·exact hmem t ht
   ·exact ht2m
  have hoa11:=keepNe (u:=.lst other) hoa10 hbo.symm
  have hob11:updS st10 ob (.lst other) ob=some (.lst other):=updS_same
  revert hoa11 hob11
  generalize updS st10 ob (.lst other)=st11
  intro hoa11 hob11
  clear hoa10 hob10 hsa10 I10
  obtain ⟨ps1,x1,p1,tr1,nx1,s1⟩:=tab_ex T lk bk hΓl hΓ hlen hmem
  obtain ⟨ps2,x2,p2,tr2,nx2,s2⟩:=tab_ex T lk bk hΓl hΓ hol hom
  have hxx:x1 ≠ x2:=fun z=>by
   subst z
   obtain ⟨c,e1,e2⟩:=trInj _ (Nat.le_refl _) tr1 tr2
   rw [List.append_nil] at e1 e2
   subst e1;subst e2
   have:=plsInj (plInj _ k (Nat.le_refl _)) p1 p2
   rw [this,hoj] at ht1
   exact hne (by cases ht1;rfl)
  have dmin:∀ {x y:D} {b:Nat},nice b x→b≤150→Nat.min (dpth x) (dpth y)≤150:=fun {x y b} hx hb=>by
   have:Nat.min (dpth x) (dpth y)≤dpth x:=Nat.min_le_left _ _
   have:=hx.2
   omega
  walk_at "es"
  refine ⟨by rw [T.pltab];rfl,⟨_,.inl hoa11,fun c1 hc1=>?_⟩⟩
  refine sp_ptable T.toPKs (by omega) lk bk hΓ20 (by omega) updS_same (by omega) hmem p1 tr1 fun st12 K12=>?_
  have K112:Kp [] st11 st12:=(Kp.refl.new hc1).trans K12
  refine ⟨by rw [T.pltab];rfl,⟨_,.inl (K112.at' hob11 (by simp)),fun c2 hc2=>?_⟩⟩
  refine sp_ptable T.toPKs (by omega) lk bk hΓ20 (by omega) updS_same (by omega) hom p2 tr2 fun st13 K13=>?_
  have K113:Kp [] st11 st13:=K112.trans ((Kp.refl.new hc2).trans K13)
  intro pa hpa
  have hoa14:=keepNew (u:=.lst [x1,x2]) (K113.at' hoa11 (by simp)) hpa
  have hob14:=keepNew (u:=.lst [x1,x2]) (K113.at' hob11 (by simp)) hpa
  have hpa14:updS st13 pa (.lst [x1,x2]) pa=some (.lst [x1,x2]):=updS_same
  revert hoa14 hob14 hpa14
  generalize updS st13 pa (.lst [x1,x2])=st14
  intro hoa14 hob14 hpa14
  walk_at "es"
  rw [ix_rd (.inl hpa14)]
  refine ⟨x1,rfl,?_⟩
  rw [ix_rd (.inl hpa14)]
  refine ⟨x2,rfl,?_⟩
  rw [eq_dd,deq_litF nx1.1 nx2.1 hxx]
  refine ⟨lit_pure _ nx1.1,lit_pure _ nx2.1,dmin nx1 (by decide),?_⟩
  walk_at "ek"
  rw [ix_rd (.inl hoa14)]
  obtain ⟨q1,hq1,_⟩:=pl_sem T 3 (by omega) k lk bk t1 ht1m
  obtain ⟨q2,hq2,_⟩:=pl_sem T 3 (by omega) k lk bk t2 ht2m
  have y1:=pl_nice 3 (by omega) k lk _ _ hq1
  have y2:=pl_nice 3 (by omega) k lk _ _ hq2
  have hqq:q1 ≠ q2:=fun z=>by subst z;exact hne (plInj _ k (Nat.le_refl _) _ _ _ hq1 hq2)
  refine ⟨by rw [T.plt];rfl,t1,by rw [at_nat];exact ht1,plt_all T.toPKs 3 (by omega) k lk bk t1 q1 ht1m hq1 _ (by omega) _ _ fun st15 K15=>?_⟩
  rw [ix_rd (.inl (K15.at' hob14 (by simp)))]
  refine ⟨by rw [T.plt];rfl,t2,by rw [at_nat];exact hoj,plt_all T.toPKs 3 (by omega) k lk bk t2 q2 ht2m hq2 _ (by omega) _ _ fun st16 K16=>?_⟩
  rw [eq_dd,deq_litF y1.1 y2.1 hqq]
  refine ⟨lit_pure _ y1.1,lit_pure _ y2.1,dmin y1 (by decide),?_⟩
  have K1416:=K15.trans K16
  have hoa16:=K1416.at' hoa14 (by simp)
  have hob16:=K1416.at' hob14 (by simp)
  have hpa16:=K1416.at' hpa14 (by simp)
  walk_at "ek"
  walk_at "es"
  refine ⟨_,.inl hpa16,by simp,?_⟩
  rw [comp_cons,bind_n]
  refine ⟨.inl hpa16,?_⟩
  walk_at "ek"
  refine ⟨by rw [T.table];rfl,x1,rfl,_,rfl,?_⟩
  have h184:184≤n:=by omega
  refine sp_table T (N:=184) h184 (by decide) bk (by omega) hΓl hΓ hb hlen hmem s1 fun r1 st17 hr10 hr1 K17=>?_
  rw [comp_cons,bind_n]
  refine ⟨.inl (K17.at' hpa16 (by simp)),?_⟩
  walk_at "ek"
  refine ⟨by rw [T.table];rfl,x2,rfl,_,rfl,?_⟩
  refine sp_table T (N:=184) h184 (by decide) bk (by omega) hΓl hΓ hb hol hom s2 fun r2 st18 hr20 hr2 K18=>?_
  rw [comp_nil]
  have K1618:=K17.trans K18
  refine ⟨.inl (K1618.at' hpa16 (by simp)),fun p hp=>?_⟩
  walk_at "ek"
  intro p3 hp3
  have l1:D.lits one=true:=lits_all.mpr fun t ht=>(things_lit k t (hmem t ht)).1
  have l2:D.lits other=true:=lits_all.mpr fun t ht=>(things_lit k t (hom t ht)).1
  have e1:PyData.eqvAll (pyss [one,other]) (pyss [one,other])=true:=by
   show (PyData.eqv (.list (D.pys one)) (.list (D.pys one)) && (PyData.eqv (.list (D.pys other)) (.list (D.pys other)) && PyData.eqvAll [] []))=true
   rw [PyData.eqv,PyData.eqv,deqs_py,deqs_py,(deqs_lit one one l1 l1).mpr rfl,(deqs_lit other other l2 l2).mpr rfl]
   rfl
  have e2:PyData.depthAll (pyss [one,other])≤149:=by
   show max (PyData.depth (.list (D.pys one))) (max (PyData.depth (.list (D.pys other))) (PyData.depthAll []))≤149
   have a1:dpths one≤9:=dpths_le fun t ht=>by have:=(things_lit k t (hmem t ht)).2;omega
   have a2:dpths other≤9:=dpths_le fun t ht=>by have:=(things_lit k t (hom t ht)).2;omega
   have a3:PyData.depthAll []=0:=rfl
   rw [PyData.depth,PyData.depth,dpths_py,dpths_py,a3]
   omega
  have keep:∀ {b:Addr} {u:Ob},st18 b=some u→updS (updS st18 p (.lst ([]++[.ref r1]++[.ref r2]))) p3 (.lst [.ref oa,.ref ob]) b=some u:=fun e=>keepNew (keepNew e hp) hp3
  refine cmpl_ll (xss:=[one,other]) (yss:=[one,other]) (.inl (keepNew updS_same hp3)) (.inl updS_same) ⟨⟨r1,rfl,.inl (keep (K18.at' hr1 (by simp))),lits_pures _ l1⟩,⟨r2,rfl,.inl (keep hr2),lits_pures _ l2⟩,trivial⟩ ⟨⟨oa,rfl,.inl (keep (K1618.at' hoa16 (by simp))),lits_pures _ l1⟩,⟨ob,rfl,.inl (keep (K1618.at' hob16 (by simp))),lits_pures _ l2⟩,trivial⟩ e2 ?_
  rw [e1]
  exact EndQ_rt rfl
 ·rintro d ds acc env' st6 ih ⟨hlen,hmem,⟨x,rfl⟩,hsa6,hra6,I6⟩
  refine ⟨.inl hra6,?_⟩
  simp only [List.length_cons] at hlen
  walk_at "ek"
  rw [len_r (.inl hsa6)]
  refine ⟨by rw [T.next];rfl,sp_next6 T.toPKs (by omega) I6 fun j st8 j0 j1 I8 K8=>?_⟩
  have hsa8:=K8.at' hsa6 (by simp;exact hsd)
  have hra8:=K8.at' hra6 (by simp;exact hrd)
  rw [ix_rd (.inl hsa8)]
  obtain ⟨i,rfl⟩:=Int.eq_ofNat_of_zero_le j0
  have hi:i < k.things.length:=by omega
  refine ⟨k.things[i],by rw [at_nat,List.getElem?_eq_getElem hi],ih _ _ _ ⟨by simp;omega,fun t ht=>?_,⟨_,rfl⟩,hsa8,hra8,I8⟩⟩
  rcases List.mem_append.mp ht with ht | ht
  ·exact hmem t ht
  ·rw [List.mem_singleton] at ht;subst ht;exact List.getElem_mem hi
theorem rest62A {n:Nat} (hn:200≤n + 2) {a da:Addr}:∀ (k:Kd) (sa:Addr) (st4:Sto),Lv 3 k→k.bd 20→2≤k.things.length→sa ≠ da→st4 sa=some (.lst k.things)→Ints st4 da→wpSs (Zg P G (n + 1)) (d_law_k62.body.drop 4) (EndQ fun d _=>d=.bl true) [some (.ref a),some (.ref da),some k.d,some (.ref sa),none,none,none,none,none,none,none] st4:=by
 intro k sa st4 lk bk h2 hsd hsa I4
 simp only [d_law_k62,Ss.drop]
 walk_at "es"
 refine ⟨by rw [T.names];rfl,sp_names6 T.toPKs (by omega) I4 fun Γ st5 hΓl hΓ hb I5 K5=>?_⟩
 have hsa5:=K5.at' hsa (by simp;exact hsd)
 walk_at "es"
 refine ⟨by rw [T.lrows];rfl,sp_lrows T.toPKs (by omega) hΓl hΓ hb fun ra st6 hra0 hra K6=>?_⟩
 have hsa6:=K6.at' hsa5 (by simp)
 have I6:=I5.keep K6 (by simp)
 have hrd:ra ≠ da:=fun z=>by obtain ⟨l,e⟩:=I5;rw [← z,hra0] at e;cases e
 have ll:=lines_len Γ
 walk_at "es"
 rw [len_r (.inl hra)]
 walk_at "ek"
 by_cases h0:(((linesOf Γ).map D.tup).length:Int)=0
 ·rw [if_pos h0]
  walk_at "es"
  walk_at "es"
  intro rb hrb
  exact rest62B T hn k sa rb [] _ lk bk h2 (by simp) (by simp) (by simp [lns]) (by simp [lns]) hsd (fun z=>I6.ne hrb z.symm) (keepNew hsa6 hrb) updS_same (I6.new hrb)
 ·rw [if_neg h0]
  rw [List.length_map,ll] at h0
  exact rest62B T hn k sa ra Γ _ lk bk h2 hΓl hΓ hb (by omega) hsd hrd hsa6 hra I6
variable (hlaw:P "law"=some d_law_k62)
include hlaw
theorem core62 {n:Nat} {st:Sto} {a:Addr} {ns:List Int} (hn:200≤n) (hl:ns.length≤63) (h:rdS st a (ns.map D.int)):sem P G n "law" [.ref a] st fun d _=>d=.bl true:=by
 obtain ⟨n,rfl⟩:∃ m,n=m + 2:=⟨n - 2,by omega⟩
 refine sem_in hlaw rfl [some (.ref a),none,none,none,none,none,none,none,none,none,none] rfl ?_
 unfold d_law_k62
 walk_at "es"
 refine ⟨by rw [T.deck];rfl,sp_deck6 T.toPKs hl h fun da st1 I1 K1=>?_⟩
 have two:Lv 3 (.eith .one .one):=.two
 have btwo:(Kd.eith .one .one).bd 20:=⟨show 1≤20 by decide,show 1≤20 by decide,by decide⟩
 walk_at "es"
 refine ⟨by rw [T.kind];rfl,sp_kind6 T.toPKs (most:=20) (by decide) (by decide) 3 (by omega) I1 fun k st2 lk bk I2 K2=>?_⟩
 have nk:=lk.nest
 walk_at "es"
 refine ⟨by rw [T.lthings];rfl,sp_lth6 T.toPKs k (by omega) (Kd.bd_mono (by decide) bk) fun sa st3 hsa0 hsa K3=>?_⟩
 have I3:=I2.keep K3 (by simp)
 have hsd:sa ≠ da:=fun z=>by obtain ⟨l,e⟩:=I2;rw [← z,hsa0] at e;cases e
 walk_at "es"
 rw [len_r (.inl hsa)]
 walk_at "ek"
 by_cases h2:(k.things.length:Int) < 2
 ·rw [if_pos h2]
  walk_at "es"
  walk_at "es"
  refine ⟨by rw [T.lthings];rfl,sp_lth6 T.toPKs (.eith .one .one) (by simp only [Kd.nest];omega) (Kd.bd_mono (by decide) btwo) fun sb st4 hsb0 hsb K4=>?_⟩
  walk_at "ek"
  refine rest62A T hn (.eith .one .one) sb st4 two btwo (by simp [Kd.things]) (fun z=>by obtain ⟨l,e⟩:=I3;rw [← z,hsb0] at e;cases e) hsb (I3.keep K4 (by simp))
 ·rw [if_neg h2]
  exact rest62A T hn k sa st3 lk bk (by omega) hsd hsa I3
end
end Ek
set_option Elab.async false
set_option linter.all false
set_option maxRecDepth 100000
namespace Ek
open PySem L2
theorem pk62:PK62 prg_k62 glo_k62:=⟨⟨⟨⟨⟨rfl,rfl,rfl,rfl⟩,rfl⟩,rfl,rfl,rfl,rfl⟩,rfl,rfl,rfl,rfl,rfl,rfl,rfl,rfl,rfl,rfl,rfl,rfl,rfl,rfl,rfl,rfl,rfl,rfl,rfl,rfl⟩,rfl,rfl,rfl,rfl⟩
theorem core62_st (a:Addr) (ns:List Int) (h:ns.length≤63):sem prg_k62 glo_k62 200 "law" [.ref a] (st0 a ns) fun d _=>d=.bl true:=
 core62 pk62 rfl (by decide) h (.inr (by unfold st0;rw [if_pos rfl]))
end Ek
set_option Elab.async false
set_option linter.all false
set_option maxRecDepth 100000
set_option maxHeartbeats 4000000
namespace Ek
open PySem L2
noncomputable def top (i:Nat):Stmt:=PySem.Challenge.pw_evenkinds_k62_unlike_tables.main.body.getD i (.Pass ⟨0,0,0,0⟩)
noncomputable def mth (i k:Nat):Stmt:=match top i with | .ClassDef _ _ _ b _ _ _ _ _ _ _=>b.getD k (.Pass ⟨0,0,0,0⟩) | _=>.Pass ⟨0,0,0,0⟩
theorem bd1 {fd:FuncData} {ps:List Str} (h:∀ a0,bindArgs fd ⟨[a0],[]⟩=pure (ps.zip [a0])) (us:List Value) (hl:us.length=1):bindArgs fd ⟨us,[]⟩=pure (ps.zip us):=match us,hl with | [a0],_=>h a0
theorem bd2 {fd:FuncData} {ps:List Str} (h:∀ a0 a1,bindArgs fd ⟨[a0,a1],[]⟩=pure (ps.zip [a0,a1])) (us:List Value) (hl:us.length=2):bindArgs fd ⟨us,[]⟩=pure (ps.zip us):=match us,hl with | [a0,a1],_=>h a0 a1
theorem bd3 {fd:FuncData} {ps:List Str} (h:∀ a0 a1 a2,bindArgs fd ⟨[a0,a1,a2],[]⟩=pure (ps.zip [a0,a1,a2])) (us:List Value) (hl:us.length=3):bindArgs fd ⟨us,[]⟩=pure (ps.zip us):=match us,hl with | [a0,a1,a2],_=>h a0 a1 a2
theorem s_d_made_of_parts:Stat (top 3) d_made_of_parts ["whole","parts_of","made"] "made_of_parts" "made_of_parts":=⟨⟨rfl,rfl,rfl,by decide +kernel,rfl,by decide +kernel,by decide +kernel⟩,rfl,by decide +kernel,fun _ _ _ _ _ _=>bd3 fun _ _ _=>rfl⟩
theorem s_d_order_of_few:Stat (top 4) d_order_of_few ["whole","parts_of"] "order_of_few" "order_of_few":=⟨⟨rfl,rfl,rfl,by decide +kernel,rfl,by decide +kernel,by decide +kernel⟩,rfl,by decide +kernel,fun _ _ _ _ _ _=>bd2 fun _ _=>rfl⟩
theorem s_d_taken:Stat (top 6) d_taken ["done","many"] "taken" "taken":=⟨⟨rfl,rfl,rfl,by decide +kernel,rfl,by decide +kernel,by decide +kernel⟩,rfl,by decide +kernel,fun _ _ _ _ _ _=>bd2 fun _ _=>rfl⟩
theorem s_d_things:Stat (top 12) d_things ["kind"] "things" "things":=⟨⟨rfl,rfl,rfl,by decide +kernel,rfl,by decide +kernel,by decide +kernel⟩,rfl,by decide +kernel,fun _ _ _ _ _ _=>bd1 fun _=>rfl⟩
theorem s_d_built_up:Stat (top 13) d_built_up ["kind","plain","joined"] "built_up" "built_up":=⟨⟨rfl,rfl,rfl,by decide +kernel,rfl,by decide +kernel,by decide +kernel⟩,rfl,by decide +kernel,fun _ _ _ _ _ _=>bd3 fun _ _ _=>rfl⟩
theorem s_d_things_within_k61:Stat (top 14) d_things_within_k61 ["held"] "things_within" "things_within":=⟨⟨rfl,rfl,rfl,by decide +kernel,rfl,by decide +kernel,by decide +kernel⟩,rfl,by decide +kernel,fun _ _ _ _ _ _=>bd1 fun _=>rfl⟩
theorem s_d_joined_things:Stat (top 15) d_joined_things ["word","first","second"] "joined_things" "joined_things":=⟨⟨rfl,rfl,rfl,by decide +kernel,rfl,by decide +kernel,by decide +kernel⟩,rfl,by decide +kernel,fun _ _ _ _ _ _=>bd3 fun _ _ _=>rfl⟩
theorem s_d_pairs:Stat (top 16) d_pairs ["first","second"] "pairs" "pairs":=⟨⟨rfl,rfl,rfl,by decide +kernel,rfl,by decide +kernel,by decide +kernel⟩,rfl,by decide +kernel,fun _ _ _ _ _ _=>bd2 fun _ _=>rfl⟩
theorem s_d_rows_over:Stat (top 17) d_rows_over ["length","choices"] "rows_over" "rows_over":=⟨⟨rfl,rfl,rfl,by decide +kernel,rfl,by decide +kernel,by decide +kernel⟩,rfl,by decide +kernel,fun _ _ _ _ _ _=>bd2 fun _ _=>rfl⟩
theorem s_d_plain_thing_k61:Stat (top 19) d_plain_thing_k61 ["kind","thing"] "plain_thing" "plain_thing":=⟨⟨rfl,rfl,rfl,by decide +kernel,rfl,by decide +kernel,by decide +kernel⟩,rfl,by decide +kernel,fun _ _ _ _ _ _=>bd2 fun _ _=>rfl⟩
theorem s_d_plain_by_parts_k61:Stat (top 20) d_plain_by_parts_k61 ["held","parts"] "plain_by_parts" "plain_by_parts":=⟨⟨rfl,rfl,rfl,by decide +kernel,rfl,by decide +kernel,by decide +kernel⟩,rfl,by decide +kernel,fun _ _ _ _ _ _=>bd2 fun _ _=>rfl⟩
theorem s_d_plain_table_k61:Stat (top 21) d_plain_table_k61 ["names","kind","table"] "plain_table" "plain_table":=⟨⟨rfl,rfl,rfl,by decide +kernel,rfl,by decide +kernel,by decide +kernel⟩,rfl,by decide +kernel,fun _ _ _ _ _ _=>bd3 fun _ _ _=>rfl⟩
theorem s_d_asked_names_k61:Stat (top 22) d_asked_names_k61 ["names"] "asked_names" "asked_names":=⟨⟨rfl,rfl,rfl,by decide +kernel,rfl,by decide +kernel,by decide +kernel⟩,rfl,by decide +kernel,fun _ _ _ _ _ _=>bd1 fun _=>rfl⟩
theorem s_d_expression_k61:Stat (top 23) d_expression_k61 ["level","looks","depth"] "expression" "expression":=⟨⟨rfl,rfl,rfl,by decide +kernel,rfl,by decide +kernel,by decide +kernel⟩,rfl,by decide +kernel,fun _ _ _ _ _ _=>bd3 fun _ _ _=>rfl⟩
theorem s_d_opened_k61:Stat (top 24) d_opened_k61 ["asked","chain"] "opened" "opened":=⟨⟨rfl,rfl,rfl,by decide +kernel,rfl,by decide +kernel,by decide +kernel⟩,rfl,by decide +kernel,fun _ _ _ _ _ _=>bd2 fun _ _=>rfl⟩
theorem s_d_asks_nothing_k61:Stat (top 25) d_asks_nothing_k61 ["kind"] "asks_nothing" "asks_nothing":=⟨⟨rfl,rfl,rfl,by decide +kernel,rfl,by decide +kernel,by decide +kernel⟩,rfl,by decide +kernel,fun _ _ _ _ _ _=>bd1 fun _=>rfl⟩
theorem s_d_joined_asking_k61:Stat (top 26) d_joined_asking_k61 ["word","first","second"] "joined_asking" "joined_asking":=⟨⟨rfl,rfl,rfl,by decide +kernel,rfl,by decide +kernel,by decide +kernel⟩,rfl,by decide +kernel,fun _ _ _ _ _ _=>bd3 fun _ _ _=>rfl⟩
theorem s_d_looked_at_k61:Stat (top 27) d_looked_at_k61 ["asked","look","kind"] "looked_at" "looked_at":=⟨⟨rfl,rfl,rfl,by decide +kernel,rfl,by decide +kernel,by decide +kernel⟩,rfl,by decide +kernel,fun _ _ _ _ _ _=>bd3 fun _ _ _=>rfl⟩
theorem s_d_asking_k61:Stat (top 28) d_asking_k61 ["names","kind","programs"] "asking" "asking":=⟨⟨rfl,rfl,rfl,by decide +kernel,rfl,by decide +kernel,by decide +kernel⟩,rfl,by decide +kernel,fun _ _ _ _ _ _=>bd3 fun _ _ _=>rfl⟩
theorem s_d_next_asked_k61:Stat (top 29) d_next_asked_k61 ["chain"] "next_asked" "next_asked":=⟨⟨rfl,rfl,rfl,by decide +kernel,rfl,by decide +kernel,by decide +kernel⟩,rfl,by decide +kernel,fun _ _ _ _ _ _=>bd1 fun _=>rfl⟩
theorem s_d_law_deck_k61:Stat (top 31) d_law_deck_k61 ["_law_script"] "_law_deck" "_law_deck":=⟨⟨rfl,rfl,rfl,by decide +kernel,rfl,by decide +kernel,by decide +kernel⟩,rfl,by decide +kernel,fun _ _ _ _ _ _=>bd1 fun _=>rfl⟩
theorem s_d_law_next_k61:Stat (top 32) d_law_next_k61 ["_law_deck_here","_law_many_here"] "_law_next" "_law_next":=⟨⟨rfl,rfl,rfl,by decide +kernel,rfl,by decide +kernel,by decide +kernel⟩,rfl,by decide +kernel,fun _ _ _ _ _ _=>bd2 fun _ _=>rfl⟩
theorem s_d_law_crossed_k61:Stat (top 33) d_law_crossed_k61 ["_law_ones","_law_others"] "_law_crossed" "_law_crossed":=⟨⟨rfl,rfl,rfl,by decide +kernel,rfl,by decide +kernel,by decide +kernel⟩,rfl,by decide +kernel,fun _ _ _ _ _ _=>bd2 fun _ _=>rfl⟩
theorem s_d_law_things_k61:Stat (top 34) d_law_things_k61 ["_law_kind_here"] "_law_things" "_law_things":=⟨⟨rfl,rfl,rfl,by decide +kernel,rfl,by decide +kernel,by decide +kernel⟩,rfl,by decide +kernel,fun _ _ _ _ _ _=>bd1 fun _=>rfl⟩
theorem s_d_law_many_k61:Stat (top 35) d_law_many_k61 ["_law_kind_here"] "_law_many" "_law_many":=⟨⟨rfl,rfl,rfl,by decide +kernel,rfl,by decide +kernel,by decide +kernel⟩,rfl,by decide +kernel,fun _ _ _ _ _ _=>bd1 fun _=>rfl⟩
theorem s_d_law_dressed_k62:Stat (top 36) d_law_dressed_k62 ["_law_kind_here","_law_thing"] "_law_dressed" "_law_dressed":=⟨⟨rfl,rfl,rfl,by decide +kernel,rfl,by decide +kernel,by decide +kernel⟩,rfl,by decide +kernel,fun _ _ _ _ _ _=>bd2 fun _ _=>rfl⟩
theorem s_d_law_bare_k62:Stat (top 37) d_law_bare_k62 ["_law_thing"] "_law_bare" "_law_bare":=⟨⟨rfl,rfl,rfl,by decide +kernel,rfl,by decide +kernel,by decide +kernel⟩,rfl,by decide +kernel,fun _ _ _ _ _ _=>bd1 fun _=>rfl⟩
theorem s_d_law_told_k62:Stat (top 38) d_law_told_k62 ["_law_program","_law_row"] "_law_told" "_law_told":=⟨⟨rfl,rfl,rfl,by decide +kernel,rfl,by decide +kernel,by decide +kernel⟩,rfl,by decide +kernel,fun _ _ _ _ _ _=>bd2 fun _ _=>rfl⟩
theorem s_d_law_rows_k61:Stat (top 39) d_law_rows_k61 ["_law_names_here"] "_law_rows" "_law_rows":=⟨⟨rfl,rfl,rfl,by decide +kernel,rfl,by decide +kernel,by decide +kernel⟩,rfl,by decide +kernel,fun _ _ _ _ _ _=>bd1 fun _=>rfl⟩
theorem s_d_law_table_k62:Stat (top 40) d_law_table_k62 ["_law_program","_law_names_here"] "_law_table" "_law_table":=⟨⟨rfl,rfl,rfl,by decide +kernel,rfl,by decide +kernel,by decide +kernel⟩,rfl,by decide +kernel,fun _ _ _ _ _ _=>bd2 fun _ _=>rfl⟩
theorem s_d_law_kind_k61:Stat (top 41) d_law_kind_k61 ["_law_deck_here","_law_deep","_law_most"] "_law_kind" "_law_kind":=⟨⟨rfl,rfl,rfl,by decide +kernel,rfl,by decide +kernel,by decide +kernel⟩,rfl,by decide +kernel,fun _ _ _ _ _ _=>bd3 fun _ _ _=>rfl⟩
theorem s_d_law_names_k61:Stat (top 42) d_law_names_k61 ["_law_deck_here","_law_most"] "_law_names" "_law_names":=⟨⟨rfl,rfl,rfl,by decide +kernel,rfl,by decide +kernel,by decide +kernel⟩,rfl,by decide +kernel,fun _ _ _ _ _ _=>bd2 fun _ _=>rfl⟩
theorem s_d_law_k62:Stat (top 43) d_law_k62 ["_law_script"] "law" "law":=⟨⟨rfl,rfl,rfl,by decide +kernel,rfl,by decide +kernel,by decide +kernel⟩,rfl,by decide +kernel,fun _ _ _ _ _ _=>bd1 fun _=>rfl⟩
theorem all_mk {pr:Program} {w:World} {K:PySem.W.Frag} {h:Heap} {mg:Str→Option Value} {ts:List Addr} (X:K.In h) (G:h.Ns mainGlobals mg)
  {f0:Addr} {od0 an0:Option Addr} {sl0:Array (Option Value)} {oc0 kV0 dc0 pm0 cd0 ct0:Value} {f1:Addr} {od1 an1:Option Addr} {sl1:Array (Option Value)} {oc1 kV1 dc1 pm1 cd1 ct1:Value} {f2:Addr} {od2 an2:Option Addr} {sl2:Array (Option Value)} {oc2 kV2 dc2 pm2 cd2 ct2:Value} {f3:Addr} {od3 an3:Option Addr} {sl3:Array (Option Value)} {oc3 kV3 dc3 pm3 cd3 ct3:Value} {f4:Addr} {od4 an4:Option Addr} {sl4:Array (Option Value)} {oc4 kV4 dc4 pm4 cd4 ct4:Value} {f5:Addr} {od5 an5:Option Addr} {sl5:Array (Option Value)} {oc5 kV5 dc5 pm5 cd5 ct5:Value} {f6:Addr} {od6 an6:Option Addr} {sl6:Array (Option Value)} {oc6 kV6 dc6 pm6 cd6 ct6:Value} {f7:Addr} {od7 an7:Option Addr} {sl7:Array (Option Value)} {oc7 kV7 dc7 pm7 cd7 ct7:Value} {f8:Addr} {od8 an8:Option Addr} {sl8:Array (Option Value)} {oc8 kV8 dc8 pm8 cd8 ct8:Value} {f9:Addr} {od9 an9:Option Addr} {sl9:Array (Option Value)} {oc9 kV9 dc9 pm9 cd9 ct9:Value} {f10:Addr} {od10 an10:Option Addr} {sl10:Array (Option Value)} {oc10 kV10 dc10 pm10 cd10 ct10:Value} {f11:Addr} {od11 an11:Option Addr} {sl11:Array (Option Value)} {oc11 kV11 dc11 pm11 cd11 ct11:Value} {f12:Addr} {od12 an12:Option Addr} {sl12:Array (Option Value)} {oc12 kV12 dc12 pm12 cd12 ct12:Value} {f13:Addr} {od13 an13:Option Addr} {sl13:Array (Option Value)} {oc13 kV13 dc13 pm13 cd13 ct13:Value} {f14:Addr} {od14 an14:Option Addr} {sl14:Array (Option Value)} {oc14 kV14 dc14 pm14 cd14 ct14:Value} {f15:Addr} {od15 an15:Option Addr} {sl15:Array (Option Value)} {oc15 kV15 dc15 pm15 cd15 ct15:Value} {f16:Addr} {od16 an16:Option Addr} {sl16:Array (Option Value)} {oc16 kV16 dc16 pm16 cd16 ct16:Value} {f17:Addr} {od17 an17:Option Addr} {sl17:Array (Option Value)} {oc17 kV17 dc17 pm17 cd17 ct17:Value} {f18:Addr} {od18 an18:Option Addr} {sl18:Array (Option Value)} {oc18 kV18 dc18 pm18 cd18 ct18:Value} {f19:Addr} {od19 an19:Option Addr} {sl19:Array (Option Value)} {oc19 kV19 dc19 pm19 cd19 ct19:Value} {f20:Addr} {od20 an20:Option Addr} {sl20:Array (Option Value)} {oc20 kV20 dc20 pm20 cd20 ct20:Value} {f21:Addr} {od21 an21:Option Addr} {sl21:Array (Option Value)} {oc21 kV21 dc21 pm21 cd21 ct21:Value} {f22:Addr} {od22 an22:Option Addr} {sl22:Array (Option Value)} {oc22 kV22 dc22 pm22 cd22 ct22:Value} {f23:Addr} {od23 an23:Option Addr} {sl23:Array (Option Value)} {oc23 kV23 dc23 pm23 cd23 ct23:Value} {f24:Addr} {od24 an24:Option Addr} {sl24:Array (Option Value)} {oc24 kV24 dc24 pm24 cd24 ct24:Value} {f25:Addr} {od25 an25:Option Addr} {sl25:Array (Option Value)} {oc25 kV25 dc25 pm25 cd25 ct25:Value} {f26:Addr} {od26 an26:Option Addr} {sl26:Array (Option Value)} {oc26 kV26 dc26 pm26 cd26 ct26:Value} {f27:Addr} {od27 an27:Option Addr} {sl27:Array (Option Value)} {oc27 kV27 dc27 pm27 cd27 ct27:Value} {f28:Addr} {od28 an28:Option Addr} {sl28:Array (Option Value)} {oc28 kV28 dc28 pm28 cd28 ct28:Value} {f29:Addr} {od29 an29:Option Addr} {sl29:Array (Option Value)} {oc29 kV29 dc29 pm29 cd29 ct29:Value} {f30:Addr} {od30 an30:Option Addr} {sl30:Array (Option Value)} {oc30 kV30 dc30 pm30 cd30 ct30:Value} {f31:Addr} {od31 an31:Option Addr} {sl31:Array (Option Value)} {oc31 kV31 dc31 pm31 cd31 ct31:Value} {f32:Addr} {od32 an32:Option Addr} {sl32:Array (Option Value)} {oc32 kV32 dc32 pm32 cd32 ct32:Value}  {kt0:Tok} {hc4 hp4:Addr}
  (a0:PySem.W.nsIn K mainGlobals "made_of_parts"=some (some (.ref f0))) (l0:K.lookup f0=some ⟨oc0,od0,.func (PySem.W.fnOf "made_of_parts" "made_of_parts" (defArgs (top 3)) (defBody (top 3)) (defScope (top 3)) .none kV0 dc0 pm0 an0 cd0 ct0),sl0⟩) (c0:PySem.W.codeIn K cd0 "made_of_parts"=true) (k0:PySem.W.keepIn K (.ref f0)=true)
  (a1:PySem.W.nsIn K mainGlobals "order_of_few"=some (some (.ref f1))) (l1:K.lookup f1=some ⟨oc1,od1,.func (PySem.W.fnOf "order_of_few" "order_of_few" (defArgs (top 4)) (defBody (top 4)) (defScope (top 4)) .none kV1 dc1 pm1 an1 cd1 ct1),sl1⟩) (c1:PySem.W.codeIn K cd1 "order_of_few"=true) (k1:PySem.W.keepIn K (.ref f1)=true)
  (a2:PySem.W.nsIn K mainGlobals "taken"=some (some (.ref f2))) (l2:K.lookup f2=some ⟨oc2,od2,.func (PySem.W.fnOf "taken" "taken" (defArgs (top 6)) (defBody (top 6)) (defScope (top 6)) .none kV2 dc2 pm2 an2 cd2 ct2),sl2⟩) (c2:PySem.W.codeIn K cd2 "taken"=true) (k2:PySem.W.keepIn K (.ref f2)=true)
  (a3:PySem.W.nsIn K mainGlobals "things"=some (some (.ref f3))) (l3:K.lookup f3=some ⟨oc3,od3,.func (PySem.W.fnOf "things" "things" (defArgs (top 12)) (defBody (top 12)) (defScope (top 12)) .none kV3 dc3 pm3 an3 cd3 ct3),sl3⟩) (c3:PySem.W.codeIn K cd3 "things"=true) (k3:PySem.W.keepIn K (.ref f3)=true)
  (a4:PySem.W.nsIn K mainGlobals "built_up"=some (some (.ref f4))) (l4:K.lookup f4=some ⟨oc4,od4,.func (PySem.W.fnOf "built_up" "built_up" (defArgs (top 13)) (defBody (top 13)) (defScope (top 13)) .none kV4 dc4 pm4 an4 cd4 ct4),sl4⟩) (c4:PySem.W.codeIn K cd4 "built_up"=true) (k4:PySem.W.keepIn K (.ref f4)=true)
  (a5:PySem.W.nsIn K mainGlobals "things_within"=some (some (.ref f5))) (l5:K.lookup f5=some ⟨oc5,od5,.func (PySem.W.fnOf "things_within" "things_within" (defArgs (top 14)) (defBody (top 14)) (defScope (top 14)) .none kV5 dc5 pm5 an5 cd5 ct5),sl5⟩) (c5:PySem.W.codeIn K cd5 "things_within"=true) (k5:PySem.W.keepIn K (.ref f5)=true)
  (a6:PySem.W.nsIn K mainGlobals "joined_things"=some (some (.ref f6))) (l6:K.lookup f6=some ⟨oc6,od6,.func (PySem.W.fnOf "joined_things" "joined_things" (defArgs (top 15)) (defBody (top 15)) (defScope (top 15)) .none kV6 dc6 pm6 an6 cd6 ct6),sl6⟩) (c6:PySem.W.codeIn K cd6 "joined_things"=true) (k6:PySem.W.keepIn K (.ref f6)=true)
  (a7:PySem.W.nsIn K mainGlobals "pairs"=some (some (.ref f7))) (l7:K.lookup f7=some ⟨oc7,od7,.func (PySem.W.fnOf "pairs" "pairs" (defArgs (top 16)) (defBody (top 16)) (defScope (top 16)) .none kV7 dc7 pm7 an7 cd7 ct7),sl7⟩) (c7:PySem.W.codeIn K cd7 "pairs"=true) (k7:PySem.W.keepIn K (.ref f7)=true)
  (a8:PySem.W.nsIn K mainGlobals "rows_over"=some (some (.ref f8))) (l8:K.lookup f8=some ⟨oc8,od8,.func (PySem.W.fnOf "rows_over" "rows_over" (defArgs (top 17)) (defBody (top 17)) (defScope (top 17)) .none kV8 dc8 pm8 an8 cd8 ct8),sl8⟩) (c8:PySem.W.codeIn K cd8 "rows_over"=true) (k8:PySem.W.keepIn K (.ref f8)=true)
  (a9:PySem.W.nsIn K mainGlobals "plain_thing"=some (some (.ref f9))) (l9:K.lookup f9=some ⟨oc9,od9,.func (PySem.W.fnOf "plain_thing" "plain_thing" (defArgs (top 19)) (defBody (top 19)) (defScope (top 19)) .none kV9 dc9 pm9 an9 cd9 ct9),sl9⟩) (c9:PySem.W.codeIn K cd9 "plain_thing"=true) (k9:PySem.W.keepIn K (.ref f9)=true)
  (a10:PySem.W.nsIn K mainGlobals "plain_by_parts"=some (some (.ref f10))) (l10:K.lookup f10=some ⟨oc10,od10,.func (PySem.W.fnOf "plain_by_parts" "plain_by_parts" (defArgs (top 20)) (defBody (top 20)) (defScope (top 20)) .none kV10 dc10 pm10 an10 cd10 ct10),sl10⟩) (c10:PySem.W.codeIn K cd10 "plain_by_parts"=true) (k10:PySem.W.keepIn K (.ref f10)=true)
  (a11:PySem.W.nsIn K mainGlobals "plain_table"=some (some (.ref f11))) (l11:K.lookup f11=some ⟨oc11,od11,.func (PySem.W.fnOf "plain_table" "plain_table" (defArgs (top 21)) (defBody (top 21)) (defScope (top 21)) .none kV11 dc11 pm11 an11 cd11 ct11),sl11⟩) (c11:PySem.W.codeIn K cd11 "plain_table"=true) (k11:PySem.W.keepIn K (.ref f11)=true)
  (a12:PySem.W.nsIn K mainGlobals "asked_names"=some (some (.ref f12))) (l12:K.lookup f12=some ⟨oc12,od12,.func (PySem.W.fnOf "asked_names" "asked_names" (defArgs (top 22)) (defBody (top 22)) (defScope (top 22)) .none kV12 dc12 pm12 an12 cd12 ct12),sl12⟩) (c12:PySem.W.codeIn K cd12 "asked_names"=true) (k12:PySem.W.keepIn K (.ref f12)=true)
  (a13:PySem.W.nsIn K mainGlobals "expression"=some (some (.ref f13))) (l13:K.lookup f13=some ⟨oc13,od13,.func (PySem.W.fnOf "expression" "expression" (defArgs (top 23)) (defBody (top 23)) (defScope (top 23)) .none kV13 dc13 pm13 an13 cd13 ct13),sl13⟩) (c13:PySem.W.codeIn K cd13 "expression"=true) (k13:PySem.W.keepIn K (.ref f13)=true)
  (a14:PySem.W.nsIn K mainGlobals "opened"=some (some (.ref f14))) (l14:K.lookup f14=some ⟨oc14,od14,.func (PySem.W.fnOf "opened" "opened" (defArgs (top 24)) (defBody (top 24)) (defScope (top 24)) .none kV14 dc14 pm14 an14 cd14 ct14),sl14⟩) (c14:PySem.W.codeIn K cd14 "opened"=true) (k14:PySem.W.keepIn K (.ref f14)=true)
  (a15:PySem.W.nsIn K mainGlobals "asks_nothing"=some (some (.ref f15))) (l15:K.lookup f15=some ⟨oc15,od15,.func (PySem.W.fnOf "asks_nothing" "asks_nothing" (defArgs (top 25)) (defBody (top 25)) (defScope (top 25)) .none kV15 dc15 pm15 an15 cd15 ct15),sl15⟩) (c15:PySem.W.codeIn K cd15 "asks_nothing"=true) (k15:PySem.W.keepIn K (.ref f15)=true)
  (a16:PySem.W.nsIn K mainGlobals "joined_asking"=some (some (.ref f16))) (l16:K.lookup f16=some ⟨oc16,od16,.func (PySem.W.fnOf "joined_asking" "joined_asking" (defArgs (top 26)) (defBody (top 26)) (defScope (top 26)) .none kV16 dc16 pm16 an16 cd16 ct16),sl16⟩) (c16:PySem.W.codeIn K cd16 "joined_asking"=true) (k16:PySem.W.keepIn K (.ref f16)=true)
  (a17:PySem.W.nsIn K mainGlobals "looked_at"=some (some (.ref f17))) (l17:K.lookup f17=some ⟨oc17,od17,.func (PySem.W.fnOf "looked_at" "looked_at" (defArgs (top 27)) (defBody (top 27)) (defScope (top 27)) .none kV17 dc17 pm17 an17 cd17 ct17),sl17⟩) (c17:PySem.W.codeIn K cd17 "looked_at"=true) (k17:PySem.W.keepIn K (.ref f17)=true)
  (a18:PySem.W.nsIn K mainGlobals "asking"=some (some (.ref f18))) (l18:K.lookup f18=some ⟨oc18,od18,.func (PySem.W.fnOf "asking" "asking" (defArgs (top 28)) (defBody (top 28)) (defScope (top 28)) .none kV18 dc18 pm18 an18 cd18 ct18),sl18⟩) (c18:PySem.W.codeIn K cd18 "asking"=true) (k18:PySem.W.keepIn K (.ref f18)=true)
  (a19:PySem.W.nsIn K mainGlobals "next_asked"=some (some (.ref f19))) (l19:K.lookup f19=some ⟨oc19,od19,.func (PySem.W.fnOf "next_asked" "next_asked" (defArgs (top 29)) (defBody (top 29)) (defScope (top 29)) .none kV19 dc19 pm19 an19 cd19 ct19),sl19⟩) (c19:PySem.W.codeIn K cd19 "next_asked"=true) (k19:PySem.W.keepIn K (.ref f19)=true)
  (a20:PySem.W.nsIn K mainGlobals "_law_deck"=some (some (.ref f20))) (l20:K.lookup f20=some ⟨oc20,od20,.func (PySem.W.fnOf "_law_deck" "_law_deck" (defArgs (top 31)) (defBody (top 31)) (defScope (top 31)) .none kV20 dc20 pm20 an20 cd20 ct20),sl20⟩) (c20:PySem.W.codeIn K cd20 "_law_deck"=true) (k20:PySem.W.keepIn K (.ref f20)=true)
  (a21:PySem.W.nsIn K mainGlobals "_law_next"=some (some (.ref f21))) (l21:K.lookup f21=some ⟨oc21,od21,.func (PySem.W.fnOf "_law_next" "_law_next" (defArgs (top 32)) (defBody (top 32)) (defScope (top 32)) .none kV21 dc21 pm21 an21 cd21 ct21),sl21⟩) (c21:PySem.W.codeIn K cd21 "_law_next"=true) (k21:PySem.W.keepIn K (.ref f21)=true)
  (a22:PySem.W.nsIn K mainGlobals "_law_crossed"=some (some (.ref f22))) (l22:K.lookup f22=some ⟨oc22,od22,.func (PySem.W.fnOf "_law_crossed" "_law_crossed" (defArgs (top 33)) (defBody (top 33)) (defScope (top 33)) .none kV22 dc22 pm22 an22 cd22 ct22),sl22⟩) (c22:PySem.W.codeIn K cd22 "_law_crossed"=true) (k22:PySem.W.keepIn K (.ref f22)=true)
  (a23:PySem.W.nsIn K mainGlobals "_law_things"=some (some (.ref f23))) (l23:K.lookup f23=some ⟨oc23,od23,.func (PySem.W.fnOf "_law_things" "_law_things" (defArgs (top 34)) (defBody (top 34)) (defScope (top 34)) .none kV23 dc23 pm23 an23 cd23 ct23),sl23⟩) (c23:PySem.W.codeIn K cd23 "_law_things"=true) (k23:PySem.W.keepIn K (.ref f23)=true)
  (a24:PySem.W.nsIn K mainGlobals "_law_many"=some (some (.ref f24))) (l24:K.lookup f24=some ⟨oc24,od24,.func (PySem.W.fnOf "_law_many" "_law_many" (defArgs (top 35)) (defBody (top 35)) (defScope (top 35)) .none kV24 dc24 pm24 an24 cd24 ct24),sl24⟩) (c24:PySem.W.codeIn K cd24 "_law_many"=true) (k24:PySem.W.keepIn K (.ref f24)=true)
  (a25:PySem.W.nsIn K mainGlobals "_law_dressed"=some (some (.ref f25))) (l25:K.lookup f25=some ⟨oc25,od25,.func (PySem.W.fnOf "_law_dressed" "_law_dressed" (defArgs (top 36)) (defBody (top 36)) (defScope (top 36)) .none kV25 dc25 pm25 an25 cd25 ct25),sl25⟩) (c25:PySem.W.codeIn K cd25 "_law_dressed"=true) (k25:PySem.W.keepIn K (.ref f25)=true)
  (a26:PySem.W.nsIn K mainGlobals "_law_bare"=some (some (.ref f26))) (l26:K.lookup f26=some ⟨oc26,od26,.func (PySem.W.fnOf "_law_bare" "_law_bare" (defArgs (top 37)) (defBody (top 37)) (defScope (top 37)) .none kV26 dc26 pm26 an26 cd26 ct26),sl26⟩) (c26:PySem.W.codeIn K cd26 "_law_bare"=true) (k26:PySem.W.keepIn K (.ref f26)=true)
  (a27:PySem.W.nsIn K mainGlobals "_law_told"=some (some (.ref f27))) (l27:K.lookup f27=some ⟨oc27,od27,.func (PySem.W.fnOf "_law_told" "_law_told" (defArgs (top 38)) (defBody (top 38)) (defScope (top 38)) .none kV27 dc27 pm27 an27 cd27 ct27),sl27⟩) (c27:PySem.W.codeIn K cd27 "_law_told"=true) (k27:PySem.W.keepIn K (.ref f27)=true)
  (a28:PySem.W.nsIn K mainGlobals "_law_rows"=some (some (.ref f28))) (l28:K.lookup f28=some ⟨oc28,od28,.func (PySem.W.fnOf "_law_rows" "_law_rows" (defArgs (top 39)) (defBody (top 39)) (defScope (top 39)) .none kV28 dc28 pm28 an28 cd28 ct28),sl28⟩) (c28:PySem.W.codeIn K cd28 "_law_rows"=true) (k28:PySem.W.keepIn K (.ref f28)=true)
  (a29:PySem.W.nsIn K mainGlobals "_law_table"=some (some (.ref f29))) (l29:K.lookup f29=some ⟨oc29,od29,.func (PySem.W.fnOf "_law_table" "_law_table" (defArgs (top 40)) (defBody (top 40)) (defScope (top 40)) .none kV29 dc29 pm29 an29 cd29 ct29),sl29⟩) (c29:PySem.W.codeIn K cd29 "_law_table"=true) (k29:PySem.W.keepIn K (.ref f29)=true)
  (a30:PySem.W.nsIn K mainGlobals "_law_kind"=some (some (.ref f30))) (l30:K.lookup f30=some ⟨oc30,od30,.func (PySem.W.fnOf "_law_kind" "_law_kind" (defArgs (top 41)) (defBody (top 41)) (defScope (top 41)) .none kV30 dc30 pm30 an30 cd30 ct30),sl30⟩) (c30:PySem.W.codeIn K cd30 "_law_kind"=true) (k30:PySem.W.keepIn K (.ref f30)=true)
  (a31:PySem.W.nsIn K mainGlobals "_law_names"=some (some (.ref f31))) (l31:K.lookup f31=some ⟨oc31,od31,.func (PySem.W.fnOf "_law_names" "_law_names" (defArgs (top 42)) (defBody (top 42)) (defScope (top 42)) .none kV31 dc31 pm31 an31 cd31 ct31),sl31⟩) (c31:PySem.W.codeIn K cd31 "_law_names"=true) (k31:PySem.W.keepIn K (.ref f31)=true)
  (a32:PySem.W.nsIn K mainGlobals "law"=some (some (.ref f32))) (l32:K.lookup f32=some ⟨oc32,od32,.func (PySem.W.fnOf "law" "law" (defArgs (top 43)) (defBody (top 43)) (defScope (top 43)) .none kV32 dc32 pm32 an32 cd32 ct32),sl32⟩) (c32:PySem.W.codeIn K cd32 "law"=true) (k32:PySem.W.keepIn K (.ref f32)=true)
  (b0:PySem.W.nsIn K mainGlobals "len"=some none) (b1:PySem.W.nsIn K mainGlobals "abs"=some none) (b2:PySem.W.nsIn K mainGlobals "int"=some none) (b3:PySem.W.nsIn K mainGlobals "sum"=some none) (b4:PySem.W.nsIn K mainGlobals "list"=some none) (b5:PySem.W.nsIn K mainGlobals "tuple"=some none) (b6:PySem.W.nsIn K mainGlobals "isinstance"=some none) (b7:PySem.W.nsIn K mainGlobals "max"=some none) (b8:PySem.W.nsIn K mainGlobals "range"=some none) (b9:PySem.W.nsIn K mainGlobals "enumerate"=some none) (b10:PySem.W.nsIn K mainGlobals "reversed"=some none) (b11:PySem.W.nsIn K mainGlobals "str"=some none) (b12:PySem.W.nsIn K mainGlobals "bool"=some none) (b13:PySem.W.nsIn K mainGlobals "min"=some none) (b14:PySem.W.nsIn K mainGlobals "sorted"=some none) (b15:PySem.W.nsIn K mainGlobals "zip"=some none)
  (kc0:PySem.W.nsIn K mainGlobals "FEW"=some (some (.int 2000 kt0)))
  (ht4:tabAt K cd4=some (hc4,hp4)) (hd4:PySem.W.codeHdIn K hc4 hp4=true) (hm4:ts.contains hp4=true) (nl:noLists K=true) (nt:PySem.W.noTabs K=true) (tso:tsOk K ts=true) :
  (letI:Tbs:=⟨ts,mFB⟩;AllOk pr w K mg prg_k62 glo_k62)∧noLists K=true∧PySem.W.noTabs K=true∧∀ P ∈ ts,∃ c,PySem.W.codeHdIn K c P=true:=by
 letI:Tbs:=⟨ts,mFB⟩
 refine ⟨⟨fun f d hf hi=>?_,fun f d hf hi=>?_,fun f c Ca hn hf=>?_,fun b hb=>?_,fun g hg=>?_,fun g i hg=>?_⟩,nl,nt,tsOk_of tso⟩
 ·
  have hm:(f,d) ∈ tbl_k62:=PySem.mem_of_lookup hf
  simp only [tbl_k62,List.mem_cons,List.not_mem_nil,or_false,Prod.mk.injEq] at hm
  rcases hm with ⟨rfl,rfl⟩ | ⟨rfl,rfl⟩ | ⟨rfl,rfl⟩ | ⟨rfl,rfl⟩ | ⟨rfl,rfl⟩ | ⟨rfl,rfl⟩ | ⟨rfl,rfl⟩ | ⟨rfl,rfl⟩ | ⟨rfl,rfl⟩ | ⟨rfl,rfl⟩ | ⟨rfl,rfl⟩ | ⟨rfl,rfl⟩ | ⟨rfl,rfl⟩ | ⟨rfl,rfl⟩ | ⟨rfl,rfl⟩ | ⟨rfl,rfl⟩ | ⟨rfl,rfl⟩ | ⟨rfl,rfl⟩ | ⟨rfl,rfl⟩ | ⟨rfl,rfl⟩ | ⟨rfl,rfl⟩ | ⟨rfl,rfl⟩ | ⟨rfl,rfl⟩ | ⟨rfl,rfl⟩ | ⟨rfl,rfl⟩ | ⟨rfl,rfl⟩ | ⟨rfl,rfl⟩ | ⟨rfl,rfl⟩ | ⟨rfl,rfl⟩ | ⟨rfl,rfl⟩ | ⟨rfl,rfl⟩ | ⟨rfl,rfl⟩ | ⟨rfl,rfl⟩
  ·exact def_ok X G s_d_made_of_parts a0 l0 c0 k0
  ·exact def_ok X G s_d_order_of_few a1 l1 c1 k1
  ·exact def_ok X G s_d_taken a2 l2 c2 k2
  ·exact def_ok X G s_d_things a3 l3 c3 k3
  ·exact def_ok X G s_d_built_up a4 l4 c4 k4 (fun _=>lam_of ht4 hd4 hm4)
  ·exact def_ok X G s_d_things_within_k61 a5 l5 c5 k5
  ·exact def_ok X G s_d_joined_things a6 l6 c6 k6
  ·exact def_ok X G s_d_pairs a7 l7 c7 k7
  ·exact def_ok X G s_d_rows_over a8 l8 c8 k8
  ·exact def_ok X G s_d_plain_thing_k61 a9 l9 c9 k9
  ·exact def_ok X G s_d_plain_by_parts_k61 a10 l10 c10 k10
  ·exact def_ok X G s_d_plain_table_k61 a11 l11 c11 k11
  ·exact def_ok X G s_d_asked_names_k61 a12 l12 c12 k12
  ·exact def_ok X G s_d_expression_k61 a13 l13 c13 k13
  ·exact def_ok X G s_d_opened_k61 a14 l14 c14 k14
  ·exact def_ok X G s_d_asks_nothing_k61 a15 l15 c15 k15
  ·exact def_ok X G s_d_joined_asking_k61 a16 l16 c16 k16
  ·exact def_ok X G s_d_looked_at_k61 a17 l17 c17 k17
  ·exact def_ok X G s_d_asking_k61 a18 l18 c18 k18
  ·exact def_ok X G s_d_next_asked_k61 a19 l19 c19 k19
  ·exact def_ok X G s_d_law_deck_k61 a20 l20 c20 k20
  ·exact def_ok X G s_d_law_next_k61 a21 l21 c21 k21
  ·exact def_ok X G s_d_law_crossed_k61 a22 l22 c22 k22
  ·exact def_ok X G s_d_law_things_k61 a23 l23 c23 k23
  ·exact def_ok X G s_d_law_many_k61 a24 l24 c24 k24
  ·exact def_ok X G s_d_law_dressed_k62 a25 l25 c25 k25
  ·exact def_ok X G s_d_law_bare_k62 a26 l26 c26 k26
  ·exact def_ok X G s_d_law_told_k62 a27 l27 c27 k27
  ·exact def_ok X G s_d_law_rows_k61 a28 l28 c28 k28
  ·exact def_ok X G s_d_law_table_k62 a29 l29 c29 k29
  ·exact def_ok X G s_d_law_kind_k61 a30 l30 c30 k30
  ·exact def_ok X G s_d_law_names_k61 a31 l31 c31 k31
  ·exact def_ok X G s_d_law_k62 a32 l32 c32 k32
 ·
  have hm:(f,d) ∈ tbl_k62:=PySem.mem_of_lookup hf
  simp only [tbl_k62,List.mem_cons,List.not_mem_nil,or_false,Prod.mk.injEq] at hm
  rcases hm with ⟨rfl,rfl⟩ | ⟨rfl,rfl⟩ | ⟨rfl,rfl⟩ | ⟨rfl,rfl⟩ | ⟨rfl,rfl⟩ | ⟨rfl,rfl⟩ | ⟨rfl,rfl⟩ | ⟨rfl,rfl⟩ | ⟨rfl,rfl⟩ | ⟨rfl,rfl⟩ | ⟨rfl,rfl⟩ | ⟨rfl,rfl⟩ | ⟨rfl,rfl⟩ | ⟨rfl,rfl⟩ | ⟨rfl,rfl⟩ | ⟨rfl,rfl⟩ | ⟨rfl,rfl⟩ | ⟨rfl,rfl⟩ | ⟨rfl,rfl⟩ | ⟨rfl,rfl⟩ | ⟨rfl,rfl⟩ | ⟨rfl,rfl⟩ | ⟨rfl,rfl⟩ | ⟨rfl,rfl⟩ | ⟨rfl,rfl⟩ | ⟨rfl,rfl⟩ | ⟨rfl,rfl⟩ | ⟨rfl,rfl⟩ | ⟨rfl,rfl⟩ | ⟨rfl,rfl⟩ | ⟨rfl,rfl⟩ | ⟨rfl,rfl⟩ | ⟨rfl,rfl⟩
  ·exact absurd hi (by decide +kernel)
  ·exact absurd hi (by decide +kernel)
  ·exact absurd hi (by decide +kernel)
  ·exact absurd hi (by decide +kernel)
  ·exact absurd hi (by decide +kernel)
  ·exact absurd hi (by decide +kernel)
  ·exact absurd hi (by decide +kernel)
  ·exact absurd hi (by decide +kernel)
  ·exact absurd hi (by decide +kernel)
  ·exact absurd hi (by decide +kernel)
  ·exact absurd hi (by decide +kernel)
  ·exact absurd hi (by decide +kernel)
  ·exact absurd hi (by decide +kernel)
  ·exact absurd hi (by decide +kernel)
  ·exact absurd hi (by decide +kernel)
  ·exact absurd hi (by decide +kernel)
  ·exact absurd hi (by decide +kernel)
  ·exact absurd hi (by decide +kernel)
  ·exact absurd hi (by decide +kernel)
  ·exact absurd hi (by decide +kernel)
  ·exact absurd hi (by decide +kernel)
  ·exact absurd hi (by decide +kernel)
  ·exact absurd hi (by decide +kernel)
  ·exact absurd hi (by decide +kernel)
  ·exact absurd hi (by decide +kernel)
  ·exact absurd hi (by decide +kernel)
  ·exact absurd hi (by decide +kernel)
  ·exact absurd hi (by decide +kernel)
  ·exact absurd hi (by decide +kernel)
  ·exact absurd hi (by decide +kernel)
  ·exact absurd hi (by decide +kernel)
  ·exact absurd hi (by decide +kernel)
  ·exact absurd hi (by decide +kernel)
 ·
  unfold glo_k62 at hf
  simp only at hf
  exact absurd hf List.not_mem_nil
 ·simp only [bltNames,List.mem_cons,List.not_mem_nil,or_false] at hb
  rcases hb with rfl | rfl | rfl | rfl | rfl | rfl | rfl | rfl | rfl | rfl | rfl | rfl | rfl | rfl | rfl | rfl
  ·exact PySem.W.mg_none_of X G b0
  ·exact PySem.W.mg_none_of X G b1
  ·exact PySem.W.mg_none_of X G b2
  ·exact PySem.W.mg_none_of X G b3
  ·exact PySem.W.mg_none_of X G b4
  ·exact PySem.W.mg_none_of X G b5
  ·exact PySem.W.mg_none_of X G b6
  ·exact PySem.W.mg_none_of X G b7
  ·exact PySem.W.mg_none_of X G b8
  ·exact PySem.W.mg_none_of X G b9
  ·exact PySem.W.mg_none_of X G b10
  ·exact PySem.W.mg_none_of X G b11
  ·exact PySem.W.mg_none_of X G b12
  ·exact PySem.W.mg_none_of X G b13
  ·exact PySem.W.mg_none_of X G b14
  ·exact PySem.W.mg_none_of X G b15
 ·unfold glo_k62 at hg ⊢
  simp only at hg ⊢
  exact absurd rfl hg
 ·unfold glo_k62 at hg
  simp only at hg
  by_cases hg0:g="FEW"
  ·subst hg0;rw [if_pos rfl] at hg;cases hg;exact ⟨_,PySem.W.mg_of X G kc0⟩
  rw [if_neg hg0] at hg
  cases hg
end Ek
theorem PySem.W.Fast.tw16065900642792521732:True:=trivial
theorem PySem.W.Fast.tw13561928972487933105:True:=trivial
theorem PySem.W.Fast.tw14688592823507047593:True:=trivial
theorem PySem.W.Fast.tw7165375590763405341:True:=trivial
theorem PySem.W.Fast.tw4098288318022338469:True:=trivial
theorem PySem.W.Fast.tw11800172739633264318:True:=trivial
theorem PySem.W.Fast.tw16200354684545066115:True:=trivial
theorem PySem.W.Fast.tw10181923666868859380:True:=trivial
theorem PySem.W.Fast.tw3188586314031510383:True:=trivial
theorem PySem.W.Fast.tw5517507285247529620:True:=trivial
theorem PySem.W.Fast.tw15070134874427111548:True:=trivial
theorem PySem.W.Fast.tw1587392351941125189:True:=trivial
theorem PySem.W.Fast.tw11758977923755256901:True:=trivial
theorem PySem.W.Fast.tw13454455480978305112:True:=trivial
theorem PySem.W.Fast.tw404249544200687759:True:=trivial
theorem PySem.W.Fast.tw3092974883222311240:True:=trivial
theorem PySem.W.Fast.tw5677601456215086394:True:=trivial
theorem PySem.W.Fast.tw13844856962751812663:True:=trivial
theorem PySem.W.Fast.tw4498541031605115042:True:=trivial
theorem PySem.W.Fast.tw10870442842006169824:True:=trivial
theorem PySem.W.Fast.tw2511811506301619007:True:=trivial
theorem PySem.W.Fast.tw9991047037281414130:True:=trivial
theorem PySem.W.Fast.tw16142827367412120656:True:=trivial
theorem PySem.W.Fast.tw12672261309871528156:True:=trivial
theorem PySem.W.Fast.tw14608756528009447554:True:=trivial
theorem PySem.W.Fast.tw9018502088646737144:True:=trivial
theorem PySem.W.Fast.tw3736652470913398553:True:=trivial
theorem PySem.W.Fast.tw486760490582496014:True:=trivial
theorem PySem.W.Fast.tw1931871215164391618:True:=trivial
theorem PySem.W.Fast.tw6013956462999942154:True:=trivial
theorem PySem.W.Fast.tw15763711575622279531:True:=trivial
theorem PySem.W.Fast.tw13380412122258823775:True:=trivial
theorem PySem.W.Fast.tw1543151703406325858:True:=trivial
theorem PySem.W.Fast.tw2846827097217694016:True:=trivial
theorem PySem.W.Fast.tw7764989267425400618:True:=trivial
theorem PySem.W.Fast.tw17401309275874689574:True:=trivial
theorem PySem.W.Fast.tw9802132183290444432:True:=trivial
theorem PySem.W.Fast.tw5727293434345785849:True:=trivial
theorem PySem.W.Fast.tw1665612398082048665:True:=trivial
theorem PySem.W.Fast.tw15725672704780552760:True:=trivial
theorem PySem.W.Fast.tw428857356155355906:True:=trivial
theorem PySem.W.Fast.tw13239943506928464465:True:=trivial
theorem PySem.W.Fast.tw6233345224457217329:True:=trivial
theorem PySem.W.Fast.tw13382514617500764988:True:=trivial
theorem PySem.W.Fast.tw15473635806048994412:True:=trivial
theorem PySem.W.Fast.tw4515611124816620033:True:=trivial
theorem PySem.W.Fast.tw18307243265692050246:True:=trivial
theorem PySem.W.Fast.tw1762048760301787886:True:=trivial
theorem PySem.W.Fast.tw9278836452582420741:True:=trivial
theorem PySem.W.Fast.tw2583504467647265437:True:=trivial
theorem PySem.W.Fast.tw16294542562881904166:True:=trivial
theorem PySem.W.Fast.tw6527491072371230710:True:=trivial
theorem PySem.W.Fast.tw1973024239434892777:True:=trivial
theorem PySem.W.Fast.tw4483609952566304071:True:=trivial
theorem PySem.W.Fast.tw6939238474608711041:True:=trivial
theorem PySem.W.Fast.tw15358471946377891123:True:=trivial
theorem PySem.W.Fast.tw3551490167586224297:True:=trivial
theorem PySem.W.Fast.tw6626169362679629536:True:=trivial
theorem PySem.W.Fast.tw3031695850738562762:True:=trivial
theorem PySem.W.Fast.tw13458617153335983412:True:=trivial
theorem PySem.W.Fast.tw4059277578693177159:True:=trivial
theorem PySem.W.Fast.tw17093129736729375448:True:=trivial
theorem PySem.W.Fast.tw11299887487881842188:True:=trivial
theorem PySem.W.Fast.tw16822436540036923288:True:=trivial
theorem PySem.W.Fast.tw11606712563890547668:True:=trivial
theorem PySem.W.Fast.tw16030041128595580825:True:=trivial
theorem PySem.W.Fast.tw15244918244522472810:True:=trivial
theorem PySem.W.Fast.tw8104159640611406600:True:=trivial
theorem PySem.W.Fast.tw16076916761793784550:True:=trivial
theorem PySem.W.Fast.tw12458599700749144709:True:=trivial
theorem PySem.W.Fast.tw17502321789980917169:True:=trivial
theorem PySem.W.Fast.tw4445925143051177370:True:=trivial
theorem PySem.W.Fast.tw2734497985387995236:True:=trivial
theorem PySem.W.Fast.tw6876435718972977397:True:=trivial
theorem PySem.W.Fast.tw16462073617516968040:True:=trivial
theorem PySem.W.Fast.tw4536260218981212689:True:=trivial
theorem PySem.W.Fast.tw14525449489847615201:True:=trivial
theorem PySem.W.Fast.tw11816067359633771483:True:=trivial
theorem PySem.W.Fast.tw15728667762747319755:True:=trivial
theorem PySem.W.Fast.tw14463083471675588849:True:=trivial
theorem PySem.W.Fast.tw3205250693233145626:True:=trivial
theorem PySem.W.Fast.tw10476060395844929972:True:=trivial
theorem PySem.W.Fast.tw15530028569880875980:True:=trivial
theorem PySem.W.Fast.tw4439561264922043001:True:=trivial
theorem PySem.W.Fast.tw1314036151897111353:True:=trivial
theorem PySem.W.Fast.tw791023657896447423:True:=trivial
theorem PySem.W.Fast.tw8342679565353626873:True:=trivial
theorem PySem.W.Fast.tw2186802445264345064:True:=trivial
theorem PySem.W.Fast.tw6816163157325714810:True:=trivial
theorem PySem.W.Fast.tw17946344897163713991:True:=trivial
theorem PySem.W.Fast.tw5284942952699169395:True:=trivial
theorem PySem.W.Fast.tw7609515984909223926:True:=trivial
theorem PySem.W.Fast.tw14760489994116024676:True:=trivial
theorem PySem.W.Fast.tw8523908368224288921:True:=trivial
theorem PySem.W.Fast.tw14996689759975314772:True:=trivial
theorem PySem.W.Fast.tw16478575121422135066:True:=trivial
theorem PySem.W.Fast.tw4136435888620579257:True:=trivial
theorem PySem.W.Fast.tw17443335029669362781:True:=trivial
theorem PySem.W.Fast.tw1757848365902433140:True:=trivial
theorem PySem.W.Fast.tw8426620767856557616:True:=trivial
theorem PySem.W.Fast.tw996532677125489304:True:=trivial
theorem PySem.W.Fast.tw8789665446128569743:True:=trivial
theorem PySem.W.Fast.tw7037539700304033459:True:=trivial
theorem PySem.W.Fast.tw11698787061585178076:True:=trivial
open PySem PySem.W PyProof.Rows
set_option maxRecDepth 100000 in
set_option maxHeartbeats 0 in
theorem PySem.Challenge.cw_evenkinds_k62_unlike_tables_holds : PySem.Challenge.rw_evenkinds_k62_unlike_tables.Holds := by
 w_on;o_law;k_head;(case hw=>w_witness2)
 k_fill
 refine Ek.ek_walk (l:=PySem.Challenge.rw_evenkinds_k62_unlike_tables) (P:=Ek.prg_k62) (G:=Ek.glo_k62) (n:=200) (x:="_law_script") (dl:=Ek.d_law_k62) rfl rfl rfl ⟨rfl,by decide,by decide⟩ (fun w h Y=>⟨PySem.W.km_in_of Y,PySem.W.km_tabs_of Y⟩) rfl ?hst ?F Ek.core62_st
 case hst=>
  intro st y ps S
  have e:=S.sc.pre
  have e2:=S.np
  rw [e2] at e
  exact e.symm
 case F=>
  intro w mg h KX G
  refine' Ek.all_mk KX G ?a0 ?l0 ?c0 ?k0 ?a1 ?l1 ?c1 ?k1 ?a2 ?l2 ?c2 ?k2 ?a3 ?l3 ?c3 ?k3 ?a4 ?l4 ?c4 ?k4 ?a5 ?l5 ?c5 ?k5 ?a6 ?l6 ?c6 ?k6 ?a7 ?l7 ?c7 ?k7 ?a8 ?l8 ?c8 ?k8 ?a9 ?l9 ?c9 ?k9 ?a10 ?l10 ?c10 ?k10 ?a11 ?l11 ?c11 ?k11 ?a12 ?l12 ?c12 ?k12 ?a13 ?l13 ?c13 ?k13 ?a14 ?l14 ?c14 ?k14 ?a15 ?l15 ?c15 ?k15 ?a16 ?l16 ?c16 ?k16 ?a17 ?l17 ?c17 ?k17 ?a18 ?l18 ?c18 ?k18 ?a19 ?l19 ?c19 ?k19 ?a20 ?l20 ?c20 ?k20 ?a21 ?l21 ?c21 ?k21 ?a22 ?l22 ?c22 ?k22 ?a23 ?l23 ?c23 ?k23 ?a24 ?l24 ?c24 ?k24 ?a25 ?l25 ?c25 ?k25 ?a26 ?l26 ?c26 ?k26 ?a27 ?l27 ?c27 ?k27 ?a28 ?l28 ?c28 ?k28 ?a29 ?l29 ?c29 ?k29 ?a30 ?l30 ?c30 ?k30 ?a31 ?l31 ?c31 ?k31 ?a32 ?l32 ?c32 ?k32 ?b0 ?b1 ?b2 ?b3 ?b4 ?b5 ?b6 ?b7 ?b8 ?b9 ?b10 ?b11 ?b12 ?b13 ?b14 ?b15  ?kc0 ?ht4 ?hd4 ?hm4     ?nl ?nt ?tso
  (case a0=>k_is);(case l0=>k_is);(case c0=>k_is);(case k0=>k_is)
  (case a1=>k_is);(case l1=>k_is);(case c1=>k_is);(case k1=>k_is)
  (case a2=>k_is);(case l2=>k_is);(case c2=>k_is);(case k2=>k_is)
  (case a3=>k_is);(case l3=>k_is);(case c3=>k_is);(case k3=>k_is)
  (case a4=>k_is);(case l4=>k_is);(case c4=>k_is);(case k4=>k_is)
  (case a5=>k_is);(case l5=>k_is);(case c5=>k_is);(case k5=>k_is)
  (case a6=>k_is);(case l6=>k_is);(case c6=>k_is);(case k6=>k_is)
  (case a7=>k_is);(case l7=>k_is);(case c7=>k_is);(case k7=>k_is)
  (case a8=>k_is);(case l8=>k_is);(case c8=>k_is);(case k8=>k_is)
  (case a9=>k_is);(case l9=>k_is);(case c9=>k_is);(case k9=>k_is)
  (case a10=>k_is);(case l10=>k_is);(case c10=>k_is);(case k10=>k_is)
  (case a11=>k_is);(case l11=>k_is);(case c11=>k_is);(case k11=>k_is)
  (case a12=>k_is);(case l12=>k_is);(case c12=>k_is);(case k12=>k_is)
  (case a13=>k_is);(case l13=>k_is);(case c13=>k_is);(case k13=>k_is)
  (case a14=>k_is);(case l14=>k_is);(case c14=>k_is);(case k14=>k_is)
  (case a15=>k_is);(case l15=>k_is);(case c15=>k_is);(case k15=>k_is)
  (case a16=>k_is);(case l16=>k_is);(case c16=>k_is);(case k16=>k_is)
  (case a17=>k_is);(case l17=>k_is);(case c17=>k_is);(case k17=>k_is)
  (case a18=>k_is);(case l18=>k_is);(case c18=>k_is);(case k18=>k_is)
  (case a19=>k_is);(case l19=>k_is);(case c19=>k_is);(case k19=>k_is)
  (case a20=>k_is);(case l20=>k_is);(case c20=>k_is);(case k20=>k_is)
  (case a21=>k_is);(case l21=>k_is);(case c21=>k_is);(case k21=>k_is)
  (case a22=>k_is);(case l22=>k_is);(case c22=>k_is);(case k22=>k_is)
  (case a23=>k_is);(case l23=>k_is);(case c23=>k_is);(case k23=>k_is)
  (case a24=>k_is);(case l24=>k_is);(case c24=>k_is);(case k24=>k_is)
  (case a25=>k_is);(case l25=>k_is);(case c25=>k_is);(case k25=>k_is)
  (case a26=>k_is);(case l26=>k_is);(case c26=>k_is);(case k26=>k_is)
  (case a27=>k_is);(case l27=>k_is);(case c27=>k_is);(case k27=>k_is)
  (case a28=>k_is);(case l28=>k_is);(case c28=>k_is);(case k28=>k_is)
  (case a29=>k_is);(case l29=>k_is);(case c29=>k_is);(case k29=>k_is)
  (case a30=>k_is);(case l30=>k_is);(case c30=>k_is);(case k30=>k_is)
  (case a31=>k_is);(case l31=>k_is);(case c31=>k_is);(case k31=>k_is)
  (case a32=>k_is);(case l32=>k_is);(case c32=>k_is);(case k32=>k_is)
  (case b0=>k_is)
  (case b1=>k_is)
  (case b2=>k_is)
  (case b3=>k_is)
  (case b4=>k_is)
  (case b5=>k_is)
  (case b6=>k_is)
  (case b7=>k_is)
  (case b8=>k_is)
  (case b9=>k_is)
  (case b10=>k_is)
  (case b11=>k_is)
  (case b12=>k_is)
  (case b13=>k_is)
  (case b14=>k_is)
  (case b15=>k_is)
  (case kc0=>k_is)
  (case ht4=>rfl);(case hd4=>kernel_rfl);(case hm4=>decide)
  (case nl=>rfl);(case nt=>rfl);(case tso=>rfl)
#print axioms PySem.Challenge.cw_evenkinds_k62_unlike_tables_holds
